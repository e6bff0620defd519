/-
  The mathematics of layer 3: numbers, texts and rows as bytes; how they are read; that what is written is read, and that nothing is read in two ways. No condition.
-/
namespace Go.Proofs.YtggecdgomgmhmaaDoor.Pk

/-- A number's bytes: seven bits in each, the lowest first. -/
def num (n : Nat) : List UInt8 := if n < 128 then [UInt8.ofNat n] else UInt8.ofNat (n % 128 + 128) :: num (n / 128)
theorem num_lt {n : Nat} (h : n < 128) : num n = [UInt8.ofNat n] := by rw [num, if_pos h]
theorem num_ge {n : Nat} (h : 128 ≤ n) : num n = UInt8.ofNat (n % 128 + 128) :: num (n / 128) := by rw [num, if_neg (by omega)]
theorem num_pos (n : Nat) : 0 < (num n).length := by
  by_cases h : n < 128
  · rw [num_lt h]; simp
  · rw [num_ge (by omega)]; simp
theorem toNat_ofNat {n : Nat} (h : n < 256) : (UInt8.ofNat n).toNat = n := by simp [UInt8.toNat_ofNat']; omega

/-- Reading a number, from its byte i on, with what is read so far. -/
def dec (most : Nat) : Nat → Nat → List UInt8 → Option (Nat × List UInt8)
  | _, _, [] => none
  | i, acc, b :: r =>
    if 10 ≤ i ∨ (i = 9 ∧ 1 < b.toNat) then none
    else if 128 ≤ b.toNat then dec most (i + 1) (acc + b.toNat % 128 * 2 ^ (7 * i)) r
    else if (b.toNat = 0 ∧ 0 < i) ∨ most < acc + b.toNat % 128 * 2 ^ (7 * i) then none
    else some (acc + b.toNat % 128 * 2 ^ (7 * i), r)

theorem pow_step (i : Nat) : 2 ^ (7 * (i + 1)) = 128 * 2 ^ (7 * i) := by
  rw [show 7 * (i + 1) = 7 * i + 7 by omega, Nat.pow_add]
  omega

/-- What was written is read, if it is within the bound. -/
theorem dec_num_aux (most : Nat) (r : List UInt8) : ∀ (m i acc : Nat), i ≤ 9 → (0 < i → 0 < m) → m < 2 ^ (64 - 7 * i) →
    dec most i acc (num m ++ r) = if acc + m * 2 ^ (7 * i) ≤ most then some (acc + m * 2 ^ (7 * i), r) else none := by
  intro m
  induction m using Nat.strongRecOn with
  | _ m ih =>
    intro i acc hi hpos hm
    have h9 : i = 9 → m < 2 := by rintro rfl; simpa using hm
    by_cases h : m < 128
    · rw [num_lt h]
      simp only [List.cons_append, List.nil_append, dec, toNat_ofNat (show m < 256 by omega)]
      rw [if_neg (by omega), if_neg (by omega), Nat.mod_eq_of_lt h]
      by_cases hle : acc + m * 2 ^ (7 * i) ≤ most
      · rw [if_pos hle, if_neg (by omega)]
      · rw [if_neg hle, if_pos (by omega)]
    · have hb : m % 128 + 128 < 256 := by omega
      have hi8 : i ≤ 8 := by
        rcases Nat.lt_or_ge i 9 with h1 | h1
        · omega
        · have := h9 (by omega); omega
      rw [num_ge (by omega)]
      simp only [List.cons_append, dec, toNat_ofNat hb]
      rw [if_neg (by omega), if_pos (by omega), ih (m / 128) (by omega) (i + 1) _ (by omega) (by intro _; omega) (by
        have e : 2 ^ (64 - 7 * i) = 128 * 2 ^ (64 - 7 * (i + 1)) := by
          rw [show 64 - 7 * i = (64 - 7 * (i + 1)) + 7 by omega, Nat.pow_add]; omega
        rw [e] at hm
        exact Nat.div_lt_of_lt_mul hm)]
      have e : acc + (m % 128 + 128) % 128 * 2 ^ (7 * i) + m / 128 * 2 ^ (7 * (i + 1)) = acc + m * 2 ^ (7 * i) := by
        rw [pow_step, show (m % 128 + 128) % 128 = m % 128 by omega, ← Nat.mul_assoc, Nat.add_assoc, ← Nat.add_mul]
        congr 2
        omega
      rw [e]
theorem dec_num (most n : Nat) (r : List UInt8) (h : n < 2 ^ 64) : dec most 0 0 (num n ++ r) = if n ≤ most then some (n, r) else none := by
  have := dec_num_aux most r n 0 0 (by omega) (by omega) (by simpa using h)
  simpa using this

/-- Whatever is read has just its number's bytes. -/
theorem num_of_dec (most : Nat) : ∀ (s : List UInt8) (i acc v : Nat) (r : List UInt8), dec most i acc s = some (v, r) →
    ∃ m, s = num m ++ r ∧ v = acc + m * 2 ^ (7 * i) ∧ v ≤ most ∧ (0 < i → 0 < m) ∧ m < 2 ^ (64 - 7 * i) ∧ i ≤ 9
  | [], _, _, _, _, h => by simp [dec] at h
  | b :: s, i, acc, v, r, h => by
    have hb := b.toNat_lt
    simp only [dec] at h
    by_cases h1 : 10 ≤ i ∨ (i = 9 ∧ 1 < b.toNat)
    · rw [if_pos h1] at h; cases h
    · rw [if_neg h1] at h
      by_cases h2 : 128 ≤ b.toNat
      · rw [if_pos h2] at h
        obtain ⟨m, rfl, hv, hle, hp, hm, hi⟩ := num_of_dec most s _ _ _ _ h
        have hm0 := hp (by omega)
        have e1 : (b.toNat - 128 + 128 * m) % 128 = b.toNat - 128 := by omega
        have e2 : (b.toNat - 128 + 128 * m) / 128 = m := by omega
        refine ⟨b.toNat - 128 + 128 * m, ?_, ?_, hle, by omega, ?_, by omega⟩
        · rw [num_ge (n := b.toNat - 128 + 128 * m) (by omega), e1, e2, show b.toNat - 128 + 128 = b.toNat by omega]
          simp
        · rw [hv, pow_step, show b.toNat % 128 = b.toNat - 128 by omega, ← Nat.mul_assoc, Nat.add_assoc, ← Nat.add_mul]
          congr 2
          omega
        · have e : 2 ^ (64 - 7 * i) = 128 * 2 ^ (64 - 7 * (i + 1)) := by
            rw [show 64 - 7 * i = (64 - 7 * (i + 1)) + 7 by omega, Nat.pow_add]; omega
          rw [e]
          omega
      · rw [if_neg h2] at h
        by_cases h3 : (b.toNat = 0 ∧ 0 < i) ∨ most < acc + b.toNat % 128 * 2 ^ (7 * i)
        · rw [if_pos h3] at h; cases h
        · rw [if_neg h3] at h
          simp only [Option.some.injEq, Prod.mk.injEq] at h
          obtain ⟨rfl, rfl⟩ := h
          have hmod : b.toNat % 128 = b.toNat := by omega
          refine ⟨b.toNat, ?_, by rw [hmod], by omega, by omega, ?_, by omega⟩
          · rw [num_lt (by omega)]; simp
          · rcases Nat.lt_or_ge i 9 with h9 | h9
            · have : 2 ^ 7 ≤ 2 ^ (64 - 7 * i) := Nat.pow_le_pow_right (by omega) (by omega)
              omega
            · have : i = 9 := by omega
              subst this
              show b.toNat < 2
              omega
theorem dec_some {most : Nat} {s r : List UInt8} {v : Nat} (h : dec most 0 0 s = some (v, r)) : s = num v ++ r ∧ v ≤ most ∧ v < 2 ^ 64 := by
  obtain ⟨m, hs, hv, hle, _, hm, _⟩ := num_of_dec most s 0 0 v r h
  have : v = m := by simpa using hv
  subst this
  exact ⟨hs, hle, by simpa using hm⟩
theorem num_inj {a b : Nat} (x y : List UInt8) (ha : a < 2 ^ 64) (hb : b < 2 ^ 64) (h : num a ++ x = num b ++ y) : a = b ∧ x = y := by
  have h1 := dec_num (2 ^ 64) a x ha
  rw [h, dec_num (2 ^ 64) b y hb, if_pos (by omega), if_pos (by omega)] at h1
  simp only [Option.some.injEq, Prod.mk.injEq] at h1
  exact ⟨h1.1.symm, h1.2.symm⟩

/-- How many bytes a number has. -/
theorem num_len_step {n : Nat} (h : 128 ≤ n) : (num n).length = (num (n / 128)).length + 1 := by rw [num_ge h]; simp
theorem num_len_mono : ∀ (a b : Nat), a ≤ b → (num a).length ≤ (num b).length := by
  intro a
  induction a using Nat.strongRecOn with
  | _ a ih =>
    intro b hab
    by_cases h : a < 128
    · rw [num_lt h]
      exact num_pos b
    · rw [num_len_step (by omega), num_len_step (show 128 ≤ b by omega)]
      have := ih (a / 128) (by omega) (b / 128) (Nat.div_le_div_right hab)
      omega
theorem num_len_le (n : Nat) (h : n < 2 ^ 64) : (num n).length ≤ 10 := by
  have h1 : ∀ k m, m < 2 ^ (7 * (k + 1)) → (num m).length ≤ k + 1 := by
    intro k
    induction k with
    | zero => intro m hm; rw [num_lt (by simpa using hm)]; simp
    | succ k ih =>
      intro m hm
      by_cases h : m < 128
      · rw [num_lt h]; simp
      · rw [num_len_step (by omega)]
        have := ih (m / 128) (by
          rw [pow_step] at hm
          exact Nat.div_lt_of_lt_mul hm)
        omega
  exact h1 9 n (Nat.lt_of_lt_of_le h (Nat.pow_le_pow_right (by omega) (by omega)))

/-! ### Texts and rows -/
def text (t : List UInt8) : List UInt8 := num t.length ++ t
def texts (l : List (List UInt8)) : List UInt8 := l.flatMap text
def row (l : List (List UInt8)) : List UInt8 := num l.length ++ texts l
theorem texts_nil : texts [] = [] := rfl
theorem texts_cons (t : List UInt8) (l : List (List UInt8)) : texts (t :: l) = text t ++ texts l := by simp [texts]
theorem texts_snoc (l : List (List UInt8)) (t : List UInt8) : texts (l ++ [t]) = texts l ++ text t := by simp [texts]

def rtext (most : Int) (s : List UInt8) : Option (List UInt8 × List UInt8) :=
  if most < 0 then none else match dec most.toNat 0 0 s with
    | none => none
    | some (n, r) => if n ≤ r.length then some (r.take n, r.drop n) else none
def rtexts (most : Int) : Nat → List UInt8 → Option (List (List UInt8) × List UInt8)
  | 0, s => some ([], s)
  | n + 1, s => match rtext most s with
    | none => none
    | some (t, r) => match rtexts most n r with
      | none => none
      | some (ts, r') => some (t :: ts, r')
def rrow (many most : Int) (s : List UInt8) : Option (List (List UInt8) × List UInt8) :=
  if many < 0 then none else match dec many.toNat 0 0 s with
    | none => none
    | some (n, r) => rtexts most n r

theorem rtext_text (most : Int) (t r : List UInt8) (h : t.length < 2 ^ 64) (hm : (t.length : Int) ≤ most) : rtext most (text t ++ r) = some (t, r) := by
  unfold rtext text
  rw [if_neg (by omega), List.append_assoc, dec_num _ _ _ h, if_pos (by omega)]
  simp
theorem rtexts_texts (most : Int) (r : List UInt8) : ∀ (l : List (List UInt8)), (∀ t ∈ l, t.length < 2 ^ 64 ∧ (t.length : Int) ≤ most) → rtexts most l.length (texts l ++ r) = some (l, r)
  | [], _ => rfl
  | t :: l, h => by
    have h1 := h t (by simp)
    have h2 := rtexts_texts most r l (fun u hu => h u (by simp [hu]))
    rw [texts_cons, List.append_assoc]
    simp only [List.length_cons, rtexts, rtext_text most t _ h1.1 h1.2, h2]
theorem rrow_row (many most : Int) (l : List (List UInt8)) (r : List UInt8) (hn : l.length < 2 ^ 64) (hm : (l.length : Int) ≤ many) (h : ∀ t ∈ l, t.length < 2 ^ 64 ∧ (t.length : Int) ≤ most) : rrow many most (row l ++ r) = some (l, r) := by
  unfold rrow row
  rw [if_neg (by omega), List.append_assoc, dec_num _ _ _ hn, if_pos (by omega)]
  exact rtexts_texts most r l h
/-- Rows that begin alike are the same. -/
theorem row_inj (a b : List (List UInt8)) (x y : List UInt8) (ha : a.length < 2 ^ 62) (hb : b.length < 2 ^ 62) (ha' : ∀ t ∈ a, t.length < 2 ^ 62) (hb' : ∀ t ∈ b, t.length < 2 ^ 62) (h : row a ++ x = row b ++ y) : a = b ∧ x = y := by
  have h1 := rrow_row (2 ^ 62) (2 ^ 62) a x (by omega) (by omega) (fun t ht => by have := ha' t ht; omega)
  have h2 := rrow_row (2 ^ 62) (2 ^ 62) b y (by omega) (by omega) (fun t ht => by have := hb' t ht; omega)
  rw [h, h2] at h1
  simp only [Option.some.injEq, Prod.mk.injEq] at h1
  exact ⟨h1.1.symm, h1.2.symm⟩
theorem text_inj (a b x y : List UInt8) (ha : a.length < 2 ^ 62) (hb : b.length < 2 ^ 62) (h : text a ++ x = text b ++ y) : a = b ∧ x = y := by
  have h1 := rtext_text (2 ^ 62) a x (by omega) (by omega)
  have h2 := rtext_text (2 ^ 62) b y (by omega) (by omega)
  rw [h, h2] at h1
  simp only [Option.some.injEq, Prod.mk.injEq] at h1
  exact ⟨h1.1.symm, h1.2.symm⟩
/-- What is left of a reading is an end of what was read. -/
theorem dec_rest {most : Nat} {s r : List UInt8} {v : Nat} (h : dec most 0 0 s = some (v, r)) : r.length < s.length := by
  obtain ⟨rfl, _, _⟩ := dec_some h
  have := num_pos v
  simp
  omega
theorem rtext_some {most : Int} {s t r : List UInt8} (h : rtext most s = some (t, r)) : s = text t ++ r ∧ (t.length : Int) ≤ most ∧ t.length < 2 ^ 64 := by
  unfold rtext at h
  by_cases h0 : most < 0
  · rw [if_pos h0] at h; cases h
  · rw [if_neg h0] at h
    cases hd : dec most.toNat 0 0 s with
    | none => rw [hd] at h; cases h
    | some p =>
      obtain ⟨n, q⟩ := p
      rw [hd] at h
      obtain ⟨rfl, hle, hlt⟩ := dec_some hd
      by_cases hn : n ≤ q.length
      · simp only [hn, if_true, Option.some.injEq, Prod.mk.injEq] at h
        obtain ⟨rfl, rfl⟩ := h
        have hl : (q.take n).length = n := by simp; omega
        refine ⟨?_, by rw [hl]; omega, by rw [hl]; exact hlt⟩
        unfold text
        rw [hl, List.append_assoc, List.take_append_drop]
      · simp only [hn, if_false] at h
        cases h
end Go.Proofs.YtggecdgomgmhmaaDoor.Pk
