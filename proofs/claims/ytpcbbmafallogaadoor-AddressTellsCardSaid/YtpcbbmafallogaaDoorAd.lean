/-
  The mathematics of layer 9: names, labels, hosts; mail and phone addresses; what is taken away before they are looked at; masks and parts. No condition.
-/
namespace Go.Proofs.YtpcbbmafallogaaDoor.Ad

/-- a to z, 0 to 9. -/
def isLet (c : UInt8) : Bool := (97 ≤ c.toNat && c.toNat ≤ 122) || (48 ≤ c.toNat && c.toNat ≤ 57)
def nameByte (c : UInt8) : Bool := isLet c || c == 95 || c == 45 || c == 46
/-- A byte of a name, at its place. -/
def nameAt (l : List UInt8) (i : Nat) : Bool := nameByte (l.getD i 0) && (l.getD i 0 != 46 || (i != 0 && i + 1 != l.length && l.getD (i - 1) 0 != 46))
def name (l : List UInt8) : Bool := (List.range l.length).all (nameAt l) && decide (1 ≤ l.length)
/-- A byte of a label, at its place. -/
def labelAt (l : List UInt8) (i : Nat) : Bool := isLet (l.getD i 0) || (l.getD i 0 == 45 && i != 0 && i + 1 != l.length)
def label (l : List UInt8) : Bool := (List.range l.length).all (labelAt l) && decide (1 ≤ l.length) && decide (l.length ≤ 20)
/-- A text, parted at its dots. -/
def splits : List UInt8 → List UInt8 → List (List UInt8)
  | acc, [] => [acc]
  | acc, c :: r => if c = 46 then acc :: splits [] r else splits (acc ++ [c]) r
def host (l : List UInt8) : Bool := (splits [] l).all label && decide (2 ≤ (splits [] l).length)
/-- What stands ahead of the first at, and behind it. -/
def nm (l : List UInt8) : List UInt8 := l.takeWhile (· != 64)
def hs (l : List UInt8) : List UInt8 := l.drop ((nm l).length + 1)
def mailOk (l : List UInt8) : Bool := l.contains 64 && name (nm l) && host (hs l) && decide (l.length ≤ 40)
def digit (c : UInt8) : Bool := 48 ≤ c.toNat && c.toNat ≤ 57
def phoneOk (l : List UInt8) : Bool := decide (9 ≤ l.length) && decide (l.length ≤ 16) && l.getD 0 0 == 43 && l.getD 1 0 != 48 && (l.drop 1).all digit
def ws (c : UInt8) : Bool := c == 32 || c == 9
def trimL (l : List UInt8) : List UInt8 := l.dropWhile ws
def trimR (l : List UInt8) : List UInt8 := (l.reverse.dropWhile ws).reverse
def trim (l : List UInt8) : List UInt8 := trimR (trimL l)
def low1 (c : UInt8) : UInt8 := if 65 ≤ c.toNat ∧ c.toNat ≤ 90 then c + 32 else c
def low (l : List UInt8) : List UInt8 := l.map low1
/-- What stands ahead of the first plus. -/
def pre (l : List UInt8) : List UInt8 := l.takeWhile (· != 43)
def untag (l : List UInt8) : List UInt8 := if (l.drop (pre l).length).contains 64 then pre l ++ (l.drop (pre l).length).dropWhile (· != 64) else l
def mailText (l : List UInt8) : List UInt8 := untag (low (trim l))
def keepP (c : UInt8) : Bool := !(c == 32 || c == 9 || c == 45 || c == 46 || c == 40 || c == 41)
def phoneText (l : List UInt8) : List UInt8 := l.filter keepP
/-- MAIL, PHONE, ANY, KIND, MASK, SPLIT. -/
def mail (l : List UInt8) : Option (List UInt8) := if mailOk (mailText l) then some (mailText l) else none
def phone (l : List UInt8) : Option (List UInt8) := if phoneOk (phoneText l) then some (phoneText l) else none
def any (l : List UInt8) : Option (List UInt8) := if mailOk (mailText l) then some (mailText l) else phone l
def kind (l : List UInt8) : Nat := if mailOk l then 1 else if phoneOk l then 2 else 0
def mask (l : List UInt8) : List UInt8 := if mailOk l then l.take 1 ++ [42, 42, 42] ++ l.drop (nm l).length else if phoneOk l then [43, 42, 42, 42] ++ l.drop (l.length - 2) else [42, 42, 42]
def split (l : List UInt8) : Option (List UInt8 × List UInt8) := if mailOk l then some (nm l, hs l) else none

/-! ### Where the first such byte stands -/
theorem take_while_all (p : UInt8 → Bool) (l : List UInt8) : ∀ c ∈ l.takeWhile p, p c = true := by
  induction l with
  | nil => intro c h; cases h
  | cons a l ih =>
    intro c hc
    rw [List.takeWhile_cons] at hc
    split at hc
    · rename_i ha
      rcases List.mem_cons.1 hc with h | h
      · rw [h]; exact ha
      · exact ih c h
    · cases hc
theorem nm_no (l : List UInt8) : (nm l).contains 64 = false := by
  cases h : (nm l).contains 64 with
  | false => rfl
  | true =>
    have h2 := take_while_all _ _ 64 (by unfold nm at h; simpa using h)
    simp at h2
/-- A text that has an at is its name, an at, and its host. -/
theorem parts (l : List UInt8) (h : l.contains 64 = true) : l = nm l ++ 64 :: hs l := by
  induction l with
  | nil => simp at h
  | cons a l ih =>
    by_cases ha : a = 64
    · subst ha
      simp [nm, hs]
    · have h2 : l.contains 64 = true := by
        simp only [List.contains_cons, Bool.or_eq_true, beq_iff_eq] at h
        rcases h with h | h
        · exact absurd h.symm ha
        · exact h
      have h3 : nm (a :: l) = a :: nm l := by simp [nm, ha]
      have h4 : hs (a :: l) = hs l := by unfold hs; rw [h3]; rfl
      rw [h3, h4, List.cons_append, ← ih h2]
theorem nm_of (a b : List UInt8) (h : a.contains 64 = false) : nm (a ++ 64 :: b) = a := by
  induction a with
  | nil => simp [nm]
  | cons c a ih =>
    have hc : c ≠ 64 := by
      rintro rfl
      simp at h
    have h2 : a.contains 64 = false := by
      simp only [List.contains_cons, Bool.or_eq_false_iff] at h
      exact h.2
    have := ih h2
    unfold nm at this ⊢
    rw [List.cons_append, List.takeWhile_cons, if_pos (by simpa using hc), this]
theorem hs_of (a b : List UInt8) (h : a.contains 64 = false) : hs (a ++ 64 :: b) = b := by
  unfold hs
  rw [nm_of a b h, List.drop_append]
  simp

/-! ### Which bytes there are -/
theorem splits_mem (acc l : List UInt8) : ∀ c, c ∈ l → c = 46 ∨ ∃ p ∈ splits acc l, c ∈ p := by
  have hacc : ∀ (l acc : List UInt8) c, c ∈ acc → ∃ p ∈ splits acc l, c ∈ p := by
    intro l
    induction l with
    | nil => intro acc c h; exact ⟨acc, by simp [splits], h⟩
    | cons a l ih =>
      intro acc c h
      unfold splits
      by_cases ha : a = 46
      · rw [if_pos ha]; exact ⟨acc, by simp, h⟩
      · rw [if_neg ha]; exact ih (acc ++ [a]) c (by simp [h])
  induction l generalizing acc with
  | nil => intro c h; cases h
  | cons a l ih =>
    intro c hc
    unfold splits
    by_cases ha : a = 46
    · rw [if_pos ha]
      rcases List.mem_cons.1 hc with h | h
      · exact .inl (h.trans ha)
      · rcases ih [] c h with h2 | ⟨p, hp, hcp⟩
        · exact .inl h2
        · exact .inr ⟨p, by simp [hp], hcp⟩
    · rw [if_neg ha]
      rcases List.mem_cons.1 hc with h | h
      · exact .inr (hacc l (acc ++ [a]) c (by simp [h]))
      · exact ih (acc ++ [a]) c h
theorem all_at {l : List UInt8} {f : Nat → Bool} (h : (List.range l.length).all f = true) {c : UInt8} (hc : c ∈ l) : ∃ i, l.getD i 0 = c ∧ f i = true := by
  obtain ⟨i, hi, rfl⟩ := List.mem_iff_getElem.1 hc
  refine ⟨i, ?_, List.all_eq_true.1 h i (List.mem_range.2 hi)⟩
  rw [List.getD_eq_getElem?_getD, List.getElem?_eq_getElem hi]
  rfl
theorem name_byte {l : List UInt8} (h : name l = true) : ∀ c ∈ l, nameByte c = true := by
  intro c hc
  unfold name at h
  rw [Bool.and_eq_true] at h
  obtain ⟨i, rfl, h2⟩ := all_at h.1 hc
  unfold nameAt at h2
  rw [Bool.and_eq_true] at h2
  exact h2.1
theorem label_byte {l : List UInt8} (h : label l = true) : ∀ c ∈ l, (isLet c || c == 45) = true := by
  intro c hc
  unfold label at h
  simp only [Bool.and_eq_true] at h
  obtain ⟨i, rfl, h2⟩ := all_at h.1.1 hc
  unfold labelAt at h2
  simp only [Bool.or_eq_true, Bool.and_eq_true] at h2 ⊢
  rcases h2 with h2 | h2
  · exact .inl h2
  · exact .inr h2.1.1
theorem host_byte {l : List UInt8} (h : host l = true) : ∀ c ∈ l, nameByte c = true := by
  intro c hc
  unfold host at h
  rw [Bool.and_eq_true] at h
  unfold nameByte
  rcases splits_mem [] l c hc with rfl | ⟨p, hp, hcp⟩
  · rfl
  · have := label_byte (List.all_eq_true.1 h.1 p hp) c hcp
    simp only [Bool.or_eq_true] at this ⊢
    rcases this with h2 | h2
    · exact .inl (.inl (.inl h2))
    · exact .inl (.inr h2)
/-- A byte of a mail address. -/
def mailByte (c : UInt8) : Bool := nameByte c || c == 64
theorem mail_byte {l : List UInt8} (h : mailOk l = true) : ∀ c ∈ l, mailByte c = true := by
  unfold mailOk at h
  simp only [Bool.and_eq_true] at h
  obtain ⟨⟨⟨h1, h2⟩, h3⟩, _⟩ := h
  intro c hc
  rw [parts l h1] at hc
  unfold mailByte
  rcases List.mem_append.1 hc with hc | hc
  · rw [name_byte h2 c hc]; rfl
  · rcases List.mem_cons.1 hc with rfl | hc
    · simp
    · rw [host_byte h3 c hc]; rfl
theorem byte_facts (c : UInt8) (h : mailByte c = true) : ws c = false ∧ low1 c = c ∧ c ≠ 43 := by
  have : ∀ n, n < 256 → mailByte (UInt8.ofNat n) = true → ws (UInt8.ofNat n) = false ∧ low1 (UInt8.ofNat n) = UInt8.ofNat n ∧ UInt8.ofNat n ≠ 43 := by decide +kernel
  have h2 := this c.toNat c.toNat_lt
  rw [UInt8.ofNat_toNat] at h2
  exact h2 h

/-! ### What is not changed -/
theorem dropWhile_none (p : UInt8 → Bool) (l : List UInt8) (h : ∀ c ∈ l, p c = false) : l.dropWhile p = l := by
  cases l with
  | nil => rfl
  | cons a l => rw [List.dropWhile_cons, if_neg (by rw [h a (by simp)]; decide)]
theorem trim_self (l : List UInt8) (h : ∀ c ∈ l, ws c = false) : trim l = l := by
  unfold trim trimR trimL
  rw [dropWhile_none _ _ h, dropWhile_none _ _ (fun c hc => h c (List.mem_reverse.1 hc)), List.reverse_reverse]
theorem low_self (l : List UInt8) (h : ∀ c ∈ l, low1 c = c) : low l = l := by
  unfold low
  conv => rhs; rw [← List.map_id l]
  exact List.map_congr_left h
theorem pre_none (l : List UInt8) (h : ∀ c ∈ l, c ≠ 43) : pre l = l := by
  induction l with
  | nil => rfl
  | cons a l ih =>
    unfold pre at ih ⊢
    rw [List.takeWhile_cons, if_pos (by simpa using h a (by simp)), ih (fun c hc => h c (by simp [hc]))]
theorem untag_self (l : List UInt8) (h : ∀ c ∈ l, c ≠ 43) : untag l = l := by
  unfold untag
  rw [pre_none l h, List.drop_length]
  rfl
theorem mailText_self {l : List UInt8} (h : mailOk l = true) : mailText l = l := by
  have hb := mail_byte h
  unfold mailText
  rw [trim_self l (fun c hc => (byte_facts c (hb c hc)).1), low_self l (fun c hc => (byte_facts c (hb c hc)).2.1), untag_self l (fun c hc => (byte_facts c (hb c hc)).2.2)]
/-- MAIL ADDRESSES ARE WRITTEN IN ONE WAY. -/
theorem mail_once {l t : List UInt8} (h : mail l = some t) : mailOk t = true ∧ mail t = some t ∧ kind t = 1 ∧ t.length ≤ 40 := by
  unfold mail at h
  split at h
  · rename_i h1
    obtain rfl := Option.some.inj h
    refine ⟨h1, ?_, by unfold kind; rw [if_pos h1], ?_⟩
    · unfold mail
      rw [mailText_self h1, if_pos h1]
    · unfold mailOk at h1
      simp only [Bool.and_eq_true, decide_eq_true_eq] at h1
      exact h1.2
  · cases h
theorem phone_byte {l : List UInt8} (h : phoneOk l = true) : ∀ c ∈ l, keepP c = true ∧ c ≠ 64 := by
  unfold phoneOk at h
  simp only [Bool.and_eq_true, decide_eq_true_eq, beq_iff_eq] at h
  obtain ⟨⟨⟨⟨h9, _⟩, h1⟩, _⟩, h2⟩ := h
  have hd : ∀ c : UInt8, digit c = true → keepP c = true ∧ c ≠ 64 := by
    intro c hc
    have : ∀ n, n < 256 → digit (UInt8.ofNat n) = true → keepP (UInt8.ofNat n) = true ∧ UInt8.ofNat n ≠ 64 := by decide +kernel
    have h2 := this c.toNat c.toNat_lt
    rw [UInt8.ofNat_toNat] at h2
    exact h2 hc
  cases l with
  | nil => simp at h9
  | cons a l =>
    intro c hc
    rcases List.mem_cons.1 hc with rfl | hc
    · simp at h1
      subst h1
      exact ⟨rfl, by decide⟩
    · exact hd c (List.all_eq_true.1 h2 c (by simpa using hc))
theorem phoneText_self {l : List UInt8} (h : phoneOk l = true) : phoneText l = l := by
  unfold phoneText
  rw [List.filter_eq_self]
  exact fun c hc => (phone_byte h c hc).1
/-- Nothing is both. -/
theorem not_both (l : List UInt8) (h1 : mailOk l = true) : phoneOk l = false := by
  cases h : phoneOk l with
  | false => rfl
  | true =>
    unfold mailOk at h1
    simp only [Bool.and_eq_true] at h1
    exact absurd rfl (phone_byte h 64 (by simpa using h1.1.1.1)).2
theorem phone_once {l t : List UInt8} (h : phone l = some t) : phoneOk t = true ∧ phone t = some t ∧ kind t = 2 ∧ t.length ≤ 16 := by
  unfold phone at h
  split at h
  · rename_i h1
    obtain rfl := Option.some.inj h
    refine ⟨h1, ?_, ?_, ?_⟩
    · unfold phone
      rw [phoneText_self h1, if_pos h1]
    · unfold kind
      rw [if_neg (fun h2 => by rw [not_both _ h2] at h1; cases h1), if_pos h1]
    · unfold phoneOk at h1
      simp only [Bool.and_eq_true, decide_eq_true_eq] at h1
      exact h1.1.1.1.2
  · cases h
theorem dropWhile_mem {p : UInt8 → Bool} {l : List UInt8} {c : UInt8} (h : c ∈ l.dropWhile p) : c ∈ l := (List.dropWhile_sublist p).subset h
theorem untag_mem {l : List UInt8} {c : UInt8} (h : c ∈ untag l) : c ∈ l := by
  unfold untag at h
  split at h
  · rcases List.mem_append.1 h with h | h
    · exact (List.takeWhile_sublist _).subset h
    · exact List.mem_of_mem_drop (dropWhile_mem h)
  · exact h
theorem trim_mem {l : List UInt8} {c : UInt8} (h : c ∈ trim l) : c ∈ l := by
  unfold trim trimR trimL at h
  exact dropWhile_mem (List.mem_reverse.1 (dropWhile_mem (List.mem_reverse.1 h)))
theorem low1_at (c : UInt8) (h : low1 c = 64) : c = 64 := by
  have : ∀ n, n < 256 → low1 (UInt8.ofNat n) = 64 → UInt8.ofNat n = 64 := by decide +kernel
  have h2 := this c.toNat c.toNat_lt
  rw [UInt8.ofNat_toNat] at h2
  exact h2 h
theorem mail_at {l : List UInt8} (h : mailOk (mailText l) = true) : (64 : UInt8) ∈ l := by
  unfold mailOk at h
  simp only [Bool.and_eq_true] at h
  have h1 : (64 : UInt8) ∈ mailText l := by simpa using h.1.1.1
  have h2 := untag_mem h1
  unfold low at h2
  obtain ⟨c, hc, hc2⟩ := List.mem_map.1 h2
  rw [low1_at c hc2] at hc
  exact trim_mem hc
/-- NOTHING IS A MAIL ADDRESS AND A PHONE. -/
theorem never_both (l : List UInt8) (h1 : mailOk (mailText l) = true) : phoneOk (phoneText l) = false := by
  cases h : phoneOk (phoneText l) with
  | false => rfl
  | true =>
    have h2 : (64 : UInt8) ∈ phoneText l := by
      unfold phoneText
      exact List.mem_filter.2 ⟨mail_at h1, rfl⟩
    exact absurd rfl (phone_byte h 64 h2).2

/-! ### Parts -/
theorem name_no {l : List UInt8} (h : name l = true) : l.contains 64 = false := by
  cases hc : l.contains 64 with
  | false => rfl
  | true =>
    have := name_byte h 64 (by simpa using hc)
    exact absurd this (by decide)
theorem host_no {l : List UInt8} (h : host l = true) : l.contains 64 = false := by
  cases hc : l.contains 64 with
  | false => rfl
  | true =>
    have := host_byte h 64 (by simpa using hc)
    exact absurd this (by decide)
theorem kind_name {l : List UInt8} (h : name l = true) : kind l = 0 := by
  have h1 : mailOk l = false := by unfold mailOk; rw [name_no h]; rfl
  have h2 : phoneOk l = false := by
    cases hp : phoneOk l with
    | false => rfl
    | true =>
      unfold phoneOk at hp
      simp only [Bool.and_eq_true, decide_eq_true_eq, beq_iff_eq] at hp
      cases l with
      | nil => simp at hp
      | cons a l =>
        have ha : a = 43 := by simpa using hp.1.1.2
        have := name_byte h a (by simp)
        rw [ha] at this
        exact absurd this (by decide)
  unfold kind
  rw [h1, h2]
  rfl
theorem mailOk_of {a b : List UInt8} (ha : name a = true) (hb : host b = true) (hl : a.length + 1 + b.length ≤ 40) : mailOk (a ++ 64 :: b) = true := by
  unfold mailOk
  rw [nm_of a b (name_no ha), hs_of a b (name_no ha), ha, hb]
  simp
  omega
theorem mailOk_parts {l : List UInt8} (h : mailOk l = true) : l = nm l ++ 64 :: hs l ∧ name (nm l) = true ∧ host (hs l) = true ∧ l.length ≤ 40 ∧ 1 ≤ (nm l).length := by
  unfold mailOk at h
  simp only [Bool.and_eq_true, decide_eq_true_eq] at h
  refine ⟨parts l h.1.1.1, h.1.1.2, h.1.2, h.2, ?_⟩
  have := h.1.1.2
  unfold name at this
  simp only [Bool.and_eq_true, decide_eq_true_eq] at this
  exact this.2
/-- Another name at the same host. -/
theorem mailOk_z {l : List UInt8} (h : mailOk l = true) : mailOk (122 :: 64 :: hs l) = true := by
  obtain ⟨h1, h2, h3, h4, h5⟩ := mailOk_parts h
  have hl := congrArg List.length h1
  rw [List.length_append, List.length_cons] at hl
  have := mailOk_of (a := [122]) (b := hs l) (by decide) h3 (by simp; omega)
  exact this

/-! ### For loops over bytes -/
theorem name_false {l : List UInt8} {i : Nat} (h : i < l.length) (hn : nameAt l i = false) : name l = false := by
  unfold name
  have : (List.range l.length).all (nameAt l) = false := by
    rw [List.all_eq_false]
    exact ⟨i, List.mem_range.2 h, by rw [hn]; decide⟩
  rw [this]
  rfl
theorem range_all_succ (f : Nat → Bool) (i : Nat) (h : (List.range i).all f = true) (hf : f i = true) : (List.range (i + 1)).all f = true := by
  rw [List.range_succ, List.all_append, h]
  simp [hf]
theorem name_end {l : List UInt8} (h : (List.range l.length).all (nameAt l) = true) : name l = decide (1 ≤ l.length) := by
  unfold name
  rw [h, Bool.true_and]
theorem label_false {l : List UInt8} {i : Nat} (h : i < l.length) (hn : labelAt l i = false) : label l = false := by
  unfold label
  have : (List.range l.length).all (labelAt l) = false := by
    rw [List.all_eq_false]
    exact ⟨i, List.mem_range.2 h, by rw [hn]; decide⟩
  rw [this]
  rfl
theorem label_end {l : List UInt8} (h : (List.range l.length).all (labelAt l) = true) : label l = (decide (1 ≤ l.length) && decide (l.length ≤ 20)) := by
  unfold label
  rw [h, Bool.true_and]
/-- Bytes that are no dots go on with a label. -/
theorem splits_go (acc a r : List UInt8) (h : ∀ c ∈ a, c ≠ 46) : splits acc (a ++ r) = splits (acc ++ a) r := by
  induction a generalizing acc with
  | nil => simp
  | cons c a ih =>
    rw [List.cons_append]
    conv => lhs; unfold splits
    rw [if_neg (h c (by simp)), ih (acc ++ [c]) (fun x hx => h x (by simp [hx]))]
    simp
theorem splits_dot (acc r : List UInt8) : splits acc (46 :: r) = acc :: splits [] r := by
  conv => lhs; unfold splits
  rw [if_pos rfl]
theorem splits_end (acc : List UInt8) : splits acc [] = [acc] := rfl
/-- Parted so far: the labels that are whole, the bytes since, what is to come. -/
theorem splits_from (l : List UInt8) (done : List (List UInt8)) (frm i : Nat) (hi : frm ≤ i) (hil : i ≤ l.length) (h : splits [] l = done ++ splits ((l.drop frm).take (i - frm)) (l.drop i)) :
    (∀ hlt : i < l.length, l[i] ≠ 46 → splits [] l = done ++ splits ((l.drop frm).take (i + 1 - frm)) (l.drop (i + 1))) ∧
    (∀ hlt : i < l.length, l[i] = 46 → splits [] l = (done ++ [(l.drop frm).take (i - frm)]) ++ splits ((l.drop (i + 1)).take (i + 1 - (i + 1))) (l.drop (i + 1))) ∧
    (i = l.length → splits [] l = done ++ [(l.drop frm).take (i - frm)]) := by
  refine ⟨fun hlt hne => ?_, fun hlt he => ?_, fun he => ?_⟩
  · rw [h, List.drop_eq_getElem_cons hlt]
    congr 1
    conv => lhs; unfold splits
    rw [if_neg hne]
    congr 1
    have e : i + 1 - frm = (i - frm) + 1 := by omega
    have hd : i - frm < (l.drop frm).length := by rw [List.length_drop]; omega
    rw [e, List.take_succ_eq_append_getElem hd]
    congr 2
    rw [List.getElem_drop]
    congr 1
    omega
  · rw [h, List.drop_eq_getElem_cons hlt, he, splits_dot]
    simp
  · subst he
    rw [h, List.drop_length, splits_end]
theorem host_false {l : List UInt8} {p : List UInt8} (h : p ∈ splits [] l) (hp : label p = false) : host l = false := by
  unfold host
  have : (splits [] l).all label = false := by
    rw [List.all_eq_false]
    exact ⟨p, h, by rw [hp]; decide⟩
  rw [this]
  rfl
theorem host_end {l : List UInt8} {done : List (List UInt8)} (h : splits [] l = done) (hd : done.all label = true) : host l = decide (2 ≤ done.length) := by
  unfold host
  rw [h, hd, Bool.true_and]

/-! ### What is taken away -/
theorem trimL_cons (c : UInt8) (l : List UInt8) : trimL (c :: l) = if ws c = true then trimL l else c :: l := by
  unfold trimL
  rw [List.dropWhile_cons]
theorem trimR_snoc (l : List UInt8) (c : UInt8) : trimR (l ++ [c]) = if ws c = true then trimR l else l ++ [c] := by
  unfold trimR
  rw [List.reverse_append, List.reverse_singleton, List.singleton_append, List.dropWhile_cons]
  split
  · rfl
  · simp
theorem trimL_ws (a r : List UInt8) (h : ∀ c ∈ a, ws c = true) : trimL (a ++ r) = trimL r := by
  induction a with
  | nil => rfl
  | cons c a ih => rw [List.cons_append, trimL_cons, if_pos (h c (by simp)), ih (fun x hx => h x (by simp [hx]))]
theorem trimR_ws (l b : List UInt8) (h : ∀ c ∈ b, ws c = true) : trimR (l ++ b) = trimR l := by
  unfold trimR
  rw [List.reverse_append]
  have := trimL_ws b.reverse l.reverse (fun c hc => h c (List.mem_reverse.1 hc))
  unfold trimL at this
  rw [this]
/-- Blanks and tabs at both ends. -/
theorem trim_ends (a l b : List UInt8) (ha : ∀ c ∈ a, ws c = true) (hb : ∀ c ∈ b, ws c = true) (hl : ∀ c ∈ l, ws c = false) (h1 : l ≠ []) : trim (a ++ l ++ b) = l := by
  unfold trim
  rw [List.append_assoc, trimL_ws a _ ha]
  have e : trimL (l ++ b) = l ++ b := by
    cases l with
    | nil => exact absurd rfl h1
    | cons c l => rw [List.cons_append, trimL_cons, if_neg (by rw [hl c (by simp)]; decide)]
  rw [e, trimR_ws l b hb]
  unfold trimR
  rw [dropWhile_none _ _ (fun c hc => hl c (List.mem_reverse.1 hc)), List.reverse_reverse]
theorem low_append (a b : List UInt8) : low (a ++ b) = low a ++ low b := by simp [low]
theorem dropWhile_to (p : UInt8 → Bool) (a : List UInt8) (c : UInt8) (r : List UInt8) (h : ∀ x ∈ a, p x = true) (hc : p c = false) : (a ++ c :: r).dropWhile p = c :: r := by
  induction a with
  | nil => rw [List.nil_append, List.dropWhile_cons, if_neg (by rw [hc]; decide)]
  | cons x a ih => rw [List.cons_append, List.dropWhile_cons, if_pos (h x (by simp)), ih (fun y hy => h y (by simp [hy]))]
theorem takeWhile_to (p : UInt8 → Bool) (a : List UInt8) (c : UInt8) (r : List UInt8) (h : ∀ x ∈ a, p x = true) (hc : p c = false) : (a ++ c :: r).takeWhile p = a := by
  induction a with
  | nil => rw [List.nil_append, List.takeWhile_cons, if_neg (by rw [hc]; decide)]
  | cons x a ih => rw [List.cons_append, List.takeWhile_cons, if_pos (h x (by simp)), ih (fun y hy => h y (by simp [hy]))]
theorem takeWhile_all_ (p : UInt8 → Bool) (a : List UInt8) (h : ∀ x ∈ a, p x = true) : a.takeWhile p = a := by
  induction a with
  | nil => rfl
  | cons x a ih => rw [List.takeWhile_cons, if_pos (h x (by simp)), ih (fun y hy => h y (by simp [hy]))]
/-- What stands from a plus to an at is taken away. -/
theorem untag_of (a b r : List UInt8) (ha : ∀ x ∈ a, x ≠ 43) (hb : ∀ x ∈ b, x ≠ 64) : untag (a ++ 43 :: (b ++ 64 :: r)) = a ++ 64 :: r := by
  have hp : pre (a ++ 43 :: (b ++ 64 :: r)) = a := by
    unfold pre
    exact takeWhile_to _ a 43 _ (fun x hx => by simpa using ha x hx) rfl
  unfold untag
  rw [hp, List.drop_left]
  rw [if_pos (by simp)]
  rw [List.dropWhile_cons, if_pos (by decide), dropWhile_to _ b 64 r (fun x hx => by simpa using hb x hx) rfl]
/-- A plus and no at behind it; no plus. -/
theorem untag_no_at (a b : List UInt8) (ha : ∀ x ∈ a, x ≠ 43) (hb : ∀ x ∈ b, x ≠ 64) : untag (a ++ 43 :: b) = a ++ 43 :: b := by
  have hp : pre (a ++ 43 :: b) = a := by
    unfold pre
    exact takeWhile_to _ a 43 _ (fun x hx => by simpa using ha x hx) rfl
  unfold untag
  rw [hp, List.drop_left, if_neg]
  intro h
  have : (64 : UInt8) ∈ 43 :: b := by simpa using h
  rcases List.mem_cons.1 this with h | h
  · exact absurd h (by decide)
  · exact hb 64 h rfl

/-! ### Addresses of letters -/
/-- a to z. -/
def az (c : UInt8) : Bool := 97 ≤ c.toNat && c.toNat ≤ 122
theorem az_facts (c : UInt8) (h : az c = true) : nameByte c = true ∧ c ≠ 46 ∧ ws c = false ∧ low1 c = c ∧ c ≠ 43 ∧ c ≠ 64 ∧ low1 (c - 32) = c ∧ ws (c - 32) = false := by
  have : ∀ n, n < 256 → az (UInt8.ofNat n) = true → nameByte (UInt8.ofNat n) = true ∧ UInt8.ofNat n ≠ 46 ∧ ws (UInt8.ofNat n) = false ∧ low1 (UInt8.ofNat n) = UInt8.ofNat n ∧ UInt8.ofNat n ≠ 43 ∧ UInt8.ofNat n ≠ 64 ∧ low1 (UInt8.ofNat n - 32) = UInt8.ofNat n ∧ ws (UInt8.ofNat n - 32) = false := by decide +kernel
  have h2 := this c.toNat c.toNat_lt
  rw [UInt8.ofNat_toNat] at h2
  exact h2 h
theorem name_az (l : List UInt8) (h : ∀ c ∈ l, az c = true) (h1 : 1 ≤ l.length) : name l = true := by
  unfold name
  rw [decide_eq_true h1, Bool.and_true, List.all_eq_true]
  intro i hi
  have hi' := List.mem_range.1 hi
  have hg : l.getD i 0 = l[i] := by rw [List.getD_eq_getElem?_getD, List.getElem?_eq_getElem hi']; rfl
  have hf := az_facts _ (h l[i] (List.getElem_mem hi'))
  unfold nameAt
  rw [hg, hf.1, Bool.true_and, Bool.or_eq_true]
  exact .inl (by simpa using hf.2.1)
end Go.Proofs.YtpcbbmafallogaaDoor.Ad
