/-
  The mathematics of layer 12: buckets, what is left in them, what is swept and taken; that takes of two keys go together, and that within any ticks no more is taken than may be. No condition.
-/
namespace Go.Proofs.Ytbldonkfboahmaa.Bk

variable {K : Type}
structure B (K : Type) where
  key : K
  left : Nat
  at_ : Nat
/-- An order of keys. -/
structure Ord (lt : K → K → Bool) : Prop where
  irrefl : ∀ a, lt a a = false
  trans : ∀ a b c, lt a b = true → lt b c = true → lt a c = true
  tri : ∀ a b, lt a b = true ∨ a = b ∨ lt b a = true
theorem Ord.asymm {lt : K → K → Bool} (h : Ord lt) {a b : K} (hab : lt a b = true) : lt b a = false := by
  cases hb : lt b a with
  | false => rfl
  | true => have := h.trans a b a hab hb; rw [h.irrefl] at this; cases this

/-- What is left in a bucket; what it is worth in ticks. -/
def left1 (b : B K) (now : Nat) : Nat := min 4 (b.left + (now - b.at_) / 25)
def worth1 (b : B K) (now : Nat) : Nat := min 100 (25 * b.left + (now - b.at_))
def sweep (l : List (B K)) (now : Nat) : List (B K) := l.filter fun b => decide (left1 b now < 4)
theorem left1_worth (b : B K) (now : Nat) : left1 b now = worth1 b now / 25 := by
  unfold left1 worth1
  have h : (25 * b.left + (now - b.at_)) / 25 = b.left + (now - b.at_) / 25 := by rw [Nat.mul_add_div (by decide)]
  by_cases h1 : 25 * b.left + (now - b.at_) ≤ 100
  · rw [Nat.min_eq_right h1, h]
    have : (25 * b.left + (now - b.at_)) / 25 ≤ 100 / 25 := Nat.div_le_div_right h1
    rw [h] at this
    omega
  · rw [Nat.min_eq_left (by omega)]
    have : 100 / 25 ≤ (25 * b.left + (now - b.at_)) / 25 := Nat.div_le_div_right (by omega)
    rw [h] at this
    omega
theorem sweep_cons (b : B K) (l : List (B K)) (now : Nat) : sweep (b :: l) now = if left1 b now < 4 then b :: sweep l now else sweep l now := by
  unfold sweep
  rw [List.filter_cons]
  by_cases h : left1 b now < 4 <;> simp [h]
theorem sweep_sub (l : List (B K)) (now : Nat) : (sweep l now).Sublist l := List.filter_sublist
/-- Keys rise; less than four are left. -/
def Rising (lt : K → K → Bool) (l : List (B K)) : Prop := l.Pairwise fun a b => lt a.key b.key = true
theorem Rising.sweep {lt : K → K → Bool} {l : List (B K)} (h : Rising lt l) (now : Nat) : Rising lt (Bk.sweep l now) := List.Pairwise.sublist (sweep_sub l now) h
theorem left1_zero (b : B K) (now : Nat) : left1 b now = 0 ↔ b.left = 0 ∧ now < b.at_ + 25 := by
  unfold left1
  constructor
  · intro h
    have h2 : b.left + (now - b.at_) / 25 = 0 := by omega
    have h3 : (now - b.at_) / 25 = 0 := by omega
    have := (Nat.div_eq_zero_iff).1 h3
    omega
  · rintro ⟨h1, h2⟩
    have h3 : (now - b.at_) / 25 = 0 := Nat.div_eq_of_lt (by omega)
    omega
variable [DecidableEq K]
def find (l : List (B K)) (k : K) : Option (B K) := l.find? fun b => decide (b.key = k)
def left (l : List (B K)) (k : K) (now : Nat) : Nat := match find l k with | some b => left1 b now | none => 4
def worth (l : List (B K)) (k : K) (now : Nat) : Nat := match find l k with | some b => worth1 b now | none => 100
/-- One is taken of a key that has n left. -/
def put (lt : K → K → Bool) (k : K) (n now : Nat) : List (B K) → List (B K)
  | [] => [⟨k, n - 1, now⟩]
  | b :: r => if lt b.key k = true then b :: put lt k n now r else if b.key = k then ⟨k, n - 1, b.at_ + 25 * (n - b.left)⟩ :: r else ⟨k, n - 1, now⟩ :: b :: r
/-- TAKE, where there is one left: what it leaves, if there is room. -/
def taken (lt : K → K → Bool) (l : List (B K)) (k : K) (now : Nat) : List (B K) := put lt k (left l k now) now (sweep l now)

theorem left_worth (l : List (B K)) (k : K) (now : Nat) : left l k now = worth l k now / 25 := by
  unfold left worth
  cases find l k with
  | none => simp
  | some b => simpa using left1_worth b now
theorem worth_le (l : List (B K)) (k : K) (now : Nat) : worth l k now ≤ 100 := by
  unfold worth
  cases find l k with
  | none => simp
  | some b => exact Nat.min_le_left _ _
/-- Time goes on: what a key is worth rises by no more than the ticks, and never falls. -/
theorem worth_later (l : List (B K)) (k : K) (now d : Nat) : worth l k now ≤ worth l k (now + d) ∧ worth l k (now + d) ≤ worth l k now + d := by
  unfold worth
  cases find l k with
  | none => simp
  | some b =>
    simp only [worth1]
    exact ⟨by omega, by omega⟩
theorem left_later (l : List (B K)) (k : K) (now d : Nat) : left l k now ≤ left l k (now + d) := by
  rw [left_worth, left_worth]
  exact Nat.div_le_div_right (worth_later l k now d).1
theorem left_le (l : List (B K)) (k : K) (now : Nat) : left l k now ≤ 4 := by
  rw [left_worth]
  have := worth_le l k now
  omega

/-! ### Rows that may be -/
def keys (l : List (B K)) : List K := l.map B.key
theorem find_none_of_lt {lt : K → K → Bool} (O : Ord lt) {l : List (B K)} {k : K} (h : ∀ b ∈ l, lt k b.key = true) : find l k = none := by
  unfold find
  rw [List.find?_eq_none]
  intro b hb
  have := h b hb
  intro he
  have he' : b.key = k := by simpa using he
  rw [he', O.irrefl] at this
  cases this
theorem find_cons (b : B K) (l : List (B K)) (k : K) : find (b :: l) k = if b.key = k then some b else find l k := by
  unfold find
  rw [List.find?_cons]
  by_cases h : b.key = k
  · simp [h]
  · simp [h]
/-- What was swept tells the same. -/
theorem find_sweep {lt : K → K → Bool} (O : Ord lt) {l : List (B K)} (h : Rising lt l) (k : K) (now : Nat) :
    find (sweep l now) k = match find l k with | some b => if left1 b now < 4 then some b else none | none => none := by
  induction l with
  | nil => rfl
  | cons b l ih =>
    have hl := (List.pairwise_cons.1 h).2
    have hb := (List.pairwise_cons.1 h).1
    have ih := ih hl
    rw [sweep_cons, find_cons]
    by_cases hk : b.key = k
    · rw [if_pos hk]
      by_cases h4 : left1 b now < 4
      · rw [if_pos h4, find_cons, if_pos hk]
        simp [h4]
      · rw [if_neg h4]
        have : find (sweep l now) k = none := find_none_of_lt O (fun c hc => by rw [← hk]; exact hb c ((sweep_sub l now).subset hc))
        rw [this]
        simp [h4]
    · rw [if_neg hk]
      by_cases h4 : left1 b now < 4
      · rw [if_pos h4, find_cons, if_neg hk, ih]
      · rw [if_neg h4, ih]
theorem worth_sweep {lt : K → K → Bool} (O : Ord lt) {l : List (B K)} (h : Rising lt l) (k : K) (now d : Nat) : worth (sweep l now) k (now + d) = worth l k (now + d) := by
  unfold worth
  rw [find_sweep O h k now]
  cases find l k with
  | none => rfl
  | some b =>
    by_cases h4 : left1 b now < 4
    · simp [h4]
    · simp only [h4, if_false]
      have hw : 100 ≤ worth1 b now := by
        rw [left1_worth] at h4
        omega
      unfold worth1 at hw ⊢
      omega
theorem left_sweep {lt : K → K → Bool} (O : Ord lt) {l : List (B K)} (h : Rising lt l) (k : K) (now : Nat) : left (sweep l now) k now = left l k now := by
  rw [left_worth, left_worth]
  have := worth_sweep O h k now 0
  rw [Nat.add_zero] at this
  rw [this]

/-! ### One is put -/
theorem put_find_other {lt : K → K → Bool} (_O : Ord lt) (l : List (B K)) (k j : K) (n now : Nat) (hj : j ≠ k) : find (put lt k n now l) j = find l j := by
  induction l with
  | nil =>
    unfold put
    rw [find_cons, if_neg (fun e => hj e.symm)]
  | cons b l ih =>
    unfold put
    by_cases h1 : lt b.key k = true
    · rw [if_pos h1, find_cons, find_cons, ih]
    · rw [if_neg h1]
      by_cases h2 : b.key = k
      · rw [if_pos h2, find_cons, find_cons, if_neg (fun e => hj e.symm), if_neg (fun e => hj (e.symm.trans h2))]
      · rw [if_neg h2, find_cons, if_neg (fun e => hj e.symm)]
theorem put_find_here {lt : K → K → Bool} (O : Ord lt) {l : List (B K)} (hl : Rising lt l) (k : K) (n now : Nat) :
    find (put lt k n now l) k = some (match find l k with | some b => ⟨k, n - 1, b.at_ + 25 * (n - b.left)⟩ | none => ⟨k, n - 1, now⟩) := by
  induction l with
  | nil =>
    unfold put
    rw [find_cons, if_pos rfl]
    rfl
  | cons b l ih =>
    have ih := ih (List.pairwise_cons.1 hl).2
    have hb := (List.pairwise_cons.1 hl).1
    unfold put
    by_cases h1 : lt b.key k = true
    · have hne : b.key ≠ k := fun e => by rw [e, O.irrefl] at h1; cases h1
      rw [if_pos h1, find_cons, find_cons, if_neg hne, if_neg hne, ih]
    · rw [if_neg h1]
      by_cases h2 : b.key = k
      · rw [if_pos h2, find_cons, find_cons, if_pos rfl, if_pos h2]
      · rw [if_neg h2, find_cons, if_pos rfl, find_cons, if_neg h2]
        have hlt : lt k b.key = true := by
          rcases O.tri b.key k with h | h | h
          · exact absurd h h1
          · exact absurd h h2
          · exact h
        have : find l k = none := find_none_of_lt O (fun c hc => O.trans _ _ _ hlt (hb c hc))
        rw [this]
theorem put_mem {lt : K → K → Bool} (l : List (B K)) (k : K) (n now : Nat) : ∀ c ∈ put lt k n now l, c.key = k ∨ c ∈ l := by
  induction l with
  | nil => intro c hc; unfold put at hc; simp at hc; subst hc; exact .inl rfl
  | cons b l ih =>
    intro c hc
    unfold put at hc
    split at hc
    · rcases List.mem_cons.1 hc with rfl | hc
      · exact .inr (by simp)
      · rcases ih c hc with h | h
        · exact .inl h
        · exact .inr (by simp [h])
    · split at hc
      · rcases List.mem_cons.1 hc with rfl | hc
        · exact .inl rfl
        · exact .inr (by simp [hc])
      · rcases List.mem_cons.1 hc with rfl | hc
        · exact .inl rfl
        · exact .inr hc
theorem put_rising {lt : K → K → Bool} (O : Ord lt) {l : List (B K)} (hl : Rising lt l) (k : K) (n now : Nat) : Rising lt (put lt k n now l) := by
  induction l with
  | nil => unfold put; exact List.pairwise_singleton _ _
  | cons b l ih =>
    have hb := (List.pairwise_cons.1 hl).1
    have hr := (List.pairwise_cons.1 hl).2
    unfold put
    by_cases h1 : lt b.key k = true
    · rw [if_pos h1]
      refine List.pairwise_cons.2 ⟨fun c hc => ?_, ih hr⟩
      rcases put_mem l k n now c hc with h | h
      · rw [h]; exact h1
      · exact hb c h
    · rw [if_neg h1]
      by_cases h2 : b.key = k
      · rw [if_pos h2]
        exact List.pairwise_cons.2 ⟨fun c hc => by have := hb c hc; rw [h2] at this; exact this, hr⟩
      · rw [if_neg h2]
        have hlt : lt k b.key = true := by
          rcases O.tri b.key k with h | h | h
          · exact absurd h h1
          · exact absurd h h2
          · exact h
        exact List.pairwise_cons.2 ⟨fun c hc => by
          rcases List.mem_cons.1 hc with rfl | hc
          · exact hlt
          · exact O.trans _ _ _ hlt (hb c hc), hl⟩
theorem put_length {lt : K → K → Bool} (l : List (B K)) (k : K) (n now : Nat) : (put lt k n now l).length ≤ l.length + 1 := by
  induction l with
  | nil => simp [put]
  | cons b l ih =>
    unfold put
    split
    · simp only [List.length_cons]; omega
    · split
      · simp
      · simp
theorem put_new {lt : K → K → Bool} (l : List (B K)) (k : K) (n now : Nat) (h : find l k = none) : (put lt k n now l).length = l.length + 1 := by
  induction l with
  | nil => simp [put]
  | cons b l ih =>
    rw [find_cons] at h
    by_cases h2 : b.key = k
    · rw [if_pos h2] at h; cases h
    · rw [if_neg h2] at h
      unfold put
      split
      · simp only [List.length_cons]; rw [ih h]
      · simp

/-! ### What a take does -/
/-- Of the key itself just one is taken, now and later, up to what there may be. -/
theorem worth_taken {lt : K → K → Bool} (O : Ord lt) {l : List (B K)} (hl : Rising lt l) (k : K) (now : Nat) (h1 : 1 ≤ left l k now) : worth (taken lt l k now) k now = worth l k now - 25 := by
  have hf := put_find_here O (hl.sweep now) k (left l k now) now
  have hs := find_sweep O hl k now
  unfold taken
  unfold worth
  rw [hf]
  cases hk : find l k with
  | none =>
    rw [hk] at hs
    simp only at hs
    rw [hs]
    unfold left
    rw [hk]
    simp [worth1]
  | some b =>
    rw [hk] at hs
    simp only at hs
    have hlb : left l k now = left1 b now := by unfold left; rw [hk]
    rw [hs, hlb]
    rw [hlb] at h1
    have hw := left1_worth b now
    by_cases h4 : left1 b now < 4
    · simp only [h4, if_true]
      unfold left1 at h1 h4 ⊢
      unfold worth1
      have hd := Nat.div_add_mod (now - b.at_) 25
      have hm := Nat.mod_lt (now - b.at_) (show 0 < 25 by decide)
      obtain ⟨q, hq⟩ : ∃ q, (now - b.at_) / 25 = q := ⟨_, rfl⟩
      rw [hq] at hd h1 h4 ⊢
      have e : min 4 (b.left + q) = b.left + q := Nat.min_eq_right (by omega)
      rw [e] at h1 h4 ⊢
      show min 100 (25 * (b.left + q - 1) + (now - (b.at_ + 25 * (b.left + q - b.left)))) = min 100 (25 * b.left + (now - b.at_)) - 25
      omega
    · simp only [h4, if_false]
      have h44 : left1 b now = 4 := by unfold left1 at h4 ⊢; omega
      have hw100 : worth1 b now = 100 := by unfold worth1; rw [hw] at h44; unfold worth1 at h44; omega
      rw [hw100, h44]
      simp [worth1]
theorem worth_taken_other {lt : K → K → Bool} (O : Ord lt) {l : List (B K)} (hl : Rising lt l) (k j : K) (now d : Nat) (hj : j ≠ k) : worth (taken lt l k now) j (now + d) = worth l j (now + d) := by
  have h := worth_sweep O hl j now d
  rw [← h]
  unfold taken worth
  rw [put_find_other O _ k j _ now hj]
theorem left_taken {lt : K → K → Bool} (O : Ord lt) {l : List (B K)} (hl : Rising lt l) (k : K) (now : Nat) (h1 : 1 ≤ left l k now) : left (taken lt l k now) k now = left l k now - 1 := by
  rw [left_worth, left_worth, worth_taken O hl k now h1]
  rw [left_worth] at h1
  omega
theorem left_taken_other {lt : K → K → Bool} (O : Ord lt) {l : List (B K)} (hl : Rising lt l) (k j : K) (now d : Nat) (hj : j ≠ k) : left (taken lt l k now) j (now + d) = left l j (now + d) := by
  rw [left_worth, left_worth, worth_taken_other O hl k j now d hj]
theorem taken_rising {lt : K → K → Bool} (O : Ord lt) {l : List (B K)} (hl : Rising lt l) (k : K) (now : Nat) : Rising lt (taken lt l k now) := put_rising O (hl.sweep now) k _ now

/-! ### Takes of two keys -/
theorem put_put {lt : K → K → Bool} (O : Ord lt) (l : List (B K)) (a b : K) (n m now : Nat) (hab : a ≠ b) : put lt b m now (put lt a n now l) = put lt a n now (put lt b m now l) := by
  have hne : ∀ x y : K, lt x y = true → ¬ lt y x = true := fun x y h h2 => by rw [O.asymm h] at h2; cases h2
  have hir : ∀ x : K, ¬ lt x x = true := fun x h => by rw [O.irrefl] at h; cases h
  induction l with
  | nil =>
    rcases O.tri a b with h | h | h
    · simp [put, h, hne a b h, Ne.symm hab]
    · exact absurd h hab
    · simp [put, h, hne b a h, hab]
  | cons x l ih =>
    rcases O.tri x.key a with ha | ha | ha
    · rcases O.tri x.key b with hb | hb | hb
      · simp [put, ha, hb, ih]
      · subst hb
        simp [put, ha, hir]
      · have hbx : x.key ≠ b := fun e => by rw [e] at hb; exact hir _ hb
        have hba : lt b a = true := O.trans _ _ _ hb ha
        simp [put, ha, hne b x.key hb, hbx, hba]
    · subst ha
      rcases O.tri x.key b with hb | hb | hb
      · simp [put, hb, hir]
      · exact absurd hb hab
      · have hbx : x.key ≠ b := fun e => by rw [e] at hb; exact hir _ hb
        simp [put, hb, hne b x.key hb, hbx, hir]
    · have hax : x.key ≠ a := fun e => by rw [e] at ha; exact hir _ ha
      rcases O.tri x.key b with hb | hb | hb
      · have hlab : lt a b = true := O.trans _ _ _ ha hb
        simp [put, hb, hne a x.key ha, hax, hlab]
      · subst hb
        simp [put, ha, hne a x.key ha, hax, hir]
      · have hbx : x.key ≠ b := fun e => by rw [e] at hb; exact hir _ hb
        rcases O.tri a b with h | h | h
        · simp [put, hne a x.key ha, hne b x.key hb, hax, hbx, h, hne a b h, Ne.symm hab]
        · exact absurd h hab
        · simp [put, hne a x.key ha, hne b x.key hb, hax, hbx, h, hne b a h, hab]

/-! ### No more than may be -/
/-- Of takes at these times: from any on to the last, and to any other, no more than what there was and came since. -/
structure Counted (at_ : List Nat) (c now : Nat) : Prop where
  now : ∀ i (h : i < at_.length), at_[i] ≤ now ∧ 25 * (at_.length - i) + c ≤ 100 + (now - at_[i])
  rise : ∀ i j (hij : i ≤ j) (h : j < at_.length), at_[i] ≤ at_[j] ∧ 25 * (j - i + 1) ≤ 100 + (at_[j] - at_[i])
theorem Counted.nil (c now : Nat) : Counted [] c now := ⟨fun i h => by simp at h, fun i j _ h => by simp at h⟩
theorem Counted.later {l : List Nat} {c c' now d : Nat} (h : Counted l c now) (hc : c' ≤ c + d) : Counted l c' (now + d) :=
  ⟨fun i hi => by have := h.now i hi; omega, h.rise⟩
theorem Counted.less {l : List Nat} {c c' now : Nat} (h : Counted l c now) (hc : c' ≤ c) : Counted l c' now :=
  ⟨fun i hi => by have := h.now i hi; omega, h.rise⟩
theorem Counted.take {l : List Nat} {c now : Nat} (h : Counted l c now) (h1 : 25 ≤ c) (h2 : c ≤ 100) : Counted (l ++ [now]) (c - 25) now := by
  refine ⟨fun i hi => ?_, fun i j hij hj => ?_⟩
  · by_cases hl : i < l.length
    · rw [List.getElem_append_left hl]
      have := h.now i hl
      rw [List.length_append, List.length_singleton]
      omega
    · have hi2 : i = l.length := by rw [List.length_append, List.length_singleton] at hi; omega
      subst hi2
      rw [List.length_append, List.length_singleton]
      simp
      omega
  · by_cases hl : j < l.length
    · rw [List.getElem_append_left hl, List.getElem_append_left (by omega)]
      exact h.rise i j hij hl
    · have hj2 : j = l.length := by rw [List.length_append, List.length_singleton] at hj; omega
      subst hj2
      by_cases hi : i < l.length
      · rw [List.getElem_append_left hi]
        have := h.now i hi
        simp
        omega
      · have hi2 : i = l.length := by omega
        subst hi2
        simp
/-- WITHIN ANY TICKS NO MORE IS TAKEN. -/
theorem Counted.most {l : List Nat} {c now : Nat} (h : Counted l c now) (i w : Nat) (hi : i < l.length) (_hw : 1 ≤ w) : ((l.drop i).filter fun t => decide (t < l[i] + w)).length ≤ 4 + (w - 1) / 25 := by
  have key : ∀ k, i + k ≤ l.length → (((l.drop i).take k).filter fun t => decide (t < l[i] + w)).length ≤ 4 + (w - 1) / 25 := by
    intro k
    induction k with
    | zero => intro _; simp
    | succ k ih =>
      intro hk
      have hlt : i + k < l.length := by omega
      have hd : k < (l.drop i).length := by rw [List.length_drop]; omega
      rw [List.take_succ_eq_append_getElem hd, List.filter_append, List.length_append, List.getElem_drop]
      by_cases hin : l[i + k] < l[i] + w
      · have hall : (((l.drop i).take k).filter fun t => decide (t < l[i] + w)).length ≤ k := Nat.le_trans (List.length_filter_le _ _) (by rw [List.length_take]; omega)
        have hr := h.rise i (i + k) (by omega) hlt
        simp only [List.filter_cons, hin, decide_true, if_true, List.filter_nil, List.length_singleton]
        have : 25 * (k + 1) ≤ 100 + (w - 1) := by omega
        omega
      · simp only [List.filter_cons, hin, decide_false, List.filter_nil]
        simpa using ih (by omega)
  have := key (l.length - i) (by omega)
  rwa [List.take_of_length_le (by rw [List.length_drop]; omega)] at this

/-! ### How long to wait -/
def wait1 (b : B K) (now : Nat) : Nat := if 1 ≤ left1 b now then 0 else b.at_ + 25 - now
def wait (l : List (B K)) (k : K) (now : Nat) : Nat := match find l k with | some b => wait1 b now | none => 0
/-- Behind the wait there is one left; ahead of it there is none. -/
theorem wait_ends (l : List (B K)) (k : K) (now : Nat) : 1 ≤ left l k (now + wait l k now) ∧ (∀ d, d < wait l k now → left l k (now + d) = 0) ∧ (wait l k now = 0 ↔ 1 ≤ left l k now) := by
  unfold left wait
  cases find l k with
  | none => simp
  | some b =>
    simp only
    unfold wait1
    by_cases h : 1 ≤ left1 b now
    · rw [if_pos h]
      exact ⟨h, fun d hd => by omega, fun _ => h, fun _ => rfl⟩
    · rw [if_neg h]
      have h0 := (left1_zero b now).1 (by omega)
      refine ⟨?_, fun d hd => (left1_zero b (now + d)).2 ⟨h0.1, by omega⟩, fun he => by omega, fun he => absurd he h⟩
      rcases Nat.eq_zero_or_pos (left1 b (now + (b.at_ + 25 - now))) with hz | hz
      · have := ((left1_zero b _).1 hz).2
        omega
      · exact hz
theorem wait_le (l : List (B K)) (k : K) (now : Nat) (h : ∀ b ∈ l, b.at_ ≤ now) : wait l k now ≤ 25 := by
  unfold wait
  cases hf : find l k with
  | none => simp
  | some b =>
    have hb : b ∈ l := List.mem_of_find?_eq_some hf
    have := h b hb
    simp only
    unfold wait1
    split
    · omega
    · omega
end Go.Proofs.Ytbldonkfboahmaa.Bk
