/-
  More mathematics of layer 9: what the library's searches and cuts come to; names, labels and phone addresses as the program looks at them. No condition.
-/
import Derived.Lib.IndexMore
import Derived.Lib.SplitLaws
import Derived.Lib.SlTrimSet
import Derived.Lib.Strings
import Derived.Test.YtpcbbmafallogaaDoorWords
import Derived.Test.YtpcbbmafallogaaDoorAd
namespace Go.Proofs.YtpcbbmafallogaaDoor.Ad

/-- Ahead of the first such byte, and behind it. -/
def bef (l : List UInt8) (c : UInt8) : List UInt8 := l.takeWhile (· != c)
def aft (l : List UInt8) (c : UInt8) : List UInt8 := l.drop ((bef l c).length + 1)
theorem bef_cons (a : UInt8) (l : List UInt8) (c : UInt8) : bef (a :: l) c = if a = c then [] else a :: bef l c := by
  unfold bef
  rw [List.takeWhile_cons]
  by_cases h : a = c
  · simp [h]
  · simp [h]
theorem bef_none {l : List UInt8} {c : UInt8} (h : l.contains c = false) : bef l c = l := by
  unfold bef
  refine takeWhile_all_ _ l (fun x hx => ?_)
  have : x ≠ c := by
    rintro rfl
    have h2 : l.contains x = true := by simpa using hx
    rw [h2] at h
    cases h
  simpa using this
theorem take_bef (l : List UInt8) (c : UInt8) : l.take (bef l c).length = bef l c := by
  induction l with
  | nil => rfl
  | cons a l ih =>
    rw [bef_cons]
    by_cases h : a = c
    · simp [h]
    · simp [h, ih]
theorem aft_none {l : List UInt8} {c : UInt8} (h : l.contains c = false) : aft l c = [] := by
  unfold aft
  rw [bef_none h]
  simp
theorem bef_aft {l : List UInt8} {c : UInt8} (h : l.contains c = true) : l = bef l c ++ c :: aft l c := by
  induction l with
  | nil => simp at h
  | cons a l ih =>
    unfold aft
    rw [bef_cons]
    by_cases ha : a = c
    · subst ha
      simp
    · have h2 : l.contains c = true := by
        simp only [List.contains_cons, Bool.or_eq_true, beq_iff_eq] at h
        rcases h with h | h
        · exact absurd h.symm ha
        · exact h
      rw [if_neg ha]
      simp only [List.length_cons, List.drop_succ_cons, List.cons_append]
      congr 1
      exact ih h2
theorem bef_length_lt {l : List UInt8} {c : UInt8} (h : l.contains c = true) : (bef l c).length < l.length := by
  have := congrArg List.length (bef_aft h)
  rw [List.length_append, List.length_cons] at this
  omega
theorem bef_length_le (l : List UInt8) (c : UInt8) : (bef l c).length ≤ l.length := by
  have := congrArg List.length (take_bef l c)
  rw [List.length_take] at this
  omega
theorem aft_length (l : List UInt8) (c : UInt8) : (aft l c).length ≤ l.length := by unfold aft; rw [List.length_drop]; omega
theorem contains_cons_ne {a c : UInt8} {l : List UInt8} (h : a ≠ c) : (a :: l).contains c = l.contains c := by
  simp only [List.contains_cons, Bool.or_eq_right_iff_imp, beq_iff_eq]
  intro h2
  exact absurd h2.symm h
theorem index_one (l : List UInt8) (c : UInt8) : Lib.index l [c] = if l.contains c = true then ((bef l c).length : Int) else -1 := by
  induction l with
  | nil => rfl
  | cons a l ih =>
    rw [bef_cons]
    by_cases h : a = c
    · subst h
      simp [Lib.index]
    · have h3 : ([c].isPrefixOf (a :: l)) = false := by
        have : (c == a) = false := by simpa using fun e : c = a => h e.symm
        simp [List.isPrefixOf, this]
      have h4 : Lib.index (a :: l) [c] = if Lib.index l [c] == -1 then -1 else Lib.index l [c] + 1 := by
        conv => lhs; unfold Lib.index
        rw [h3]
        rfl
      rw [h4, ih, contains_cons_ne h, if_neg h]
      by_cases hc : l.contains c = true
      · rw [if_pos hc, if_pos hc, if_neg (by simp)]
        simp
      · rw [if_neg hc, if_neg hc]
        rfl
theorem indexByte_eq (l : List UInt8) (c : UInt8) : Lib.indexByte l c = if l.contains c = true then ((bef l c).length : Int) else -1 := by
  induction l with
  | nil => rfl
  | cons a l ih =>
    rw [bef_cons]
    by_cases h : a = c
    · subst h
      simp [Lib.indexByte]
    · have h4 : Lib.indexByte (a :: l) c = if Lib.indexByte l c == -1 then -1 else Lib.indexByte l c + 1 := by
        conv => lhs; unfold Lib.indexByte
        rw [if_neg (by simpa using h)]
      rw [h4, ih, contains_cons_ne h, if_neg h]
      by_cases hc : l.contains c = true
      · rw [if_pos hc, if_pos hc, if_neg (by simp)]
        simp
      · rw [if_neg hc, if_neg hc]
        rfl
theorem cut_eq (l : List UInt8) (c : UInt8) : Lib.cut l [c] = (bef l c, aft l c, l.contains c) := by
  have hi := index_one l c
  unfold Lib.cut
  cases hc : l.contains c with
  | true =>
    rw [hc, if_pos rfl] at hi
    rw [hi, if_pos (by omega)]
    have e : ((bef l c).length : Int).toNat = (bef l c).length := by omega
    rw [e, take_bef]
    rfl
  | false =>
    have hi2 : Lib.index l [c] = -1 := by rw [hi, hc]; rfl
    rw [hi2, if_neg (by omega), bef_none hc, aft_none hc]

/-- Two dots, one behind the other. -/
def dd : List UInt8 → Bool
  | [] => false
  | [_] => false
  | a :: b :: r => (a == 46 && b == 46) || dd (b :: r)
theorem contains_dd (l : List UInt8) : Lib.contains l [46, 46] = dd l := by
  unfold Lib.contains
  induction l with
  | nil => rfl
  | cons a l ih =>
    have h4 : Lib.index (a :: l) [46, 46] = if ([46, 46] : List UInt8).isPrefixOf (a :: l) = true then 0 else if Lib.index l [46, 46] == -1 then -1 else Lib.index l [46, 46] + 1 := by
      conv => lhs; unfold Lib.index
    rw [h4]
    have hge := Lib.index_ge l [46, 46]
    cases l with
    | nil =>
      have : (([46, 46] : List UInt8).isPrefixOf [a]) = false := by simp [List.isPrefixOf]
      rw [this]
      rfl
    | cons b r =>
      have hp : (([46, 46] : List UInt8).isPrefixOf (a :: b :: r)) = (a == 46 && b == 46) := by
        have e1 : ((46 : UInt8) == a) = (a == 46) := by rw [Bool.eq_iff_iff, beq_iff_eq, beq_iff_eq]; exact eq_comm
        have e2 : ((46 : UInt8) == b) = (b == 46) := by rw [Bool.eq_iff_iff, beq_iff_eq, beq_iff_eq]; exact eq_comm
        simp [List.isPrefixOf, e1, e2]
      rw [hp]
      unfold dd
      rw [← ih]
      cases (a == 46 && b == 46) with
      | true => rfl
      | false =>
        rw [if_neg (by decide), Bool.false_or]
        by_cases hm : Lib.index (b :: r) [46, 46] = -1
        · rw [hm]; rfl
        · rw [if_neg (by simpa using hm)]
          rw [Bool.eq_iff_iff, decide_eq_true_iff, decide_eq_true_iff]
          omega
theorem dd_iff (l : List UInt8) : dd l = true ↔ ∃ i, i + 1 < l.length ∧ l.getD i 0 = 46 ∧ l.getD (i + 1) 0 = 46 := by
  induction l with
  | nil => simp [dd]
  | cons a l ih =>
    cases l with
    | nil => simp [dd]
    | cons b r =>
      unfold dd
      rw [Bool.or_eq_true, ih, Bool.and_eq_true, beq_iff_eq, beq_iff_eq]
      constructor
      · rintro (⟨h1, h2⟩ | ⟨i, h1, h2, h3⟩)
        · exact ⟨0, by simp, by simpa using h1, by simpa using h2⟩
        · exact ⟨i + 1, by simpa using h1, by simpa using h2, by simpa using h3⟩
      · rintro ⟨i, h1, h2, h3⟩
        cases i with
        | zero => exact .inl ⟨by simpa using h2, by simpa using h3⟩
        | succ i => exact .inr ⟨i, by simpa using h1, by simpa using h2, by simpa using h3⟩
theorem all_getD {l : List UInt8} {p : UInt8 → Bool} : l.all p = true ↔ ∀ i, i < l.length → p (l.getD i 0) = true := by
  rw [List.all_eq_true]
  constructor
  · intro h i hi
    rw [List.getD_eq_getElem?_getD, List.getElem?_eq_getElem hi]
    exact h _ (List.getElem_mem hi)
  · intro h c hc
    obtain ⟨i, hi, rfl⟩ := List.mem_iff_getElem.1 hc
    have := h i hi
    rwa [List.getD_eq_getElem?_getD, List.getElem?_eq_getElem hi] at this
theorem name_cons (l : List UInt8) (h : 1 ≤ l.length) : name l = (l.all nameByte && (l.getD 0 0 != 46) && (l.getD (l.length - 1) 0 != 46) && !dd l) := by
  unfold name
  rw [decide_eq_true h, Bool.and_true, Bool.eq_iff_iff, List.all_eq_true]
  simp only [Bool.and_eq_true, bne_iff_ne, ne_eq, Bool.not_eq_true']
  constructor
  · intro hn
    have hn' : ∀ i, i < l.length → nameAt l i = true := fun i hi => hn i (List.mem_range.2 hi)
    refine ⟨⟨⟨all_getD.2 (fun i hi => ?_), ?_⟩, ?_⟩, ?_⟩
    · have := hn' i hi
      unfold nameAt at this
      rw [Bool.and_eq_true] at this
      exact this.1
    · intro e
      have := hn' 0 (by omega)
      unfold nameAt at this
      rw [e] at this
      simp at this
    · intro e
      have := hn' (l.length - 1) (by omega)
      unfold nameAt at this
      rw [e, show l.length - 1 + 1 = l.length by omega] at this
      simp at this
    · cases hd : dd l with
      | false => rfl
      | true =>
        obtain ⟨i, h1, h2, h3⟩ := (dd_iff l).1 hd
        have := hn' (i + 1) h1
        unfold nameAt at this
        rw [h3, show i + 1 - 1 = i by omega, h2] at this
        simp at this
  · rintro ⟨⟨⟨h1, h2⟩, h3⟩, h4⟩ i hi
    have hi' := List.mem_range.1 hi
    unfold nameAt
    rw [Bool.and_eq_true]
    refine ⟨all_getD.1 h1 i hi', ?_⟩
    by_cases e : l.getD i 0 = 46
    · have i0 : i ≠ 0 := by rintro rfl; exact h2 e
      have i1 : i + 1 ≠ l.length := fun e2 => by
        have : l.length - 1 = i := by omega
        rw [this] at h3
        exact h3 e
      have i2 : l.getD (i - 1) 0 ≠ 46 := fun e2 => by
        have : dd l = true := (dd_iff l).2 ⟨i - 1, by omega, e2, by rw [show i - 1 + 1 = i by omega]; exact e⟩
        rw [this] at h4
        cases h4
      rw [Bool.or_eq_true]
      exact .inr (by rw [Bool.and_eq_true, Bool.and_eq_true]; exact ⟨⟨by simpa using i0, by simpa using i1⟩, by simpa using i2⟩)
    · rw [Bool.or_eq_true]
      exact .inl (by simpa using e)
def hostByte (c : UInt8) : Bool := isLet c || c == 45
theorem label_cons (l : List UInt8) (h : 1 ≤ l.length) (h20 : l.length ≤ 20) (h0 : l.getD 0 0 ≠ 45) (h1 : l.getD (l.length - 1) 0 ≠ 45) : label l = l.all hostByte := by
  unfold label
  rw [decide_eq_true h, decide_eq_true h20, Bool.and_true, Bool.and_true, Bool.eq_iff_iff, List.all_eq_true, all_getD]
  constructor
  · intro hn i hi
    have := hn i (List.mem_range.2 hi)
    unfold labelAt at this
    unfold hostByte
    rw [Bool.or_eq_true] at this ⊢
    rcases this with h | h
    · exact .inl h
    · simp only [Bool.and_eq_true] at h
      exact .inr h.1.1
  · intro hn i hi
    have hi' := List.mem_range.1 hi
    have := hn i hi'
    unfold hostByte at this
    unfold labelAt
    rw [Bool.or_eq_true] at this ⊢
    rcases this with h | h
    · exact .inl h
    · have e : l.getD i 0 = 45 := by simpa using h
      have i0 : i ≠ 0 := by rintro rfl; exact h0 e
      have i1 : i + 1 ≠ l.length := fun e2 => by
        have : l.length - 1 = i := by omega
        rw [this] at h1
        exact h1 e
      exact .inr (by rw [Bool.and_eq_true, Bool.and_eq_true]; exact ⟨⟨h, by simpa using i0⟩, by simpa using i1⟩)
theorem label_no_first (l : List UInt8) (h : 1 ≤ l.length) (h0 : l.getD 0 0 = 45) : label l = false := by
  refine label_false (i := 0) (by omega) ?_
  unfold labelAt
  rw [h0]
  rfl
theorem label_no_last (l : List UInt8) (h : 1 ≤ l.length) (h0 : l.getD (l.length - 1) 0 = 45) : label l = false := by
  refine label_false (i := l.length - 1) (by omega) ?_
  unfold labelAt
  rw [h0, show l.length - 1 + 1 = l.length by omega]
  simp
  rfl
theorem label_nil : label [] = false := rfl
theorem label_long (l : List UInt8) (h : 20 < l.length) : label l = false := by
  unfold label
  rw [decide_eq_false (p := l.length ≤ 20) (by omega), Bool.and_false]
theorem label_no_byte (l : List UInt8) {i : Nat} (hi : i < l.length) (h : hostByte (l.getD i 0) = false) : label l = false := by
  refine label_false hi ?_
  unfold hostByte at h
  rw [Bool.or_eq_false_iff] at h
  unfold labelAt
  rw [h.1, h.2]
  rfl
theorem host_nil : host [] = false := rfl
theorem mailOk_eq (l : List UInt8) : mailOk l = (decide (l.length ≤ 40) && name (bef l 64) && host (aft l 64)) := by
  have e1 : nm l = bef l 64 := rfl
  have e2 : hs l = aft l 64 := rfl
  unfold mailOk
  rw [e1, e2]
  cases hc : l.contains 64 with
  | true =>
    cases decide (l.length ≤ 40) <;> cases name (bef l 64) <;> cases host (aft l 64) <;> rfl
  | false =>
    rw [aft_none hc, host_nil]
    simp
theorem mask_mail {l : List UInt8} (h : mailOk l = true) : mask l = (bef l 64).take 1 ++ [42, 42, 42] ++ ([64] ++ aft l 64) := by
  obtain ⟨h1, _, _, _, h5⟩ := mailOk_parts h
  unfold mask
  rw [if_pos h]
  have e1 : nm l = bef l 64 := rfl
  have e2 : hs l = aft l 64 := rfl
  rw [e1, e2] at h1
  have e3 : l.drop (bef l 64).length = 64 :: aft l 64 := by
    have h := List.drop_left (l₁ := bef l 64) (l₂ := 64 :: aft l 64)
    rwa [← h1] at h
  have e4 : l.take 1 = (bef l 64).take 1 := by
    conv => lhs; rw [h1]
    rw [List.take_append_of_le_length (by rw [← e1]; exact h5)]
  rw [e1, e3, e4]
  rfl
theorem phone_cons (l : List UInt8) : phoneOk l = (Lib.hasPrefix l [43] && decide (8 ≤ (Lib.trimPrefix l [43]).length) && decide ((Lib.trimPrefix l [43]).length ≤ 15) && (Lib.trimPrefix l [43]).getD 0 0 != 48 && (Lib.trimPrefix l [43]).all digit) := by
  cases l with
  | nil => rfl
  | cons a l =>
    have hp : Lib.hasPrefix (a :: l) [43] = (a == 43) := by
      have e1 : ((43 : UInt8) == a) = (a == 43) := by rw [Bool.eq_iff_iff, beq_iff_eq, beq_iff_eq]; exact eq_comm
      simp [Lib.hasPrefix, List.isPrefixOf, e1]
    unfold phoneOk
    rw [hp]
    cases ha : (a == 43) with
    | false =>
      have : ((a :: l).getD 0 0 == 43) = false := by simpa using ha
      rw [this]
      simp
    | true =>
      have h1 : Lib.trimPrefix (a :: l) [43] = l := by
        unfold Lib.trimPrefix
        rw [hp, if_pos ha]
        rfl
      have h2 : ((a :: l).getD 0 0 == 43) = true := by simpa using ha
      have h3 : (a :: l).getD 1 0 = l.getD 0 0 := by simp
      rw [h1, h2, h3]
      have h4 : decide (9 ≤ (a :: l).length) = decide (8 ≤ l.length) := by
        rw [Bool.eq_iff_iff, decide_eq_true_iff, decide_eq_true_iff]; simp
      have h5 : decide ((a :: l).length ≤ 16) = decide (l.length ≤ 15) := by
        rw [Bool.eq_iff_iff, decide_eq_true_iff, decide_eq_true_iff]; simp
      rw [h4, h5]
      simp
theorem untag_no {l : List UInt8} (h : (aft l 43).contains 64 = false) : untag l = l := by
  cases hp : l.contains 43 with
  | false => exact untag_self l (fun c hc e => by subst e; have : l.contains 43 = true := by simpa using hc
                                                  rw [this] at hp; cases hp)
  | true =>
    have hl := bef_aft hp
    have hb : ∀ x ∈ bef l 43, x ≠ 43 := fun x hx => by have := take_while_all _ _ x hx; simpa using this
    rw [hl]
    exact untag_no_at _ _ hb (fun x hx e => by subst e; have : (aft l 43).contains 64 = true := by simpa using hx
                                               rw [this] at h; cases h)
theorem untag_yes {l : List UInt8} (h : (aft l 43).contains 64 = true) : untag l = bef l 43 ++ (aft l 43).drop (bef (aft l 43) 64).length := by
  cases hp : l.contains 43 with
  | false => rw [aft_none hp] at h; cases h
  | true =>
    have hl := bef_aft hp
    have hb : ∀ x ∈ bef l 43, x ≠ 43 := fun x hx => by have := take_while_all _ _ x hx; simpa using this
    have h2 := bef_aft h
    have hb2 : ∀ x ∈ bef (aft l 43) 64, x ≠ 64 := fun x hx => by have := take_while_all _ _ x hx; simpa using this
    have e : (aft l 43).drop (bef (aft l 43) 64).length = 64 :: aft (aft l 43) 64 := by
      conv => lhs; arg 2; rw [h2]
      rw [List.drop_left]
    rw [e]
    conv => lhs; rw [hl, h2]
    exact untag_of _ _ _ hb hb2

theorem trimR_cons (c : UInt8) (l : List UInt8) : trimR (c :: l) = if trimR l = [] ∧ ws c = true then [] else c :: trimR l := by
  unfold trimR
  rw [List.reverse_cons]
  by_cases h : l.reverse.dropWhile ws = []
  · have hall : ∀ x ∈ l.reverse, ws x = true := by
      intro x hx
      have := List.takeWhile_append_dropWhile (p := ws) (l := l.reverse)
      rw [h, List.append_nil] at this
      rw [← this] at hx
      exact take_while_all _ _ x hx
    have e := trimL_ws l.reverse [c] hall
    unfold trimL at e
    rw [e, h]
    simp only [List.dropWhile_cons, List.reverse_nil, true_and]
    split
    · simp
    · simp
  · have e : (l.reverse ++ [c]).dropWhile ws = l.reverse.dropWhile ws ++ [c] := by
      have hs := List.takeWhile_append_dropWhile (p := ws) (l := l.reverse)
      have h1 := trimL_ws (l.reverse.takeWhile ws) (l.reverse.dropWhile ws ++ [c]) (take_while_all _ _)
      unfold trimL at h1
      rw [← List.append_assoc, hs] at h1
      rw [h1]
      cases hd : l.reverse.dropWhile ws with
      | nil => exact absurd hd h
      | cons d r =>
        have hw : ws d = false := by
          have := List.head_dropWhile_not ws h
          simp only [hd, List.head_cons] at this
          exact this
        rw [List.cons_append, List.dropWhile_cons, if_neg (by rw [hw]; decide)]
    rw [e, if_neg (by simpa using fun h2 => absurd h2 h)]
    simp
theorem trim_swap (l : List UInt8) : trimL (trimR l) = trimR (trimL l) := by
  induction l with
  | nil => rfl
  | cons c l ih =>
    rw [trimR_cons, trimL_cons]
    by_cases h : ws c = true
    · rw [if_pos h]
      split
      · rename_i h2
        rw [← ih, h2.1]
      · rw [trimL_cons, if_pos h, ih]
    · rw [if_neg h, if_neg (fun h2 => h h2.2), trimL_cons, if_neg h, trimR_cons, if_neg (fun h2 => h h2.2)]
theorem trimS_eq (l : List UInt8) : Lib.trimS l [32, 9] = trim l := by
  have e : (fun c : UInt8 => ([32, 9] : List UInt8).contains c) = ws := by
    funext c
    unfold ws
    simp only [List.contains_cons, List.contains_nil, Bool.or_false]
  unfold Lib.trimS Lib.trimLeftS Lib.trimRightS trim
  rw [e]
  exact trim_swap l
theorem splitK_dots : ∀ (n : Nat) (l : List UInt8), l.length ≤ n → Lib.splitK [46] 0 (Lib.count l [46]) l = splits [] l := by
  intro n
  induction n with
  | zero =>
    intro l hl
    obtain rfl : l = [] := List.eq_nil_of_length_eq_zero (by omega)
    rfl
  | succ n ih =>
    intro l hl
    cases hc : l.contains 46 with
    | false =>
      have hi : Lib.index l [46] = -1 := by rw [index_one, hc]; rfl
      rw [Lib.count_miss hi]
      have hb := splits_go [] l [] (fun c hcm e => by subst e; have : l.contains 46 = true := by simpa using hcm
                                                      rw [this] at hc; cases hc)
      rw [List.append_nil, List.nil_append] at hb
      rw [hb]
      rfl
    | true =>
      have hi : Lib.index l [46] = ((bef l 46).length : Nat) := by rw [index_one, hc]; rfl
      have hlt := bef_length_lt hc
      rw [Lib.count_hit (by simp) hi, Nat.add_comm]
      have hl2 := bef_aft hc
      have hb : ∀ x ∈ bef l 46, x ≠ 46 := fun x hx => by have := take_while_all _ _ x hx; simpa using this
      have e0 : splits [] l = bef l 46 :: splits [] (aft l 46) := by
        conv => lhs; rw [hl2]
        rw [splits_go _ _ _ hb, splits_dot, List.nil_append]
      have ha : aft l 46 = l.drop ((bef l 46).length + 1) := rfl
      unfold Lib.splitK
      rw [hi, if_neg (by simp)]
      have e1 : (((bef l 46).length : Nat) : Int).toNat = (bef l 46).length := by omega
      rw [e1, Nat.add_zero, take_bef, e0]
      congr 1
      show Lib.splitK [46] 0 (Lib.count (l.drop ((bef l 46).length + 1)) [46]) (l.drop ((bef l 46).length + 1)) = _
      rw [← ha]
      refine ih _ ?_
      rw [ha, List.length_drop]
      omega
theorem splitB_dots (s : ByteArray) : Lib.splitB ⟨#[46]⟩ 0 (Lib.countB s ⟨#[46]⟩) s = (splits [] s.data.toList).map ba := by
  have h := Lib.splitB_data ⟨#[46]⟩ 0 (Lib.countB s ⟨#[46]⟩) s
  have e : Lib.countB s ⟨#[46]⟩ = Lib.count s.data.toList [46] := rfl
  rw [e] at h
  rw [← splitK_dots _ _ (Nat.le_refl _), e]
  rw [show (⟨#[46]⟩ : ByteArray).data.toList = [46] from rfl] at h
  rw [← h, List.map_map]
  conv => lhs; rw [← List.map_id (Lib.splitB _ _ _ _)]
  exact List.map_congr_left fun x _ => (ba_back x).symm
/-- The bytes that a closure lets pass, as sets. -/
theorem set_facts (c : UInt8) : (([97, 98, 99, 100, 101, 102, 103, 104, 105, 106, 107, 108, 109, 110, 111, 112, 113, 114, 115, 116, 117, 118, 119, 120, 121, 122] ++ [48, 49, 50, 51, 52, 53, 54, 55, 56, 57] ++ [95, 45, 46] : List UInt8).contains c = nameByte c) ∧
    (([97, 98, 99, 100, 101, 102, 103, 104, 105, 106, 107, 108, 109, 110, 111, 112, 113, 114, 115, 116, 117, 118, 119, 120, 121, 122] ++ [48, 49, 50, 51, 52, 53, 54, 55, 56, 57] ++ [45] : List UInt8).contains c = hostByte c) ∧
    (([48, 49, 50, 51, 52, 53, 54, 55, 56, 57] : List UInt8).contains c = digit c) ∧ (([32, 9, 45, 46, 40, 41] : List UInt8).contains c = !keepP c) := by
  have : ∀ n, n < 256 → (([97, 98, 99, 100, 101, 102, 103, 104, 105, 106, 107, 108, 109, 110, 111, 112, 113, 114, 115, 116, 117, 118, 119, 120, 121, 122] ++ [48, 49, 50, 51, 52, 53, 54, 55, 56, 57] ++ [95, 45, 46] : List UInt8).contains (UInt8.ofNat n) = nameByte (UInt8.ofNat n)) ∧
    (([97, 98, 99, 100, 101, 102, 103, 104, 105, 106, 107, 108, 109, 110, 111, 112, 113, 114, 115, 116, 117, 118, 119, 120, 121, 122] ++ [48, 49, 50, 51, 52, 53, 54, 55, 56, 57] ++ [45] : List UInt8).contains (UInt8.ofNat n) = hostByte (UInt8.ofNat n)) ∧
    (([48, 49, 50, 51, 52, 53, 54, 55, 56, 57] : List UInt8).contains (UInt8.ofNat n) = digit (UInt8.ofNat n)) ∧ (([32, 9, 45, 46, 40, 41] : List UInt8).contains (UInt8.ofNat n) = !keepP (UInt8.ofNat n)) := by decide +kernel
  have h2 := this c.toNat c.toNat_lt
  rw [UInt8.ofNat_toNat] at h2
  exact h2
end Go.Proofs.YtpcbbmafallogaaDoor.Ad
