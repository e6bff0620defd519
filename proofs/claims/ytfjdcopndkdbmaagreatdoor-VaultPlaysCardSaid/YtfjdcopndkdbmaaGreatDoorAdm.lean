/-
  The mathematics of layer 9: names, labels, hosts; mail and phone addresses; what is taken away before they are looked at; masks and parts. No condition.
  More mathematics of layer 9: what the library's searches and cuts come to; names, labels and phone addresses as the program looks at them. No condition.
-/
import Derived.Lib.IndexMore
import Derived.Lib.SplitLaws
import Derived.Lib.SlTrimSet
import Derived.Lib.Strings
import Derived.Test.YtfjdcopndkdbmaaGreatDoorBas

namespace Go.Proofs.YtfjdcopndkdbmaaGreatDoor.Ad

/-- a to z, 0 to 9. -/
def isLet (c : UInt8) : Bool := (97 ≤ c.toNat && c.toNat ≤ 122) || (48 ≤ c.toNat && c.toNat ≤ 57)
def nameByte (c : UInt8) : Bool := isLet c || c == 95 || c == 45 || c == 46
/-- A byte of a name, at its place. -/
def nameAt (l : List UInt8) (i : Nat) : Bool := nameByte (l.getD i 0) && (l.getD i 0 != 46 || (i != 0 && i + 1 != l.length && l.getD (i - 1) 0 != 46))
def name (l : List UInt8) : Bool := (List.range l.length).all (nameAt l) && decide (1 ≤ l.length)
/-- A byte of a label, at its place. -/
def labelAt (l : List UInt8) (i : Nat) : Bool := isLet (l.getD i 0) || (l.getD i 0 == 45 && i != 0 && i + 1 != l.length)
def label (l : List UInt8) : Bool := (List.range l.length).all (labelAt l) && decide (1 ≤ l.length) && decide (l.length ≤ 20)
/-- A text, parted at its dots. -/
def splits : List UInt8 → List UInt8 → List (List UInt8)
  | acc, [] => [acc]
  | acc, c :: r => if c = 46 then acc :: splits [] r else splits (acc ++ [c]) r
def host (l : List UInt8) : Bool := (splits [] l).all label && decide (2 ≤ (splits [] l).length)
/-- What stands ahead of the first at, and behind it. -/
def nm (l : List UInt8) : List UInt8 := l.takeWhile (· != 64)
def hs (l : List UInt8) : List UInt8 := l.drop ((nm l).length + 1)
def mailOk (l : List UInt8) : Bool := l.contains 64 && name (nm l) && host (hs l) && decide (l.length ≤ 40)
def digit (c : UInt8) : Bool := 48 ≤ c.toNat && c.toNat ≤ 57
def phoneOk (l : List UInt8) : Bool := decide (9 ≤ l.length) && decide (l.length ≤ 16) && l.getD 0 0 == 43 && l.getD 1 0 != 48 && (l.drop 1).all digit
def ws (c : UInt8) : Bool := c == 32 || c == 9
def trimL (l : List UInt8) : List UInt8 := l.dropWhile ws
def trimR (l : List UInt8) : List UInt8 := (l.reverse.dropWhile ws).reverse
def trim (l : List UInt8) : List UInt8 := trimR (trimL l)
def low1 (c : UInt8) : UInt8 := if 65 ≤ c.toNat ∧ c.toNat ≤ 90 then c + 32 else c
def low (l : List UInt8) : List UInt8 := l.map low1
/-- What stands ahead of the first plus. -/
def pre (l : List UInt8) : List UInt8 := l.takeWhile (· != 43)
def untag (l : List UInt8) : List UInt8 := if (l.drop (pre l).length).contains 64 then pre l ++ (l.drop (pre l).length).dropWhile (· != 64) else l
def mailText (l : List UInt8) : List UInt8 := untag (low (trim l))
def keepP (c : UInt8) : Bool := !(c == 32 || c == 9 || c == 45 || c == 46 || c == 40 || c == 41)
def phoneText (l : List UInt8) : List UInt8 := l.filter keepP
/-- MAIL, PHONE, ANY, KIND, MASK, SPLIT. -/
def mail (l : List UInt8) : Option (List UInt8) := if mailOk (mailText l) then some (mailText l) else none
def phone (l : List UInt8) : Option (List UInt8) := if phoneOk (phoneText l) then some (phoneText l) else none
def any (l : List UInt8) : Option (List UInt8) := if mailOk (mailText l) then some (mailText l) else phone l
def kind (l : List UInt8) : Nat := if mailOk l then 1 else if phoneOk l then 2 else 0
def mask (l : List UInt8) : List UInt8 := if mailOk l then l.take 1 ++ [42, 42, 42] ++ l.drop (nm l).length else if phoneOk l then [43, 42, 42, 42] ++ l.drop (l.length - 2) else [42, 42, 42]
def split (l : List UInt8) : Option (List UInt8 × List UInt8) := if mailOk l then some (nm l, hs l) else none

/-! ### Where the first such byte stands -/
theorem take_while_all (p : UInt8 → Bool) (l : List UInt8) : ∀ c ∈ l.takeWhile p, p c = true := by
  induction l with
  | nil => intro c h; cases h
  | cons a l ih =>
    intro c hc
    rw [List.takeWhile_cons] at hc
    split at hc
    · rename_i ha
      rcases List.mem_cons.1 hc with h | h
      · rw [h]; exact ha
      · exact ih c h
    · cases hc
theorem nm_no (l : List UInt8) : (nm l).contains 64 = false := by
  cases h : (nm l).contains 64 with
  | false => rfl
  | true =>
    have h2 := take_while_all _ _ 64 (by unfold nm at h; simpa using h)
    simp at h2
/-- A text that has an at is its name, an at, and its host. -/
theorem parts (l : List UInt8) (h : l.contains 64 = true) : l = nm l ++ 64 :: hs l := by
  induction l with
  | nil => simp at h
  | cons a l ih =>
    by_cases ha : a = 64
    · subst ha
      simp [nm, hs]
    · have h2 : l.contains 64 = true := by
        simp only [List.contains_cons, Bool.or_eq_true, beq_iff_eq] at h
        rcases h with h | h
        · exact absurd h.symm ha
        · exact h
      have h3 : nm (a :: l) = a :: nm l := by simp [nm, ha]
      have h4 : hs (a :: l) = hs l := by unfold hs; rw [h3]; rfl
      rw [h3, h4, List.cons_append, ← ih h2]
theorem nm_of (a b : List UInt8) (h : a.contains 64 = false) : nm (a ++ 64 :: b) = a := by
  induction a with
  | nil => simp [nm]
  | cons c a ih =>
    have hc : c ≠ 64 := by
      rintro rfl
      simp at h
    have h2 : a.contains 64 = false := by
      simp only [List.contains_cons, Bool.or_eq_false_iff] at h
      exact h.2
    have := ih h2
    unfold nm at this ⊢
    rw [List.cons_append, List.takeWhile_cons, if_pos (by simpa using hc), this]
theorem hs_of (a b : List UInt8) (h : a.contains 64 = false) : hs (a ++ 64 :: b) = b := by
  unfold hs
  rw [nm_of a b h, List.drop_append]
  simp

/-! ### Which bytes there are -/
theorem splits_mem (acc l : List UInt8) : ∀ c, c ∈ l → c = 46 ∨ ∃ p ∈ splits acc l, c ∈ p := by
  have hacc : ∀ (l acc : List UInt8) c, c ∈ acc → ∃ p ∈ splits acc l, c ∈ p := by
    intro l
    induction l with
    | nil => intro acc c h; exact ⟨acc, by simp [splits], h⟩
    | cons a l ih =>
      intro acc c h
      unfold splits
      by_cases ha : a = 46
      · rw [if_pos ha]; exact ⟨acc, by simp, h⟩
      · rw [if_neg ha]; exact ih (acc ++ [a]) c (by simp [h])
  induction l generalizing acc with
  | nil => intro c h; cases h
  | cons a l ih =>
    intro c hc
    unfold splits
    by_cases ha : a = 46
    · rw [if_pos ha]
      rcases List.mem_cons.1 hc with h | h
      · exact .inl (h.trans ha)
      · rcases ih [] c h with h2 | ⟨p, hp, hcp⟩
        · exact .inl h2
        · exact .inr ⟨p, by simp [hp], hcp⟩
    · rw [if_neg ha]
      rcases List.mem_cons.1 hc with h | h
      · exact .inr (hacc l (acc ++ [a]) c (by simp [h]))
      · exact ih (acc ++ [a]) c h
theorem all_at {l : List UInt8} {f : Nat → Bool} (h : (List.range l.length).all f = true) {c : UInt8} (hc : c ∈ l) : ∃ i, l.getD i 0 = c ∧ f i = true := by
  obtain ⟨i, hi, rfl⟩ := List.mem_iff_getElem.1 hc
  refine ⟨i, ?_, List.all_eq_true.1 h i (List.mem_range.2 hi)⟩
  rw [List.getD_eq_getElem?_getD, List.getElem?_eq_getElem hi]
  rfl
theorem name_byte {l : List UInt8} (h : name l = true) : ∀ c ∈ l, nameByte c = true := by
  intro c hc
  unfold name at h
  rw [Bool.and_eq_true] at h
  obtain ⟨i, rfl, h2⟩ := all_at h.1 hc
  unfold nameAt at h2
  rw [Bool.and_eq_true] at h2
  exact h2.1
theorem label_byte {l : List UInt8} (h : label l = true) : ∀ c ∈ l, (isLet c || c == 45) = true := by
  intro c hc
  unfold label at h
  simp only [Bool.and_eq_true] at h
  obtain ⟨i, rfl, h2⟩ := all_at h.1.1 hc
  unfold labelAt at h2
  simp only [Bool.or_eq_true, Bool.and_eq_true] at h2 ⊢
  rcases h2 with h2 | h2
  · exact .inl h2
  · exact .inr h2.1.1
theorem host_byte {l : List UInt8} (h : host l = true) : ∀ c ∈ l, nameByte c = true := by
  intro c hc
  unfold host at h
  rw [Bool.and_eq_true] at h
  unfold nameByte
  rcases splits_mem [] l c hc with rfl | ⟨p, hp, hcp⟩
  · rfl
  · have := label_byte (List.all_eq_true.1 h.1 p hp) c hcp
    simp only [Bool.or_eq_true] at this ⊢
    rcases this with h2 | h2
    · exact .inl (.inl (.inl h2))
    · exact .inl (.inr h2)
/-- A byte of a mail address. -/
def mailByte (c : UInt8) : Bool := nameByte c || c == 64
theorem mail_byte {l : List UInt8} (h : mailOk l = true) : ∀ c ∈ l, mailByte c = true := by
  unfold mailOk at h
  simp only [Bool.and_eq_true] at h
  obtain ⟨⟨⟨h1, h2⟩, h3⟩, _⟩ := h
  intro c hc
  rw [parts l h1] at hc
  unfold mailByte
  rcases List.mem_append.1 hc with hc | hc
  · rw [name_byte h2 c hc]; rfl
  · rcases List.mem_cons.1 hc with rfl | hc
    · simp
    · rw [host_byte h3 c hc]; rfl
theorem byte_facts (c : UInt8) (h : mailByte c = true) : ws c = false ∧ low1 c = c ∧ c ≠ 43 := by
  have : ∀ n, n < 256 → mailByte (UInt8.ofNat n) = true → ws (UInt8.ofNat n) = false ∧ low1 (UInt8.ofNat n) = UInt8.ofNat n ∧ UInt8.ofNat n ≠ 43 := by decide +kernel
  have h2 := this c.toNat c.toNat_lt
  rw [UInt8.ofNat_toNat] at h2
  exact h2 h

/-! ### What is not changed -/
theorem dropWhile_none (p : UInt8 → Bool) (l : List UInt8) (h : ∀ c ∈ l, p c = false) : l.dropWhile p = l := by
  cases l with
  | nil => rfl
  | cons a l => rw [List.dropWhile_cons, if_neg (by rw [h a (by simp)]; decide)]
theorem trim_self (l : List UInt8) (h : ∀ c ∈ l, ws c = false) : trim l = l := by
  unfold trim trimR trimL
  rw [dropWhile_none _ _ h, dropWhile_none _ _ (fun c hc => h c (List.mem_reverse.1 hc)), List.reverse_reverse]
theorem low_self (l : List UInt8) (h : ∀ c ∈ l, low1 c = c) : low l = l := by
  unfold low
  conv => rhs; rw [← List.map_id l]
  exact List.map_congr_left h
theorem pre_none (l : List UInt8) (h : ∀ c ∈ l, c ≠ 43) : pre l = l := by
  induction l with
  | nil => rfl
  | cons a l ih =>
    unfold pre at ih ⊢
    rw [List.takeWhile_cons, if_pos (by simpa using h a (by simp)), ih (fun c hc => h c (by simp [hc]))]
theorem untag_self (l : List UInt8) (h : ∀ c ∈ l, c ≠ 43) : untag l = l := by
  unfold untag
  rw [pre_none l h, List.drop_length]
  rfl
theorem mailText_self {l : List UInt8} (h : mailOk l = true) : mailText l = l := by
  have hb := mail_byte h
  unfold mailText
  rw [trim_self l (fun c hc => (byte_facts c (hb c hc)).1), low_self l (fun c hc => (byte_facts c (hb c hc)).2.1), untag_self l (fun c hc => (byte_facts c (hb c hc)).2.2)]
/-- MAIL ADDRESSES ARE WRITTEN IN ONE WAY. -/
theorem mail_once {l t : List UInt8} (h : mail l = some t) : mailOk t = true ∧ mail t = some t ∧ kind t = 1 ∧ t.length ≤ 40 := by
  unfold mail at h
  split at h
  · rename_i h1
    obtain rfl := Option.some.inj h
    refine ⟨h1, ?_, by unfold kind; rw [if_pos h1], ?_⟩
    · unfold mail
      rw [mailText_self h1, if_pos h1]
    · unfold mailOk at h1
      simp only [Bool.and_eq_true, decide_eq_true_eq] at h1
      exact h1.2
  · cases h
theorem phone_byte {l : List UInt8} (h : phoneOk l = true) : ∀ c ∈ l, keepP c = true ∧ c ≠ 64 := by
  unfold phoneOk at h
  simp only [Bool.and_eq_true, decide_eq_true_eq, beq_iff_eq] at h
  obtain ⟨⟨⟨⟨h9, _⟩, h1⟩, _⟩, h2⟩ := h
  have hd : ∀ c : UInt8, digit c = true → keepP c = true ∧ c ≠ 64 := by
    intro c hc
    have : ∀ n, n < 256 → digit (UInt8.ofNat n) = true → keepP (UInt8.ofNat n) = true ∧ UInt8.ofNat n ≠ 64 := by decide +kernel
    have h2 := this c.toNat c.toNat_lt
    rw [UInt8.ofNat_toNat] at h2
    exact h2 hc
  cases l with
  | nil => simp at h9
  | cons a l =>
    intro c hc
    rcases List.mem_cons.1 hc with rfl | hc
    · simp at h1
      subst h1
      exact ⟨rfl, by decide⟩
    · exact hd c (List.all_eq_true.1 h2 c (by simpa using hc))
theorem phoneText_self {l : List UInt8} (h : phoneOk l = true) : phoneText l = l := by
  unfold phoneText
  rw [List.filter_eq_self]
  exact fun c hc => (phone_byte h c hc).1
/-- Nothing is both. -/
theorem not_both (l : List UInt8) (h1 : mailOk l = true) : phoneOk l = false := by
  cases h : phoneOk l with
  | false => rfl
  | true =>
    unfold mailOk at h1
    simp only [Bool.and_eq_true] at h1
    exact absurd rfl (phone_byte h 64 (by simpa using h1.1.1.1)).2
theorem phone_once {l t : List UInt8} (h : phone l = some t) : phoneOk t = true ∧ phone t = some t ∧ kind t = 2 ∧ t.length ≤ 16 := by
  unfold phone at h
  split at h
  · rename_i h1
    obtain rfl := Option.some.inj h
    refine ⟨h1, ?_, ?_, ?_⟩
    · unfold phone
      rw [phoneText_self h1, if_pos h1]
    · unfold kind
      rw [if_neg (fun h2 => by rw [not_both _ h2] at h1; cases h1), if_pos h1]
    · unfold phoneOk at h1
      simp only [Bool.and_eq_true, decide_eq_true_eq] at h1
      exact h1.1.1.1.2
  · cases h
theorem dropWhile_mem {p : UInt8 → Bool} {l : List UInt8} {c : UInt8} (h : c ∈ l.dropWhile p) : c ∈ l := (List.dropWhile_sublist p).subset h
theorem untag_mem {l : List UInt8} {c : UInt8} (h : c ∈ untag l) : c ∈ l := by
  unfold untag at h
  split at h
  · rcases List.mem_append.1 h with h | h
    · exact (List.takeWhile_sublist _).subset h
    · exact List.mem_of_mem_drop (dropWhile_mem h)
  · exact h
theorem trim_mem {l : List UInt8} {c : UInt8} (h : c ∈ trim l) : c ∈ l := by
  unfold trim trimR trimL at h
  exact dropWhile_mem (List.mem_reverse.1 (dropWhile_mem (List.mem_reverse.1 h)))
theorem low1_at (c : UInt8) (h : low1 c = 64) : c = 64 := by
  have : ∀ n, n < 256 → low1 (UInt8.ofNat n) = 64 → UInt8.ofNat n = 64 := by decide +kernel
  have h2 := this c.toNat c.toNat_lt
  rw [UInt8.ofNat_toNat] at h2
  exact h2 h
theorem mail_at {l : List UInt8} (h : mailOk (mailText l) = true) : (64 : UInt8) ∈ l := by
  unfold mailOk at h
  simp only [Bool.and_eq_true] at h
  have h1 : (64 : UInt8) ∈ mailText l := by simpa using h.1.1.1
  have h2 := untag_mem h1
  unfold low at h2
  obtain ⟨c, hc, hc2⟩ := List.mem_map.1 h2
  rw [low1_at c hc2] at hc
  exact trim_mem hc
/-- NOTHING IS A MAIL ADDRESS AND A PHONE. -/
theorem never_both (l : List UInt8) (h1 : mailOk (mailText l) = true) : phoneOk (phoneText l) = false := by
  cases h : phoneOk (phoneText l) with
  | false => rfl
  | true =>
    have h2 : (64 : UInt8) ∈ phoneText l := by
      unfold phoneText
      exact List.mem_filter.2 ⟨mail_at h1, rfl⟩
    exact absurd rfl (phone_byte h 64 h2).2

/-! ### Parts -/
theorem name_no {l : List UInt8} (h : name l = true) : l.contains 64 = false := by
  cases hc : l.contains 64 with
  | false => rfl
  | true =>
    have := name_byte h 64 (by simpa using hc)
    exact absurd this (by decide)
theorem host_no {l : List UInt8} (h : host l = true) : l.contains 64 = false := by
  cases hc : l.contains 64 with
  | false => rfl
  | true =>
    have := host_byte h 64 (by simpa using hc)
    exact absurd this (by decide)
theorem kind_name {l : List UInt8} (h : name l = true) : kind l = 0 := by
  have h1 : mailOk l = false := by unfold mailOk; rw [name_no h]; rfl
  have h2 : phoneOk l = false := by
    cases hp : phoneOk l with
    | false => rfl
    | true =>
      unfold phoneOk at hp
      simp only [Bool.and_eq_true, decide_eq_true_eq, beq_iff_eq] at hp
      cases l with
      | nil => simp at hp
      | cons a l =>
        have ha : a = 43 := by simpa using hp.1.1.2
        have := name_byte h a (by simp)
        rw [ha] at this
        exact absurd this (by decide)
  unfold kind
  rw [h1, h2]
  rfl
theorem mailOk_of {a b : List UInt8} (ha : name a = true) (hb : host b = true) (hl : a.length + 1 + b.length ≤ 40) : mailOk (a ++ 64 :: b) = true := by
  unfold mailOk
  rw [nm_of a b (name_no ha), hs_of a b (name_no ha), ha, hb]
  simp
  omega
theorem mailOk_parts {l : List UInt8} (h : mailOk l = true) : l = nm l ++ 64 :: hs l ∧ name (nm l) = true ∧ host (hs l) = true ∧ l.length ≤ 40 ∧ 1 ≤ (nm l).length := by
  unfold mailOk at h
  simp only [Bool.and_eq_true, decide_eq_true_eq] at h
  refine ⟨parts l h.1.1.1, h.1.1.2, h.1.2, h.2, ?_⟩
  have := h.1.1.2
  unfold name at this
  simp only [Bool.and_eq_true, decide_eq_true_eq] at this
  exact this.2
/-- Another name at the same host. -/
theorem mailOk_z {l : List UInt8} (h : mailOk l = true) : mailOk (122 :: 64 :: hs l) = true := by
  obtain ⟨h1, h2, h3, h4, h5⟩ := mailOk_parts h
  have hl := congrArg List.length h1
  rw [List.length_append, List.length_cons] at hl
  have := mailOk_of (a := [122]) (b := hs l) (by decide) h3 (by simp; omega)
  exact this

/-! ### For loops over bytes -/
theorem name_false {l : List UInt8} {i : Nat} (h : i < l.length) (hn : nameAt l i = false) : name l = false := by
  unfold name
  have : (List.range l.length).all (nameAt l) = false := by
    rw [List.all_eq_false]
    exact ⟨i, List.mem_range.2 h, by rw [hn]; decide⟩
  rw [this]
  rfl
theorem range_all_succ (f : Nat → Bool) (i : Nat) (h : (List.range i).all f = true) (hf : f i = true) : (List.range (i + 1)).all f = true := by
  rw [List.range_succ, List.all_append, h]
  simp [hf]
theorem name_end {l : List UInt8} (h : (List.range l.length).all (nameAt l) = true) : name l = decide (1 ≤ l.length) := by
  unfold name
  rw [h, Bool.true_and]
theorem label_false {l : List UInt8} {i : Nat} (h : i < l.length) (hn : labelAt l i = false) : label l = false := by
  unfold label
  have : (List.range l.length).all (labelAt l) = false := by
    rw [List.all_eq_false]
    exact ⟨i, List.mem_range.2 h, by rw [hn]; decide⟩
  rw [this]
  rfl
theorem label_end {l : List UInt8} (h : (List.range l.length).all (labelAt l) = true) : label l = (decide (1 ≤ l.length) && decide (l.length ≤ 20)) := by
  unfold label
  rw [h, Bool.true_and]
/-- Bytes that are no dots go on with a label. -/
theorem splits_go (acc a r : List UInt8) (h : ∀ c ∈ a, c ≠ 46) : splits acc (a ++ r) = splits (acc ++ a) r := by
  induction a generalizing acc with
  | nil => simp
  | cons c a ih =>
    rw [List.cons_append]
    conv => lhs; unfold splits
    rw [if_neg (h c (by simp)), ih (acc ++ [c]) (fun x hx => h x (by simp [hx]))]
    simp
theorem splits_dot (acc r : List UInt8) : splits acc (46 :: r) = acc :: splits [] r := by
  conv => lhs; unfold splits
  rw [if_pos rfl]
theorem splits_end (acc : List UInt8) : splits acc [] = [acc] := rfl
/-- Parted so far: the labels that are whole, the bytes since, what is to come. -/
theorem splits_from (l : List UInt8) (done : List (List UInt8)) (frm i : Nat) (hi : frm ≤ i) (hil : i ≤ l.length) (h : splits [] l = done ++ splits ((l.drop frm).take (i - frm)) (l.drop i)) :
    (∀ hlt : i < l.length, l[i] ≠ 46 → splits [] l = done ++ splits ((l.drop frm).take (i + 1 - frm)) (l.drop (i + 1))) ∧
    (∀ hlt : i < l.length, l[i] = 46 → splits [] l = (done ++ [(l.drop frm).take (i - frm)]) ++ splits ((l.drop (i + 1)).take (i + 1 - (i + 1))) (l.drop (i + 1))) ∧
    (i = l.length → splits [] l = done ++ [(l.drop frm).take (i - frm)]) := by
  refine ⟨fun hlt hne => ?_, fun hlt he => ?_, fun he => ?_⟩
  · rw [h, List.drop_eq_getElem_cons hlt]
    congr 1
    conv => lhs; unfold splits
    rw [if_neg hne]
    congr 1
    have e : i + 1 - frm = (i - frm) + 1 := by omega
    have hd : i - frm < (l.drop frm).length := by rw [List.length_drop]; omega
    rw [e, List.take_succ_eq_append_getElem hd]
    congr 2
    rw [List.getElem_drop]
    congr 1
    omega
  · rw [h, List.drop_eq_getElem_cons hlt, he, splits_dot]
    simp
  · subst he
    rw [h, List.drop_length, splits_end]
theorem host_false {l : List UInt8} {p : List UInt8} (h : p ∈ splits [] l) (hp : label p = false) : host l = false := by
  unfold host
  have : (splits [] l).all label = false := by
    rw [List.all_eq_false]
    exact ⟨p, h, by rw [hp]; decide⟩
  rw [this]
  rfl
theorem host_end {l : List UInt8} {done : List (List UInt8)} (h : splits [] l = done) (hd : done.all label = true) : host l = decide (2 ≤ done.length) := by
  unfold host
  rw [h, hd, Bool.true_and]

/-! ### What is taken away -/
theorem trimL_cons (c : UInt8) (l : List UInt8) : trimL (c :: l) = if ws c = true then trimL l else c :: l := by
  unfold trimL
  rw [List.dropWhile_cons]
theorem trimR_snoc (l : List UInt8) (c : UInt8) : trimR (l ++ [c]) = if ws c = true then trimR l else l ++ [c] := by
  unfold trimR
  rw [List.reverse_append, List.reverse_singleton, List.singleton_append, List.dropWhile_cons]
  split
  · rfl
  · simp
theorem trimL_ws (a r : List UInt8) (h : ∀ c ∈ a, ws c = true) : trimL (a ++ r) = trimL r := by
  induction a with
  | nil => rfl
  | cons c a ih => rw [List.cons_append, trimL_cons, if_pos (h c (by simp)), ih (fun x hx => h x (by simp [hx]))]
theorem trimR_ws (l b : List UInt8) (h : ∀ c ∈ b, ws c = true) : trimR (l ++ b) = trimR l := by
  unfold trimR
  rw [List.reverse_append]
  have := trimL_ws b.reverse l.reverse (fun c hc => h c (List.mem_reverse.1 hc))
  unfold trimL at this
  rw [this]
/-- Blanks and tabs at both ends. -/
theorem trim_ends (a l b : List UInt8) (ha : ∀ c ∈ a, ws c = true) (hb : ∀ c ∈ b, ws c = true) (hl : ∀ c ∈ l, ws c = false) (h1 : l ≠ []) : trim (a ++ l ++ b) = l := by
  unfold trim
  rw [List.append_assoc, trimL_ws a _ ha]
  have e : trimL (l ++ b) = l ++ b := by
    cases l with
    | nil => exact absurd rfl h1
    | cons c l => rw [List.cons_append, trimL_cons, if_neg (by rw [hl c (by simp)]; decide)]
  rw [e, trimR_ws l b hb]
  unfold trimR
  rw [dropWhile_none _ _ (fun c hc => hl c (List.mem_reverse.1 hc)), List.reverse_reverse]
theorem low_append (a b : List UInt8) : low (a ++ b) = low a ++ low b := by simp [low]
theorem dropWhile_to (p : UInt8 → Bool) (a : List UInt8) (c : UInt8) (r : List UInt8) (h : ∀ x ∈ a, p x = true) (hc : p c = false) : (a ++ c :: r).dropWhile p = c :: r := by
  induction a with
  | nil => rw [List.nil_append, List.dropWhile_cons, if_neg (by rw [hc]; decide)]
  | cons x a ih => rw [List.cons_append, List.dropWhile_cons, if_pos (h x (by simp)), ih (fun y hy => h y (by simp [hy]))]
theorem takeWhile_to (p : UInt8 → Bool) (a : List UInt8) (c : UInt8) (r : List UInt8) (h : ∀ x ∈ a, p x = true) (hc : p c = false) : (a ++ c :: r).takeWhile p = a := by
  induction a with
  | nil => rw [List.nil_append, List.takeWhile_cons, if_neg (by rw [hc]; decide)]
  | cons x a ih => rw [List.cons_append, List.takeWhile_cons, if_pos (h x (by simp)), ih (fun y hy => h y (by simp [hy]))]
theorem takeWhile_all_ (p : UInt8 → Bool) (a : List UInt8) (h : ∀ x ∈ a, p x = true) : a.takeWhile p = a := by
  induction a with
  | nil => rfl
  | cons x a ih => rw [List.takeWhile_cons, if_pos (h x (by simp)), ih (fun y hy => h y (by simp [hy]))]
/-- What stands from a plus to an at is taken away. -/
theorem untag_of (a b r : List UInt8) (ha : ∀ x ∈ a, x ≠ 43) (hb : ∀ x ∈ b, x ≠ 64) : untag (a ++ 43 :: (b ++ 64 :: r)) = a ++ 64 :: r := by
  have hp : pre (a ++ 43 :: (b ++ 64 :: r)) = a := by
    unfold pre
    exact takeWhile_to _ a 43 _ (fun x hx => by simpa using ha x hx) rfl
  unfold untag
  rw [hp, List.drop_left]
  rw [if_pos (by simp)]
  rw [List.dropWhile_cons, if_pos (by decide), dropWhile_to _ b 64 r (fun x hx => by simpa using hb x hx) rfl]
/-- A plus and no at behind it; no plus. -/
theorem untag_no_at (a b : List UInt8) (ha : ∀ x ∈ a, x ≠ 43) (hb : ∀ x ∈ b, x ≠ 64) : untag (a ++ 43 :: b) = a ++ 43 :: b := by
  have hp : pre (a ++ 43 :: b) = a := by
    unfold pre
    exact takeWhile_to _ a 43 _ (fun x hx => by simpa using ha x hx) rfl
  unfold untag
  rw [hp, List.drop_left, if_neg]
  intro h
  have : (64 : UInt8) ∈ 43 :: b := by simpa using h
  rcases List.mem_cons.1 this with h | h
  · exact absurd h (by decide)
  · exact hb 64 h rfl

/-! ### Addresses of letters -/
/-- a to z. -/
def az (c : UInt8) : Bool := 97 ≤ c.toNat && c.toNat ≤ 122
theorem az_facts (c : UInt8) (h : az c = true) : nameByte c = true ∧ c ≠ 46 ∧ ws c = false ∧ low1 c = c ∧ c ≠ 43 ∧ c ≠ 64 ∧ low1 (c - 32) = c ∧ ws (c - 32) = false := by
  have : ∀ n, n < 256 → az (UInt8.ofNat n) = true → nameByte (UInt8.ofNat n) = true ∧ UInt8.ofNat n ≠ 46 ∧ ws (UInt8.ofNat n) = false ∧ low1 (UInt8.ofNat n) = UInt8.ofNat n ∧ UInt8.ofNat n ≠ 43 ∧ UInt8.ofNat n ≠ 64 ∧ low1 (UInt8.ofNat n - 32) = UInt8.ofNat n ∧ ws (UInt8.ofNat n - 32) = false := by decide +kernel
  have h2 := this c.toNat c.toNat_lt
  rw [UInt8.ofNat_toNat] at h2
  exact h2 h
theorem name_az (l : List UInt8) (h : ∀ c ∈ l, az c = true) (h1 : 1 ≤ l.length) : name l = true := by
  unfold name
  rw [decide_eq_true h1, Bool.and_true, List.all_eq_true]
  intro i hi
  have hi' := List.mem_range.1 hi
  have hg : l.getD i 0 = l[i] := by rw [List.getD_eq_getElem?_getD, List.getElem?_eq_getElem hi']; rfl
  have hf := az_facts _ (h l[i] (List.getElem_mem hi'))
  unfold nameAt
  rw [hg, hf.1, Bool.true_and, Bool.or_eq_true]
  exact .inl (by simpa using hf.2.1)
end Go.Proofs.YtfjdcopndkdbmaaGreatDoor.Ad

namespace Go.Proofs.YtfjdcopndkdbmaaGreatDoor.Ad

/-- Ahead of the first such byte, and behind it. -/
def bef (l : List UInt8) (c : UInt8) : List UInt8 := l.takeWhile (· != c)
def aft (l : List UInt8) (c : UInt8) : List UInt8 := l.drop ((bef l c).length + 1)
theorem bef_cons (a : UInt8) (l : List UInt8) (c : UInt8) : bef (a :: l) c = if a = c then [] else a :: bef l c := by
  unfold bef
  rw [List.takeWhile_cons]
  by_cases h : a = c
  · simp [h]
  · simp [h]
theorem bef_none {l : List UInt8} {c : UInt8} (h : l.contains c = false) : bef l c = l := by
  unfold bef
  refine takeWhile_all_ _ l (fun x hx => ?_)
  have : x ≠ c := by
    rintro rfl
    have h2 : l.contains x = true := by simpa using hx
    rw [h2] at h
    cases h
  simpa using this
theorem take_bef (l : List UInt8) (c : UInt8) : l.take (bef l c).length = bef l c := by
  induction l with
  | nil => rfl
  | cons a l ih =>
    rw [bef_cons]
    by_cases h : a = c
    · simp [h]
    · simp [h, ih]
theorem aft_none {l : List UInt8} {c : UInt8} (h : l.contains c = false) : aft l c = [] := by
  unfold aft
  rw [bef_none h]
  simp
theorem bef_aft {l : List UInt8} {c : UInt8} (h : l.contains c = true) : l = bef l c ++ c :: aft l c := by
  induction l with
  | nil => simp at h
  | cons a l ih =>
    unfold aft
    rw [bef_cons]
    by_cases ha : a = c
    · subst ha
      simp
    · have h2 : l.contains c = true := by
        simp only [List.contains_cons, Bool.or_eq_true, beq_iff_eq] at h
        rcases h with h | h
        · exact absurd h.symm ha
        · exact h
      rw [if_neg ha]
      simp only [List.length_cons, List.drop_succ_cons, List.cons_append]
      congr 1
      exact ih h2
theorem bef_length_lt {l : List UInt8} {c : UInt8} (h : l.contains c = true) : (bef l c).length < l.length := by
  have := congrArg List.length (bef_aft h)
  rw [List.length_append, List.length_cons] at this
  omega
theorem bef_length_le (l : List UInt8) (c : UInt8) : (bef l c).length ≤ l.length := by
  have := congrArg List.length (take_bef l c)
  rw [List.length_take] at this
  omega
theorem aft_length (l : List UInt8) (c : UInt8) : (aft l c).length ≤ l.length := by unfold aft; rw [List.length_drop]; omega
theorem contains_cons_ne {a c : UInt8} {l : List UInt8} (h : a ≠ c) : (a :: l).contains c = l.contains c := by
  simp only [List.contains_cons, Bool.or_eq_right_iff_imp, beq_iff_eq]
  intro h2
  exact absurd h2.symm h
theorem index_one (l : List UInt8) (c : UInt8) : Lib.index l [c] = if l.contains c = true then ((bef l c).length : Int) else -1 := by
  induction l with
  | nil => rfl
  | cons a l ih =>
    rw [bef_cons]
    by_cases h : a = c
    · subst h
      simp [Lib.index]
    · have h3 : ([c].isPrefixOf (a :: l)) = false := by
        have : (c == a) = false := by simpa using fun e : c = a => h e.symm
        simp [List.isPrefixOf, this]
      have h4 : Lib.index (a :: l) [c] = if Lib.index l [c] == -1 then -1 else Lib.index l [c] + 1 := by
        conv => lhs; unfold Lib.index
        rw [h3]
        rfl
      rw [h4, ih, contains_cons_ne h, if_neg h]
      by_cases hc : l.contains c = true
      · rw [if_pos hc, if_pos hc, if_neg (by simp)]
        simp
      · rw [if_neg hc, if_neg hc]
        rfl
theorem indexByte_eq (l : List UInt8) (c : UInt8) : Lib.indexByte l c = if l.contains c = true then ((bef l c).length : Int) else -1 := by
  induction l with
  | nil => rfl
  | cons a l ih =>
    rw [bef_cons]
    by_cases h : a = c
    · subst h
      simp [Lib.indexByte]
    · have h4 : Lib.indexByte (a :: l) c = if Lib.indexByte l c == -1 then -1 else Lib.indexByte l c + 1 := by
        conv => lhs; unfold Lib.indexByte
        rw [if_neg (by simpa using h)]
      rw [h4, ih, contains_cons_ne h, if_neg h]
      by_cases hc : l.contains c = true
      · rw [if_pos hc, if_pos hc, if_neg (by simp)]
        simp
      · rw [if_neg hc, if_neg hc]
        rfl
theorem cut_eq (l : List UInt8) (c : UInt8) : Lib.cut l [c] = (bef l c, aft l c, l.contains c) := by
  have hi := index_one l c
  unfold Lib.cut
  cases hc : l.contains c with
  | true =>
    rw [hc, if_pos rfl] at hi
    rw [hi, if_pos (by omega)]
    have e : ((bef l c).length : Int).toNat = (bef l c).length := by omega
    rw [e, take_bef]
    rfl
  | false =>
    have hi2 : Lib.index l [c] = -1 := by rw [hi, hc]; rfl
    rw [hi2, if_neg (by omega), bef_none hc, aft_none hc]

/-- Two dots, one behind the other. -/
def dd : List UInt8 → Bool
  | [] => false
  | [_] => false
  | a :: b :: r => (a == 46 && b == 46) || dd (b :: r)
theorem contains_dd (l : List UInt8) : Lib.contains l [46, 46] = dd l := by
  unfold Lib.contains
  induction l with
  | nil => rfl
  | cons a l ih =>
    have h4 : Lib.index (a :: l) [46, 46] = if ([46, 46] : List UInt8).isPrefixOf (a :: l) = true then 0 else if Lib.index l [46, 46] == -1 then -1 else Lib.index l [46, 46] + 1 := by
      conv => lhs; unfold Lib.index
    rw [h4]
    have hge := Lib.index_ge l [46, 46]
    cases l with
    | nil =>
      have : (([46, 46] : List UInt8).isPrefixOf [a]) = false := by simp [List.isPrefixOf]
      rw [this]
      rfl
    | cons b r =>
      have hp : (([46, 46] : List UInt8).isPrefixOf (a :: b :: r)) = (a == 46 && b == 46) := by
        have e1 : ((46 : UInt8) == a) = (a == 46) := by rw [Bool.eq_iff_iff, beq_iff_eq, beq_iff_eq]; exact eq_comm
        have e2 : ((46 : UInt8) == b) = (b == 46) := by rw [Bool.eq_iff_iff, beq_iff_eq, beq_iff_eq]; exact eq_comm
        simp [List.isPrefixOf, e1, e2]
      rw [hp]
      unfold dd
      rw [← ih]
      cases (a == 46 && b == 46) with
      | true => rfl
      | false =>
        rw [if_neg (by decide), Bool.false_or]
        by_cases hm : Lib.index (b :: r) [46, 46] = -1
        · rw [hm]; rfl
        · rw [if_neg (by simpa using hm)]
          rw [Bool.eq_iff_iff, decide_eq_true_iff, decide_eq_true_iff]
          omega
theorem dd_iff (l : List UInt8) : dd l = true ↔ ∃ i, i + 1 < l.length ∧ l.getD i 0 = 46 ∧ l.getD (i + 1) 0 = 46 := by
  induction l with
  | nil => simp [dd]
  | cons a l ih =>
    cases l with
    | nil => simp [dd]
    | cons b r =>
      unfold dd
      rw [Bool.or_eq_true, ih, Bool.and_eq_true, beq_iff_eq, beq_iff_eq]
      constructor
      · rintro (⟨h1, h2⟩ | ⟨i, h1, h2, h3⟩)
        · exact ⟨0, by simp, by simpa using h1, by simpa using h2⟩
        · exact ⟨i + 1, by simpa using h1, by simpa using h2, by simpa using h3⟩
      · rintro ⟨i, h1, h2, h3⟩
        cases i with
        | zero => exact .inl ⟨by simpa using h2, by simpa using h3⟩
        | succ i => exact .inr ⟨i, by simpa using h1, by simpa using h2, by simpa using h3⟩
theorem all_getD {l : List UInt8} {p : UInt8 → Bool} : l.all p = true ↔ ∀ i, i < l.length → p (l.getD i 0) = true := by
  rw [List.all_eq_true]
  constructor
  · intro h i hi
    rw [List.getD_eq_getElem?_getD, List.getElem?_eq_getElem hi]
    exact h _ (List.getElem_mem hi)
  · intro h c hc
    obtain ⟨i, hi, rfl⟩ := List.mem_iff_getElem.1 hc
    have := h i hi
    rwa [List.getD_eq_getElem?_getD, List.getElem?_eq_getElem hi] at this
theorem name_cons (l : List UInt8) (h : 1 ≤ l.length) : name l = (l.all nameByte && (l.getD 0 0 != 46) && (l.getD (l.length - 1) 0 != 46) && !dd l) := by
  unfold name
  rw [decide_eq_true h, Bool.and_true, Bool.eq_iff_iff, List.all_eq_true]
  simp only [Bool.and_eq_true, bne_iff_ne, ne_eq, Bool.not_eq_true']
  constructor
  · intro hn
    have hn' : ∀ i, i < l.length → nameAt l i = true := fun i hi => hn i (List.mem_range.2 hi)
    refine ⟨⟨⟨all_getD.2 (fun i hi => ?_), ?_⟩, ?_⟩, ?_⟩
    · have := hn' i hi
      unfold nameAt at this
      rw [Bool.and_eq_true] at this
      exact this.1
    · intro e
      have := hn' 0 (by omega)
      unfold nameAt at this
      rw [e] at this
      simp at this
    · intro e
      have := hn' (l.length - 1) (by omega)
      unfold nameAt at this
      rw [e, show l.length - 1 + 1 = l.length by omega] at this
      simp at this
    · cases hd : dd l with
      | false => rfl
      | true =>
        obtain ⟨i, h1, h2, h3⟩ := (dd_iff l).1 hd
        have := hn' (i + 1) h1
        unfold nameAt at this
        rw [h3, show i + 1 - 1 = i by omega, h2] at this
        simp at this
  · rintro ⟨⟨⟨h1, h2⟩, h3⟩, h4⟩ i hi
    have hi' := List.mem_range.1 hi
    unfold nameAt
    rw [Bool.and_eq_true]
    refine ⟨all_getD.1 h1 i hi', ?_⟩
    by_cases e : l.getD i 0 = 46
    · have i0 : i ≠ 0 := by rintro rfl; exact h2 e
      have i1 : i + 1 ≠ l.length := fun e2 => by
        have : l.length - 1 = i := by omega
        rw [this] at h3
        exact h3 e
      have i2 : l.getD (i - 1) 0 ≠ 46 := fun e2 => by
        have : dd l = true := (dd_iff l).2 ⟨i - 1, by omega, e2, by rw [show i - 1 + 1 = i by omega]; exact e⟩
        rw [this] at h4
        cases h4
      rw [Bool.or_eq_true]
      exact .inr (by rw [Bool.and_eq_true, Bool.and_eq_true]; exact ⟨⟨by simpa using i0, by simpa using i1⟩, by simpa using i2⟩)
    · rw [Bool.or_eq_true]
      exact .inl (by simpa using e)
def hostByte (c : UInt8) : Bool := isLet c || c == 45
theorem label_cons (l : List UInt8) (h : 1 ≤ l.length) (h20 : l.length ≤ 20) (h0 : l.getD 0 0 ≠ 45) (h1 : l.getD (l.length - 1) 0 ≠ 45) : label l = l.all hostByte := by
  unfold label
  rw [decide_eq_true h, decide_eq_true h20, Bool.and_true, Bool.and_true, Bool.eq_iff_iff, List.all_eq_true, all_getD]
  constructor
  · intro hn i hi
    have := hn i (List.mem_range.2 hi)
    unfold labelAt at this
    unfold hostByte
    rw [Bool.or_eq_true] at this ⊢
    rcases this with h | h
    · exact .inl h
    · simp only [Bool.and_eq_true] at h
      exact .inr h.1.1
  · intro hn i hi
    have hi' := List.mem_range.1 hi
    have := hn i hi'
    unfold hostByte at this
    unfold labelAt
    rw [Bool.or_eq_true] at this ⊢
    rcases this with h | h
    · exact .inl h
    · have e : l.getD i 0 = 45 := by simpa using h
      have i0 : i ≠ 0 := by rintro rfl; exact h0 e
      have i1 : i + 1 ≠ l.length := fun e2 => by
        have : l.length - 1 = i := by omega
        rw [this] at h1
        exact h1 e
      exact .inr (by rw [Bool.and_eq_true, Bool.and_eq_true]; exact ⟨⟨h, by simpa using i0⟩, by simpa using i1⟩)
theorem label_no_first (l : List UInt8) (h : 1 ≤ l.length) (h0 : l.getD 0 0 = 45) : label l = false := by
  refine label_false (i := 0) (by omega) ?_
  unfold labelAt
  rw [h0]
  rfl
theorem label_no_last (l : List UInt8) (h : 1 ≤ l.length) (h0 : l.getD (l.length - 1) 0 = 45) : label l = false := by
  refine label_false (i := l.length - 1) (by omega) ?_
  unfold labelAt
  rw [h0, show l.length - 1 + 1 = l.length by omega]
  simp
  rfl
theorem label_nil : label [] = false := rfl
theorem label_long (l : List UInt8) (h : 20 < l.length) : label l = false := by
  unfold label
  rw [decide_eq_false (p := l.length ≤ 20) (by omega), Bool.and_false]
theorem label_no_byte (l : List UInt8) {i : Nat} (hi : i < l.length) (h : hostByte (l.getD i 0) = false) : label l = false := by
  refine label_false hi ?_
  unfold hostByte at h
  rw [Bool.or_eq_false_iff] at h
  unfold labelAt
  rw [h.1, h.2]
  rfl
theorem host_nil : host [] = false := rfl
theorem mailOk_eq (l : List UInt8) : mailOk l = (decide (l.length ≤ 40) && name (bef l 64) && host (aft l 64)) := by
  have e1 : nm l = bef l 64 := rfl
  have e2 : hs l = aft l 64 := rfl
  unfold mailOk
  rw [e1, e2]
  cases hc : l.contains 64 with
  | true =>
    cases decide (l.length ≤ 40) <;> cases name (bef l 64) <;> cases host (aft l 64) <;> rfl
  | false =>
    rw [aft_none hc, host_nil]
    simp
theorem mask_mail {l : List UInt8} (h : mailOk l = true) : mask l = (bef l 64).take 1 ++ [42, 42, 42] ++ ([64] ++ aft l 64) := by
  obtain ⟨h1, _, _, _, h5⟩ := mailOk_parts h
  unfold mask
  rw [if_pos h]
  have e1 : nm l = bef l 64 := rfl
  have e2 : hs l = aft l 64 := rfl
  rw [e1, e2] at h1
  have e3 : l.drop (bef l 64).length = 64 :: aft l 64 := by
    have h := List.drop_left (l₁ := bef l 64) (l₂ := 64 :: aft l 64)
    rwa [← h1] at h
  have e4 : l.take 1 = (bef l 64).take 1 := by
    conv => lhs; rw [h1]
    rw [List.take_append_of_le_length (by rw [← e1]; exact h5)]
  rw [e1, e3, e4]
  rfl
theorem phone_cons (l : List UInt8) : phoneOk l = (Lib.hasPrefix l [43] && decide (8 ≤ (Lib.trimPrefix l [43]).length) && decide ((Lib.trimPrefix l [43]).length ≤ 15) && (Lib.trimPrefix l [43]).getD 0 0 != 48 && (Lib.trimPrefix l [43]).all digit) := by
  cases l with
  | nil => rfl
  | cons a l =>
    have hp : Lib.hasPrefix (a :: l) [43] = (a == 43) := by
      have e1 : ((43 : UInt8) == a) = (a == 43) := by rw [Bool.eq_iff_iff, beq_iff_eq, beq_iff_eq]; exact eq_comm
      simp [Lib.hasPrefix, List.isPrefixOf, e1]
    unfold phoneOk
    rw [hp]
    cases ha : (a == 43) with
    | false =>
      have : ((a :: l).getD 0 0 == 43) = false := by simpa using ha
      rw [this]
      simp
    | true =>
      have h1 : Lib.trimPrefix (a :: l) [43] = l := by
        unfold Lib.trimPrefix
        rw [hp, if_pos ha]
        rfl
      have h2 : ((a :: l).getD 0 0 == 43) = true := by simpa using ha
      have h3 : (a :: l).getD 1 0 = l.getD 0 0 := by simp
      rw [h1, h2, h3]
      have h4 : decide (9 ≤ (a :: l).length) = decide (8 ≤ l.length) := by
        rw [Bool.eq_iff_iff, decide_eq_true_iff, decide_eq_true_iff]; simp
      have h5 : decide ((a :: l).length ≤ 16) = decide (l.length ≤ 15) := by
        rw [Bool.eq_iff_iff, decide_eq_true_iff, decide_eq_true_iff]; simp
      rw [h4, h5]
      simp
theorem untag_no {l : List UInt8} (h : (aft l 43).contains 64 = false) : untag l = l := by
  cases hp : l.contains 43 with
  | false => exact untag_self l (fun c hc e => by subst e; have : l.contains 43 = true := by simpa using hc
                                                  rw [this] at hp; cases hp)
  | true =>
    have hl := bef_aft hp
    have hb : ∀ x ∈ bef l 43, x ≠ 43 := fun x hx => by have := take_while_all _ _ x hx; simpa using this
    rw [hl]
    exact untag_no_at _ _ hb (fun x hx e => by subst e; have : (aft l 43).contains 64 = true := by simpa using hx
                                               rw [this] at h; cases h)
theorem untag_yes {l : List UInt8} (h : (aft l 43).contains 64 = true) : untag l = bef l 43 ++ (aft l 43).drop (bef (aft l 43) 64).length := by
  cases hp : l.contains 43 with
  | false => rw [aft_none hp] at h; cases h
  | true =>
    have hl := bef_aft hp
    have hb : ∀ x ∈ bef l 43, x ≠ 43 := fun x hx => by have := take_while_all _ _ x hx; simpa using this
    have h2 := bef_aft h
    have hb2 : ∀ x ∈ bef (aft l 43) 64, x ≠ 64 := fun x hx => by have := take_while_all _ _ x hx; simpa using this
    have e : (aft l 43).drop (bef (aft l 43) 64).length = 64 :: aft (aft l 43) 64 := by
      conv => lhs; arg 2; rw [h2]
      rw [List.drop_left]
    rw [e]
    conv => lhs; rw [hl, h2]
    exact untag_of _ _ _ hb hb2

theorem trimR_cons (c : UInt8) (l : List UInt8) : trimR (c :: l) = if trimR l = [] ∧ ws c = true then [] else c :: trimR l := by
  unfold trimR
  rw [List.reverse_cons]
  by_cases h : l.reverse.dropWhile ws = []
  · have hall : ∀ x ∈ l.reverse, ws x = true := by
      intro x hx
      have := List.takeWhile_append_dropWhile (p := ws) (l := l.reverse)
      rw [h, List.append_nil] at this
      rw [← this] at hx
      exact take_while_all _ _ x hx
    have e := trimL_ws l.reverse [c] hall
    unfold trimL at e
    rw [e, h]
    simp only [List.dropWhile_cons, List.reverse_nil, true_and]
    split
    · simp
    · simp
  · have e : (l.reverse ++ [c]).dropWhile ws = l.reverse.dropWhile ws ++ [c] := by
      have hs := List.takeWhile_append_dropWhile (p := ws) (l := l.reverse)
      have h1 := trimL_ws (l.reverse.takeWhile ws) (l.reverse.dropWhile ws ++ [c]) (take_while_all _ _)
      unfold trimL at h1
      rw [← List.append_assoc, hs] at h1
      rw [h1]
      cases hd : l.reverse.dropWhile ws with
      | nil => exact absurd hd h
      | cons d r =>
        have hw : ws d = false := by
          have := List.head_dropWhile_not ws h
          simp only [hd, List.head_cons] at this
          exact this
        rw [List.cons_append, List.dropWhile_cons, if_neg (by rw [hw]; decide)]
    rw [e, if_neg (by simpa using fun h2 => absurd h2 h)]
    simp
theorem trim_swap (l : List UInt8) : trimL (trimR l) = trimR (trimL l) := by
  induction l with
  | nil => rfl
  | cons c l ih =>
    rw [trimR_cons, trimL_cons]
    by_cases h : ws c = true
    · rw [if_pos h]
      split
      · rename_i h2
        rw [← ih, h2.1]
      · rw [trimL_cons, if_pos h, ih]
    · rw [if_neg h, if_neg (fun h2 => h h2.2), trimL_cons, if_neg h, trimR_cons, if_neg (fun h2 => h h2.2)]
theorem trimS_eq (l : List UInt8) : Lib.trimS l [32, 9] = trim l := by
  have e : (fun c : UInt8 => ([32, 9] : List UInt8).contains c) = ws := by
    funext c
    unfold ws
    simp only [List.contains_cons, List.contains_nil, Bool.or_false]
  unfold Lib.trimS Lib.trimLeftS Lib.trimRightS trim
  rw [e]
  exact trim_swap l
theorem splitK_dots : ∀ (n : Nat) (l : List UInt8), l.length ≤ n → Lib.splitK [46] 0 (Lib.count l [46]) l = splits [] l := by
  intro n
  induction n with
  | zero =>
    intro l hl
    obtain rfl : l = [] := List.eq_nil_of_length_eq_zero (by omega)
    rfl
  | succ n ih =>
    intro l hl
    cases hc : l.contains 46 with
    | false =>
      have hi : Lib.index l [46] = -1 := by rw [index_one, hc]; rfl
      rw [Lib.count_miss hi]
      have hb := splits_go [] l [] (fun c hcm e => by subst e; have : l.contains 46 = true := by simpa using hcm
                                                      rw [this] at hc; cases hc)
      rw [List.append_nil, List.nil_append] at hb
      rw [hb]
      rfl
    | true =>
      have hi : Lib.index l [46] = ((bef l 46).length : Nat) := by rw [index_one, hc]; rfl
      have hlt := bef_length_lt hc
      rw [Lib.count_hit (by simp) hi, Nat.add_comm]
      have hl2 := bef_aft hc
      have hb : ∀ x ∈ bef l 46, x ≠ 46 := fun x hx => by have := take_while_all _ _ x hx; simpa using this
      have e0 : splits [] l = bef l 46 :: splits [] (aft l 46) := by
        conv => lhs; rw [hl2]
        rw [splits_go _ _ _ hb, splits_dot, List.nil_append]
      have ha : aft l 46 = l.drop ((bef l 46).length + 1) := rfl
      unfold Lib.splitK
      rw [hi, if_neg (by simp)]
      have e1 : (((bef l 46).length : Nat) : Int).toNat = (bef l 46).length := by omega
      rw [e1, Nat.add_zero, take_bef, e0]
      congr 1
      show Lib.splitK [46] 0 (Lib.count (l.drop ((bef l 46).length + 1)) [46]) (l.drop ((bef l 46).length + 1)) = _
      rw [← ha]
      refine ih _ ?_
      rw [ha, List.length_drop]
      omega
theorem splitB_dots (s : ByteArray) : Lib.splitB ⟨#[46]⟩ 0 (Lib.countB s ⟨#[46]⟩) s = (splits [] s.data.toList).map ba := by
  have h := Lib.splitB_data ⟨#[46]⟩ 0 (Lib.countB s ⟨#[46]⟩) s
  have e : Lib.countB s ⟨#[46]⟩ = Lib.count s.data.toList [46] := rfl
  rw [e] at h
  rw [← splitK_dots _ _ (Nat.le_refl _), e]
  rw [show (⟨#[46]⟩ : ByteArray).data.toList = [46] from rfl] at h
  rw [← h, List.map_map]
  conv => lhs; rw [← List.map_id (Lib.splitB _ _ _ _)]
  exact List.map_congr_left fun x _ => (ba_back x).symm
/-- The bytes that a closure lets pass, as sets. -/
theorem set_facts (c : UInt8) : (([97, 98, 99, 100, 101, 102, 103, 104, 105, 106, 107, 108, 109, 110, 111, 112, 113, 114, 115, 116, 117, 118, 119, 120, 121, 122] ++ [48, 49, 50, 51, 52, 53, 54, 55, 56, 57] ++ [95, 45, 46] : List UInt8).contains c = nameByte c) ∧
    (([97, 98, 99, 100, 101, 102, 103, 104, 105, 106, 107, 108, 109, 110, 111, 112, 113, 114, 115, 116, 117, 118, 119, 120, 121, 122] ++ [48, 49, 50, 51, 52, 53, 54, 55, 56, 57] ++ [45] : List UInt8).contains c = hostByte c) ∧
    (([48, 49, 50, 51, 52, 53, 54, 55, 56, 57] : List UInt8).contains c = digit c) ∧ (([32, 9, 45, 46, 40, 41] : List UInt8).contains c = !keepP c) := by
  have : ∀ n, n < 256 → (([97, 98, 99, 100, 101, 102, 103, 104, 105, 106, 107, 108, 109, 110, 111, 112, 113, 114, 115, 116, 117, 118, 119, 120, 121, 122] ++ [48, 49, 50, 51, 52, 53, 54, 55, 56, 57] ++ [95, 45, 46] : List UInt8).contains (UInt8.ofNat n) = nameByte (UInt8.ofNat n)) ∧
    (([97, 98, 99, 100, 101, 102, 103, 104, 105, 106, 107, 108, 109, 110, 111, 112, 113, 114, 115, 116, 117, 118, 119, 120, 121, 122] ++ [48, 49, 50, 51, 52, 53, 54, 55, 56, 57] ++ [45] : List UInt8).contains (UInt8.ofNat n) = hostByte (UInt8.ofNat n)) ∧
    (([48, 49, 50, 51, 52, 53, 54, 55, 56, 57] : List UInt8).contains (UInt8.ofNat n) = digit (UInt8.ofNat n)) ∧ (([32, 9, 45, 46, 40, 41] : List UInt8).contains (UInt8.ofNat n) = !keepP (UInt8.ofNat n)) := by decide +kernel
  have h2 := this c.toNat c.toNat_lt
  rw [UInt8.ofNat_toNat] at h2
  exact h2
end Go.Proofs.YtfjdcopndkdbmaaGreatDoor.Ad
