/-
  The mathematics of layer 4: records of texts with their sums; how they are read, one and all; that what is written is read, that a torn record is none, that a record whose first byte is 0 is none. No condition.
-/
import Derived.Test.YtggecdgomgmhmaaDoorCrc
namespace Go.Proofs.YtggecdgomgmhmaaDoor.Fr

/-- A record's bytes. -/
def rec_ (t : List UInt8) : List UInt8 := 0xa5 :: UInt8.ofNat t.length :: UInt8.ofNat (t.length / 256) :: (Crc.le4 (Crc.sum t) ++ (t ++ [0x5a]))
def ok (n : Nat) : Prop := 1 ≤ n ∧ n ≤ 32768
instance (n : Nat) : Decidable (ok n) := by unfold ok; infer_instance
def wrap (t : List UInt8) : List UInt8 := if ok t.length then rec_ t else []
def all (l : List (List UInt8)) : List UInt8 := l.flatMap wrap
theorem wrap_ok {t : List UInt8} (h : ok t.length) : wrap t = rec_ t := by unfold wrap; rw [if_pos h]
theorem wrap_no {t : List UInt8} (h : ¬ ok t.length) : wrap t = [] := by unfold wrap; rw [if_neg h]
theorem rec_length (t : List UInt8) : (rec_ t).length = t.length + 8 := by
  simp [rec_, Crc.le4_length]
  omega
theorem all_nil : all [] = [] := rfl
theorem all_cons (t : List UInt8) (l : List (List UInt8)) : all (t :: l) = wrap t ++ all l := by simp [all]
theorem all_append (l m : List (List UInt8)) : all (l ++ m) = all l ++ all m := by simp [all]
theorem all_snoc (l : List (List UInt8)) (t : List UInt8) : all (l ++ [t]) = all l ++ wrap t := by simp [all]

/-- The length that a record's bytes tell. -/
def len (s : List UInt8) : Nat := (s.getD 1 0).toNat + 256 * (s.getD 2 0).toNat
/-- The text that stands where a record's text would. -/
def body (s : List UInt8) : List UInt8 := (s.drop 7).take (len s)
/-- Reading a record: by the record that it must be. -/
def next (s : List UInt8) : Option (List UInt8) :=
  if 3 ≤ s.length ∧ ok (len s) ∧ len s + 8 ≤ s.length ∧ wrap (body s) = s.take (len s + 8) then some (body s) else none

theorem len_rec (t r : List UInt8) (h : ok t.length) : len (rec_ t ++ r) = t.length := by
  unfold ok at h
  have h1 : (UInt8.ofNat t.length).toNat = t.length % 256 := by simp [UInt8.toNat_ofNat']
  have h2 : (UInt8.ofNat (t.length / 256)).toNat = t.length / 256 := by simp [UInt8.toNat_ofNat']; omega
  show (UInt8.ofNat t.length).toNat + 256 * (UInt8.ofNat (t.length / 256)).toNat = _
  rw [h1, h2]
  omega
theorem body_rec (t r : List UInt8) (h : ok t.length) : body (rec_ t ++ r) = t := by
  unfold body
  rw [len_rec t r h]
  have e : (rec_ t ++ r).drop 7 = t ++ ([0x5a] ++ r) := by simp [rec_, Crc.le4]
  rw [e]
  simp
theorem body_length {s : List UInt8} (h : len s + 8 ≤ s.length) : (body s).length = len s := by
  unfold body
  simp
  omega
/-- What was written is read. -/
theorem next_rec (t r : List UInt8) (h : ok t.length) : next (rec_ t ++ r) = some t := by
  unfold next
  have h1 : (rec_ t ++ r).length = t.length + 8 + r.length := by rw [List.length_append, rec_length]
  have h2 : wrap t = (rec_ t ++ r).take (t.length + 8) := by rw [wrap_ok h, ← rec_length t, List.take_left]
  rw [len_rec t r h, body_rec t r h, if_pos ⟨by omega, h, by omega, h2⟩]
/-- Whatever is read has just its record's bytes. -/
theorem next_some {s t : List UInt8} (h : next s = some t) : ok t.length ∧ ∃ r, s = rec_ t ++ r := by
  unfold next at h
  by_cases hc : 3 ≤ s.length ∧ ok (len s) ∧ len s + 8 ≤ s.length ∧ wrap (body s) = s.take (len s + 8)
  · rw [if_pos hc] at h
    injection h with h
    subst h
    obtain ⟨_, h2, h3, h4⟩ := hc
    have hb := body_length h3
    have hk : ok (body s).length := by rw [hb]; exact h2
    refine ⟨hk, s.drop (len s + 8), ?_⟩
    rw [wrap_ok hk] at h4
    rw [h4, List.take_append_drop]
  · rw [if_neg hc] at h; cases h
theorem next_none_iff (s : List UInt8) : next s = none ↔ ∀ t, ok t.length → ∀ r, s ≠ rec_ t ++ r := by
  constructor
  · rintro h t ht r rfl
    rw [next_rec t r ht] at h
    cases h
  · intro h
    cases hn : next s with
    | none => rfl
    | some t =>
      obtain ⟨ht, r, hr⟩ := next_some hn
      exact absurd hr (h t ht r)
/-- How a program may tell a record: byte by byte. -/
theorem next_bytes (s : List UInt8) : next s = if ok (len s) ∧ len s + 8 ≤ s.length ∧ s.getD 0 0 = 0xa5 ∧ (s.drop 3).take 4 = Crc.le4 (Crc.sum (body s)) ∧ s.getD (len s + 7) 0 = 0x5a then some (body s) else none := by
  have key : ok (len s) → len s + 8 ≤ s.length → (wrap (body s) = s.take (len s + 8) ↔ s.getD 0 0 = 0xa5 ∧ (s.drop 3).take 4 = Crc.le4 (Crc.sum (body s)) ∧ s.getD (len s + 7) 0 = 0x5a) := by
    intro hk hl
    have hb := body_length hl
    have hkb : ok (body s).length := by rw [hb]; exact hk
    have hlen : len s = (s.getD 1 0).toNat + 256 * (s.getD 2 0).toNat := rfl
    have e1 : UInt8.ofNat (body s).length = s.getD 1 0 := by
      rw [hb, hlen]
      generalize s.getD 1 0 = x
      generalize s.getD 2 0 = y
      apply UInt8.toNat_inj.1
      have := x.toNat_lt
      rw [UInt8.toNat_ofNat']
      omega
    have e2 : UInt8.ofNat ((body s).length / 256) = s.getD 2 0 := by
      rw [hb, hlen]
      generalize s.getD 1 0 = x
      generalize s.getD 2 0 = y
      apply UInt8.toNat_inj.1
      have := x.toNat_lt
      have := y.toNat_lt
      rw [UInt8.toNat_ofNat']
      omega
    have hsplit : s.take (len s + 8) = s.getD 0 0 :: s.getD 1 0 :: s.getD 2 0 :: ((s.drop 3).take 4 ++ (body s ++ [s.getD (len s + 7) 0])) := by
      unfold body
      generalize len s = n at hl
      match s, hl with
      | x0 :: x1 :: x2 :: y, hl =>
        have hy : n + 5 ≤ y.length := by simp at hl; omega
        show x0 :: x1 :: x2 :: y.take (n + 5) = x0 :: x1 :: x2 :: (y.take 4 ++ ((y.drop 4).take n ++ [(x0 :: x1 :: x2 :: y).getD (n + 7) 0]))
        have h1 : y.take (n + 5) = y.take 4 ++ ((y.drop 4).take n ++ [(y.drop 4).getD n 0]) := by
          have h3 : ∀ (z : List UInt8), n < z.length → z.take (n + 1) = z.take n ++ [z.getD n 0] := by
            intro z hz
            rw [List.getD_eq_getElem?_getD, List.getElem?_eq_getElem hz]
            simp
          rw [show n + 5 = 4 + (n + 1) by omega, List.take_add, h3 _ (by rw [List.length_drop]; omega)]
        have h2 : (x0 :: x1 :: x2 :: y).getD (n + 7) 0 = (y.drop 4).getD n 0 := by
          rw [show n + 7 = (n + 4) + 1 + 1 + 1 by omega, List.getD_cons_succ, List.getD_cons_succ, List.getD_cons_succ, List.getD_eq_getElem?_getD, List.getD_eq_getElem?_getD, List.getElem?_drop, Nat.add_comm]
        rw [h1, h2]
    rw [wrap_ok hkb, hsplit]
    unfold rec_
    rw [e1, e2]
    constructor
    · intro h
      injection h with h0 h
      injection h with _ h
      injection h with _ h
      have h4 : (Crc.le4 (Crc.sum (body s))).length = ((s.drop 3).take 4).length := by rw [Crc.le4_length]; simp; omega
      obtain ⟨h5, h6⟩ := List.append_inj h h4
      have h7 := List.append_inj_right h6 rfl
      injection h7 with h7
      exact ⟨h0.symm, h5.symm, h7.symm⟩
    · rintro ⟨h0, h1, h2⟩
      rw [h0, h1, h2]
  unfold next
  by_cases hk : ok (len s)
  · by_cases hl : len s + 8 ≤ s.length
    · have := key hk hl
      by_cases hw : wrap (body s) = s.take (len s + 8)
      · rw [if_pos ⟨by omega, hk, hl, hw⟩, if_pos ⟨hk, hl, this.1 hw⟩]
      · rw [if_neg (fun h => hw h.2.2.2), if_neg (fun h => hw (this.2 h.2.2))]
    · rw [if_neg (fun h => hl h.2.2.1), if_neg (fun h => hl h.2.1)]
  · rw [if_neg (fun h => hk h.2.1), if_neg (fun h => hk h.1)]

/-- Bytes that begin with another byte are no record. -/
theorem next_head (b : UInt8) (r : List UInt8) (h : b ≠ 0xa5) : next (b :: r) = none := by
  rw [next_none_iff]
  intro t _ q e
  injection e with e _
  exact h e
theorem next_nil : next [] = none := by
  rw [next_none_iff]
  intro t _ q e
  cases e
/-- A TORN RECORD IS NONE. -/
theorem next_torn (t : List UInt8) (k m : Nat) (ht : ok t.length) (hk : k < (rec_ t).length) : next ((rec_ t).take k ++ List.replicate m 0) = none := by
  rw [next_none_iff]
  intro u hu q e
  rw [rec_length] at hk
  have hz : ∀ i, k ≤ i → ((rec_ t).take k ++ List.replicate m (0 : UInt8)).getD i 0 = 0 := by
    intro i hi
    rw [List.getD_eq_getElem?_getD, List.getElem?_append_right (by rw [List.length_take, rec_length]; omega), List.getElem?_replicate]
    split <;> rfl
  have hlt : ∀ i, i < k → ((rec_ t).take k ++ List.replicate m (0 : UInt8)).getD i 0 = (rec_ t).getD i 0 := by
    intro i hi
    rw [List.getD_eq_getElem?_getD, List.getD_eq_getElem?_getD, List.getElem?_append_left (by rw [List.length_take, rec_length]; omega), List.getElem?_take, if_pos hi]
  have hu1 : len (rec_ u ++ q) = u.length := len_rec u q hu
  rw [← e] at hu1
  have hlast : (rec_ u ++ q).getD (u.length + 7) 0 = 0x5a := by
    rw [List.getD_eq_getElem?_getD, List.getElem?_append_left (by rw [rec_length]; omega)]
    unfold rec_
    simp [Crc.le4]
  rw [← e] at hlast
  have h5a : (0x5a : UInt8) ≠ 0 := by decide
  rcases Nat.lt_or_ge (u.length + 7) k with hlo | hhi
  · -- the length's bytes are there
    have hlen : len ((rec_ t).take k ++ List.replicate m 0) = t.length := by
      have e1 := len_rec t [] ht
      rw [List.append_nil] at e1
      rw [← e1]
      unfold len
      rw [hlt 1 (by omega), hlt 2 (by omega)]
    omega
  · rw [hz _ hhi] at hlast
    exact h5a hlast.symm
theorem next_zeros (m : Nat) : next (List.replicate m 0) = none := by
  cases m with
  | zero => exact next_nil
  | succ m => rw [List.replicate_succ]; exact next_head 0 _ (by decide)

/-! ### All records at the beginning -/
theorem next_less {s t : List UInt8} (h : next s = some t) : (s.drop (t.length + 8)).length < s.length := by
  obtain ⟨_, r, rfl⟩ := next_some h
  rw [List.length_drop, List.length_append, rec_length]
  omega
def scan (s : List UInt8) : List (List UInt8) × Nat :=
  match h : next s with
  | none => ([], 0)
  | some t => (t :: (scan (s.drop (t.length + 8))).1, (t.length + 8) + (scan (s.drop (t.length + 8))).2)
termination_by s.length
decreasing_by all_goals exact next_less h
theorem scan_none {s : List UInt8} (h : next s = none) : scan s = ([], 0) := by
  rw [scan]
  split
  · rfl
  · rename_i h'
    rw [h] at h'; cases h'
theorem scan_some {s t : List UInt8} (h : next s = some t) : scan s = (t :: (scan (s.drop (t.length + 8))).1, (t.length + 8) + (scan (s.drop (t.length + 8))).2) := by
  rw [scan]
  split
  · rename_i h'
    rw [h] at h'; cases h'
  · rename_i t' h'
    rw [h] at h'
    injection h' with h'
    subst h'
    rfl
theorem scan_rec (t r : List UInt8) (h : ok t.length) : scan (rec_ t ++ r) = (t :: (scan r).1, (t.length + 8) + (scan r).2) := by
  have e : (rec_ t ++ r).drop (t.length + 8) = r := by rw [← rec_length t]; simp
  rw [scan_some (next_rec t r h), e]
theorem scan_all (r : List UInt8) : ∀ l : List (List UInt8), (∀ t ∈ l, ok t.length) → scan (all l ++ r) = (l ++ (scan r).1, (all l).length + (scan r).2)
  | [], _ => by simp [all]
  | t :: l, h => by
    have h1 := h t (by simp)
    have h2 := scan_all r l (fun u hu => h u (by simp [hu]))
    rw [all_cons, wrap_ok h1, List.append_assoc, scan_rec t _ h1, h2]
    simp only [List.cons_append, List.length_append, rec_length, Prod.mk.injEq, true_and]
    omega
theorem scan_back (l : List (List UInt8)) (r : List UInt8) (h : ∀ t ∈ l, ok t.length) (hr : next r = none) : scan (all l ++ r) = (l, (all l).length) := by
  rw [scan_all r l h, scan_none hr]
  simp
/-- Where a reading ends lies within. -/
theorem scan_le : ∀ (n : Nat) (s : List UInt8), s.length ≤ n → (scan s).2 ≤ s.length := by
  intro n
  induction n with
  | zero =>
    intro s hs
    have : s = [] := List.eq_nil_of_length_eq_zero (by omega)
    subst this
    rw [scan_none next_nil]
    exact Nat.le_refl _
  | succ n ih =>
    intro s hs
    cases hn : next s with
    | none => rw [scan_none hn]; exact Nat.zero_le _
    | some t =>
      have hl := next_less hn
      obtain ⟨_, r, hr⟩ := next_some hn
      have h1 := ih (s.drop (t.length + 8)) (by omega)
      rw [scan_some hn]
      have h2 : t.length + 8 ≤ s.length := by rw [hr, List.length_append, rec_length]; omega
      rw [List.length_drop] at h1
      show (t.length + 8) + (scan (s.drop (t.length + 8))).2 ≤ s.length
      omega

/-! ### Nothing but bytes 0 -/
def empty (s : List UInt8) (at_ : Int) : Bool := (s.drop at_.toNat).all (· == 0)
end Go.Proofs.YtggecdgomgmhmaaDoor.Fr
