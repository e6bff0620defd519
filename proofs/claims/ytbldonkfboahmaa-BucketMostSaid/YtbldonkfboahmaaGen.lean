/-
  General words for all layers: bytes and cuts of texts, rows of integers that came in, comparisons of bytes as the walk shows them. No condition.
-/
import Derived.Lib.IndexBytes
import Derived.Test.YtbldonkfboahmaaWrd
namespace Go.Proofs.Ytbldonkfboahmaa
open Go.RowKit

theorem data_getD (s : ByteArray) (i : Nat) (h : i < s.size) : s.data.toList.getD i 0 = s[i] := by
  rw [List.getD_eq_getElem?_getD, Lib.data_getElem? s i h]
  rfl

theorem nil_of_size {s : ByteArray} (h : s.size = 0) : s = ⟨#[]⟩ := by
  have e : s.data.toList = [] := List.eq_nil_of_length_eq_zero (by simpa using h)
  rw [← ba_back s, e]
  rfl

theorem not_empty {s : ByteArray} (h : ¬ s.size = 0) : ¬ (s.toList = []) ∧ s.toList.isEmpty = false := by
  have h1 : ¬ (s.toList = []) := by
    rw [ByteArray.toList_eq]
    intro e
    have := congrArg List.length e
    simp at this
    exact h (by rw [this]; rfl)
  refine ⟨h1, ?_⟩
  cases hl : s.toList with
  | nil => exact absurd hl h1
  | cons a l => rfl

theorem ne_int (x y : UInt8) (n : Int) (h : n = (y.toNat : Int)) : ((x.toNat : Int) != n) = (x != y) := by
  subst h
  rw [Bool.eq_iff_iff, bne_iff_ne, bne_iff_ne]
  constructor
  · intro h1 h2
    exact h1 (by rw [h2])
  · intro h1 h2
    exact h1 (UInt8.toNat_inj.1 (by omega))

theorem eq_int (x y : UInt8) (n : Int) (h : n = (y.toNat : Int)) : ((x.toNat : Int) == n) = (x == y) := by
  have := ne_int x y n h
  unfold bne at this
  simpa using this

theorem set_mid {α : Type} (A B : List α) (x y : α) (k : Nat) (h : A.length = k) : (A ++ x :: B).set k y = A ++ y :: B := by
  subst h
  induction A with
  | nil => rfl
  | cons a A ih => simp

theorem run_tail (C : List UInt8) (n : Nat) (hn : n ≤ C.length) (W : World) : (Instr.slice 9 (.string (ba C)) (some (.int .i64 (n : Int))) none none).run Try.prog W = .ok (.string (ba (C.drop n))) W := by
  rw [run_slice_string_from_if _ _ _ _ _ Try.underlying9, if_pos (by rw [ba_size]; omega)]
  have := ext_drop (ba C) n
  rw [ba_list] at this
  rw [← this]
  simp

theorem filter_take_succ (q : UInt8 → Bool) (L : List UInt8) (k : Nat) (h : k < L.length) : (L.take (k + 1)).filter q = (L.take k).filter q ++ (if q L[k] = true then [L[k]] else []) := by
  rw [List.take_succ_eq_append_getElem h, List.filter_append]
  congr 1
  cases hq : q L[k] with
  | true => simp [hq]
  | false => simp [hq]

theorem filter_len (q : UInt8 → Bool) (L : List UInt8) (k : Nat) : ((L.take k).filter q).length ≤ k := by
  have h1 := List.length_filter_le q (L.take k)
  rw [List.length_take] at h1
  omega

theorem all_take_more (p : UInt8 → Bool) (l : List UInt8) (k : Nat) (h : k < l.length) : (l.take (k + 1)).all p = ((l.take k).all p && p l[k]) := by
  rw [List.take_succ_eq_append_getElem h, List.all_append]
  simp

theorem all_false (p : UInt8 → Bool) (l : List UInt8) (k : Nat) (h : k < l.length) (hp : p l[k] = false) : l.all p = false := by
  rw [List.all_eq_false]
  exact ⟨l[k], List.getElem_mem h, by rw [hp]; decide⟩

theorem run_sub (L : List UInt8) (a b : Nat) (hab : a ≤ b) (hb : b ≤ L.length) (W : World) : (Instr.slice 9 (.string (ba L)) (some (.int .i64 (a : Int))) (some (.int .i64 (b : Int))) none).run Try.prog W = .ok (.string (ba ((L.drop a).take (b - a)))) W := by
  have h4 : b ≤ (ba L).size := by rw [ba_size]; exact hb
  have e : (ba L).extract a b = ba ((L.drop a).take (b - a)) := by
    have h := Lib.extract_eq (ba L) a b
    rw [ba_list] at h
    exact h
  rw [← e]
  simp [Instr.slice, Instr.sliceBounds, Instr.sliceBound, asIntOf, run_underlying Try.underlying9, h4, hab]

theorem run_to (C : List UInt8) (n : Nat) (hn : n ≤ C.length) (W : World) : (Instr.slice 9 (.string (ba C)) none (some (.int .i64 (n : Int))) none).run Try.prog W = .ok (.string (ba (C.take n))) W := by
  rw [run_slice_string_to_if _ _ _ _ _ Try.underlying9, if_pos (by rw [ba_size]; omega)]
  have := ext_take (ba C) n
  rw [ba_list] at this
  rw [← this]
  simp

theorem run_onw (C : List UInt8) (n : Nat) (hn : n ≤ C.length) (W : World) : (Instr.slice 9 (.string (ba C)) (some (.int .i64 (n : Int))) none none).run Try.prog W = .ok (.string (ba (C.drop n))) W := by
  rw [run_slice_string_from_if _ _ _ _ _ Try.underlying9, if_pos (by rw [ba_size]; omega)]
  have := ext_drop (ba C) n
  rw [ba_list] at this
  rw [← this]
  simp

theorem take_ne_succ {l : List UInt8} {c : UInt8} {k : Nat} (h : ∀ x ∈ l.take k, x ≠ c) (hk : k < l.length) (hx : l[k] ≠ c) : ∀ x ∈ l.take (k + 1), x ≠ c := by
  rw [List.take_succ_eq_append_getElem hk]
  intro x hm
  rcases List.mem_append.1 hm with hm | hm
  · exact h x hm
  · rw [List.mem_singleton.1 hm]; exact hx

theorem none_in {l : List UInt8} {c : UInt8} (h : ∀ x ∈ l, x ≠ c) : l.contains c = false := by
  cases hc : l.contains c with
  | false => rfl
  | true => exact absurd rfl (h c (by simpa using hc))

theorem run_first (C : List UInt8) (h : 1 ≤ C.length) (W : World) : (Instr.slice 9 (.string (ba C)) none (some (.int .i64 1)) none).run Try.prog W = .ok (.string (ba (C.take 1))) W := by
  rw [run_slice_string_to_if _ _ _ _ _ Try.underlying9, if_pos (by rw [ba_size]; omega)]
  have := ext_take (ba C) 1
  rw [ba_list] at this
  rw [← this]
  rfl

/-- Integers as cells. -/
def ci (l : List Int) : List Value := l.map fun z : Int => .int .i64 z

theorem ci_get (l : List Int) (i : Nat) (h : i < l.length) : (ci l)[i]? = some (.int .i64 l[i]) := by simp [ci, h]

theorem and15 (x : Int) : ∃ m : Nat, m < 16 ∧ bits .and .i64 x 15 = (m : Int) := by
  have hm : (BitVec.ofInt 64 15).toNat = 2 ^ 4 - 1 := by decide
  have key : (BitVec.ofInt 64 x &&& BitVec.ofInt 64 15).toNat = (x % ((2 ^ 64 : Nat) : Int)).toNat % 2 ^ 4 := by
    rw [BitVec.toNat_and, BitVec.toNat_ofInt, hm, Nat.and_two_pow_sub_one_eq_mod]
  refine ⟨(x % ((2 ^ 64 : Nat) : Int)).toNat % 2 ^ 4, Nat.mod_lt _ (by decide), ?_⟩
  show IntKind.i64.wrap ((BitVec.ofInt 64 x &&& BitVec.ofInt 64 15).toNat : Nat) = _
  rw [key, IntKind.wrap_i64]
  omega

theorem run_mid (T : ByteArray) (m : Nat) (h : m + 1 ≤ T.size) (W : World) : (Instr.slice 9 (.string T) (some (.int .i64 (m : Int))) (some (.int .i64 ((m : Int) + 1))) none).run Try.prog W = .ok (.string (T.extract m (m + 1))) W := by
  have h1 : (0 : Int) ≤ (m : Int) + 1 ∧ (m : Int) + 1 ≤ (T.size : Int) := by omega
  have h2 : ((m : Int) + 1).toNat = m + 1 := by omega
  have h3 : (0 : Int) ≤ (m : Int) ∧ (m : Int) ≤ ((m + 1 : Nat) : Int) := by omega
  simp [Instr.slice, Instr.sliceBounds, Instr.sliceBound, asIntOf, run_underlying Try.underlying9, h1, h2, h3]

def strLen : Value → Nat
  | .string b => b.size
  | _ => 0

section
open Go.ChangeShapes Go.WideShapes Go.ChangeAt
theorem opened_ints {H : Type} {enc : TypeId × Value → H} {P : Program} {W : World} {base : Nat} {held : Bool} {e : TypeId} {v : Value}
    (h : ∃ (A : Option Addr) (n c : Nat), v = .slice A n c ∧ n ≤ maxLen ∧ ∀ i, i < n → ∃ (a : Addr) (cs : List Value) (fuel : Nat) (x : DataW H × List MemPlace), A = some a ∧ a.block < W.heap.size ∧ cs.length = 1 ∧ (∀ j, j < 1 → W.cell? ((a.add (i * 1)).add j) = cs[j]?) ∧
      DataW.trod enc P W base (fun _ => true) held fuel e cs = some x) (he : P.underlying e = some (.int .i64)) :
    ∃ (A : Option Addr) (c : Nat) (l : List Int), v = .slice A l.length c ∧ l.length ≤ maxLen ∧ (∀ z ∈ l, -9223372036854775808 ≤ z ∧ z ≤ 9223372036854775807) ∧ Lies (fun _ => False) W A (ci l) := by
  obtain ⟨A, n, c, rfl, hn, hel⟩ := h
  have hel2 : ∀ i, i < n → ∃ z : Int, (-9223372036854775808 ≤ z ∧ z ≤ 9223372036854775807) ∧ ∃ a, A = some a ∧ a.block < W.heap.size ∧ W.cell? (a.add i) = some (.int .i64 z) := by
    intro i hi
    obtain ⟨a, cs, fuel, x, hA, hb, hl, hc, htr⟩ := hel i hi
    obtain ⟨z, rfl, _, hz⟩ := DataW.trod_int he htr
    have := hc 0 (by omega)
    have h0 : (a.add (i * 1)).add 0 = a.add i := by rw [Nat.mul_one]; rfl
    rw [h0] at this
    exact ⟨z, bounds_int hz, a, hA, hb, this⟩
  obtain ⟨l, rfl, hl⟩ := exists_list hel2
  refine ⟨A, c, l, rfl, hn, fun s hs => ?_, fun i u hi => ?_⟩
  · obtain ⟨i, hi, rfl⟩ := List.mem_iff_getElem.1 hs
    exact (hl i hi).1
  · have hi' := (List.getElem?_eq_some_iff.1 hi).1
    have hi2 : i < l.length := by simpa [ci] using hi'
    obtain ⟨_, a, h1, h2, h4⟩ := hl i hi2
    rw [ci_get l i hi2] at hi
    exact ⟨a, h1, h2, fun hf => hf, by rw [h4, hi]⟩
end
end Go.Proofs.Ytbldonkfboahmaa
