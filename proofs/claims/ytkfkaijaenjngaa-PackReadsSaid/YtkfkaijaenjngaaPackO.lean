/-
  How slices of texts and of numbers that came in as arguments lie in memory, as lists. No condition.
-/
import Derived.Test.YtkfkaijaenjngaaPackD
import Derived.Test.YtkfkaijaenjngaaOpen
import Derived.Test.YtkfkaijaenjngaaPackT
namespace Go.Proofs.Ytkfkaijaenjngaa
open Go.ChangeShapes Go.WideShapes Go.ChangeAt Go.RowKit

theorem opened_texts {W : World} {v : Value} (h : ∃ (A : Option Addr) (n c : Nat), v = .slice A n c ∧ n ≤ maxLen ∧ ∀ i, i < n → ∃ s : ByteArray, ∃ a, A = some a ∧ a.block < W.heap.size ∧ s.size ≤ maxLen ∧ W.cell? (a.add i) = some (.string s)) :
    ∃ (A : Option Addr) (c : Nat) (l : List ByteArray), v = .slice A l.length c ∧ l.length ≤ maxLen ∧ (∀ s ∈ l, s.size ≤ maxLen) ∧ Lies (fun _ => False) W A (cs l) := by
  obtain ⟨A, n, c, rfl, hn, hel⟩ := h
  obtain ⟨l, rfl, hl⟩ := exists_list hel
  refine ⟨A, c, l, rfl, hn, fun s hs => ?_, fun i u hi => ?_⟩
  · obtain ⟨i, hi, rfl⟩ := List.mem_iff_getElem.1 hs
    obtain ⟨a, _, _, h3, _⟩ := hl i hi
    exact h3
  · have hi' := (List.getElem?_eq_some_iff.1 hi).1
    have hi2 : i < l.length := by simpa [cs] using hi'
    obtain ⟨a, h1, h2, _, h4⟩ := hl i hi2
    rw [cs_get l i hi2] at hi
    exact ⟨a, h1, h2, fun hf => hf, by rw [h4, hi]⟩
theorem opened_nums {H : Type} {enc : TypeId × Value → H} {P : Program} {W : World} {base : Nat} {held : Bool} {e : TypeId} {v : Value}
    (h : ∃ (A : Option Addr) (n c : Nat), v = .slice A n c ∧ n ≤ maxLen ∧ ∀ i, i < n → ∃ (a : Addr) (cs : List Value) (fuel : Nat) (x : DataW H × List MemPlace), A = some a ∧ a.block < W.heap.size ∧ cs.length = 1 ∧ (∀ j, j < 1 → W.cell? ((a.add (i * 1)).add j) = cs[j]?) ∧
      DataW.trod enc P W base (fun _ => true) held fuel e cs = some x) (he : P.underlying e = some (.int .u64)) :
    ∃ (A : Option Addr) (c : Nat) (l : List Nat), v = .slice A l.length c ∧ l.length ≤ maxLen ∧ (∀ n ∈ l, n ≤ 18446744073709551615) ∧ Lies (fun _ => False) W A (cn l) := by
  obtain ⟨A, n, c, rfl, hn, hel⟩ := h
  have hel2 : ∀ i, i < n → ∃ z : Nat, z ≤ 18446744073709551615 ∧ ∃ a, A = some a ∧ a.block < W.heap.size ∧ W.cell? (a.add i) = some (.int .u64 (z : Int)) := by
    intro i hi
    obtain ⟨a, cs, fuel, x, hA, hb, hl, hc, htr⟩ := hel i hi
    obtain ⟨z, rfl, _, hz⟩ := DataW.trod_int he htr
    obtain ⟨n, rfl, hn⟩ := bounds_u64 hz
    have := hc 0 (by omega)
    have h0 : (a.add (i * 1)).add 0 = a.add i := by rw [Nat.mul_one]; rfl
    rw [h0] at this
    exact ⟨n, hn, a, hA, hb, this⟩
  obtain ⟨l, rfl, hl⟩ := exists_list hel2
  refine ⟨A, c, l, rfl, hn, fun s hs => ?_, fun i u hi => ?_⟩
  · obtain ⟨i, hi, rfl⟩ := List.mem_iff_getElem.1 hs
    exact (hl i hi).1
  · have hi' := (List.getElem?_eq_some_iff.1 hi).1
    have hi2 : i < l.length := by simpa [cn] using hi'
    obtain ⟨_, a, h1, h2, h4⟩ := hl i hi2
    rw [cn_get l i hi2] at hi
    exact ⟨a, h1, h2, fun hf => hf, by rw [h4, hi]⟩
end Go.Proofs.Ytkfkaijaenjngaa
