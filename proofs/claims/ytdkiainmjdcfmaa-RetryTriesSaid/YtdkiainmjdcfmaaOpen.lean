/-
  How slices that came in as arguments are opened: of any elements, to their cells; of texts. No condition.
-/
import Derived.Test.YtdkiainmjdcfmaaLaw
import Derived.SliceStrings
import Derived.Deep.Slices
import Derived.ChangeArms
namespace Go.Proofs.Ytdkiainmjdcfmaa
open Go.ChangeShapes Go.WideShapes Go.ChangeAt Go.RowKit

theorem addr_block (a : Addr) (i : Nat) : (a.add i).block = a.block := by unfold Addr.add; split <;> rfl
theorem block_lt_of_cell {W : World} {a : Addr} {v : Value} (h : W.cell? a = some v) : a.block < W.heap.size := by
  rcases Nat.lt_or_ge a.block W.heap.size with hlt | hge
  · exact hlt
  · simp [World.cell?, Array.getElem?_eq_none hge] at h

/-- A SLICE OF ANY ELEMENTS, OPENED: the cells of each element, and that they are read as its type says. -/
theorem open_rows {H : Type} {enc : TypeId × Value → H} {P : Program} {W : World} {base r0 : Nat} {held : Bool} {r : Reach} {t e : TypeId} {C : Nat} {v : Value} {d : DataW H} {ps : List MemPlace}
    (ht : P.underlying t = some (.slice e)) (hce : P.cellsOf e = C) (hC : 0 < C)
    (hv : Value.okWide P W r r0 t v) (h : DataW.Trod enc P W base (fun _ => true) held t v d ps) :
    ∃ (A : Option Addr) (n c : Nat), v = .slice A n c ∧ n ≤ maxLen ∧ ∀ i, i < n → ∃ (a : Addr) (cs : List Value) (fuel : Nat) (x : DataW H × List MemPlace), A = some a ∧ a.block < W.heap.size ∧ cs.length = C ∧ (∀ j, j < C → W.cell? ((a.add (i * C)).add j) = cs[j]?) ∧
      DataW.trod enc P W base (fun _ => true) held fuel e cs = some x := by
  obtain ⟨A, n, c, rfl⟩ := okWide_slice ht hv
  obtain ⟨fuel, hf⟩ := h
  refine ⟨A, n, c, rfl, ?_⟩
  rcases Go.Deep.open_slice ht hf with ⟨hcs, _⟩ | ⟨a, len', cap', m, n', D, Pl, hcs, _, hl, hm, hmm, _, hel⟩
  · simp [Value.cells] at hcs
    obtain ⟨rfl, rfl, rfl⟩ := hcs
    exact ⟨by unfold maxLen; omega, fun i hi => absurd hi (by omega)⟩
  · simp [Value.cells] at hcs
    obtain ⟨rfl, rfl, rfl⟩ := hcs
    simp only [if_true] at hmm
    refine ⟨by omega, fun i hi => ?_⟩
    obtain ⟨cs, hc, htr⟩ := hel i (by omega)
    rw [hce] at hc
    obtain ⟨_, hlen, hat⟩ := World.cells?_some hc
    refine ⟨a, cs, n', _, rfl, ?_, hlen, fun j hj => hat j hj, htr⟩
    have h0 := hat 0 hC
    rw [List.getElem?_eq_getElem (by omega)] at h0
    have := block_lt_of_cell h0
    rwa [addr_block, addr_block] at this

/-- A SLICE OF TEXTS, OPENED. -/
theorem open_texts {H : Type} {enc : TypeId × Value → H} {P : Program} {W : World} {base r0 : Nat} {held : Bool} {r : Reach} {t e : TypeId} {v : Value} {d : DataW H} {ps : List MemPlace}
    (ht : P.underlying t = some (.slice e)) (he : P.underlying e = some .string) (hce : P.cellsOf e = 1)
    (hv : Value.okWide P W r r0 t v) (h : DataW.Trod enc P W base (fun _ => true) held t v d ps) :
    ∃ (A : Option Addr) (n c : Nat), v = .slice A n c ∧ n ≤ maxLen ∧ ∀ i, i < n → ∃ s : ByteArray, ∃ a, A = some a ∧ a.block < W.heap.size ∧ s.size ≤ maxLen ∧ W.cell? (a.add i) = some (.string s) := by
  obtain ⟨A, n, c, rfl, hn, hel⟩ := open_rows ht hce (by omega) hv h
  refine ⟨A, n, c, rfl, hn, fun i hi => ?_⟩
  obtain ⟨a, cs, fuel, x, hA, hb, hl, hc, htr⟩ := hel i hi
  obtain ⟨s, rfl, _, hs⟩ := DataW.trod_string he htr
  have := hc 0 (by omega)
  have h0 : (a.add (i * 1)).add 0 = a.add i := by rw [Nat.mul_one]; rfl
  rw [h0] at this
  exact ⟨s, a, hA, hb, hs, this⟩
end Go.Proofs.Ytdkiainmjdcfmaa
