/-
  How a struct that came in by value is opened: its cells, and how each field is read. No condition.
-/
import Derived.ChangeArms
import Derived.ChangeSame
import Derived.Test.YtflgbnolfleicaaGreatDoorBas
namespace Go.Proofs.YtflgbnolfleicaaGreatDoor
open Go.ChangeShapes Go.WideShapes Go.ChangeAt Go.RowKit

theorem open_fields {H : Type} {enc : TypeId × Value → H} {P : Program} {W : World} {base r0 : Nat} {spare : Nat → Bool} {held : Bool} {r : Reach} {t : TypeId} {fs : Array Field} {v : Value} {d : DataW H} {ps : List MemPlace}
    (hs : P.underlying t = some (.struct fs)) (hv : Value.okWide P W r r0 t v) (h : DataW.Trod enc P W base spare held t v d ps) :
    ∃ (cs : List Value) (n : Nat) (xs : List (DataW H × List MemPlace)), v = .agg cs.toArray ∧ cs.length = P.cellsOf t ∧ xs.length = fs.size ∧
      ∀ (i : Nat) (f : Field), fs[i]? = some f → DataW.trod enc P W base spare held n f.type ((cs.drop f.offset).take (P.cellsOf f.type)) = xs[i]? := by
  obtain ⟨cs, rfl, hsz⟩ := okWide_struct hs hv
  obtain ⟨fuel, hf⟩ := h
  obtain ⟨xs, n, _, _, hl, hxl, hff⟩ := DataW.trod_struct hs hf
  exact ⟨cs.toList, n, xs, by simp, by simpa [Value.cells] using hl, hxl, fun i f hi => by simpa [Value.cells] using hff i f hi⟩
/-- A field that is an integer, a text, a bool: what its one cell holds. -/
theorem int_field {H : Type} {enc : TypeId × Value → H} {P : Program} {W : World} {base n : Nat} {spare : Nat → Bool} {held : Bool} {t : TypeId} {k : IntKind} {c : Value} {x : DataW H × List MemPlace} (ht : P.underlying t = some (.int k))
    (h : DataW.trod enc P W base spare held n t [c] = some x) : ∃ z : Int, c = .int k z ∧ (Lit.int k z).wf = true := by
  obtain ⟨z, e, _, hz⟩ := DataW.trod_int ht h
  exact ⟨z, by simpa using e, hz⟩
theorem str_field {H : Type} {enc : TypeId × Value → H} {P : Program} {W : World} {base n : Nat} {spare : Nat → Bool} {held : Bool} {t : TypeId} {c : Value} {x : DataW H × List MemPlace} (ht : P.underlying t = some .string)
    (h : DataW.trod enc P W base spare held n t [c] = some x) : ∃ s : ByteArray, c = .string s ∧ s.size ≤ maxLen := by
  obtain ⟨s, e, _, hz⟩ := DataW.trod_string ht h
  exact ⟨s, by simpa using e, hz⟩
/-- One field of one cell. -/
theorem field_cell {H : Type} {enc : TypeId × Value → H} {P : Program} {W : World} {base n : Nat} {spare : Nat → Bool} {held : Bool} {fs : Array Field} {cs : List Value} {xs : List (DataW H × List MemPlace)}
    (hf : ∀ (i : Nat) (f : Field), fs[i]? = some f → DataW.trod enc P W base spare held n f.type ((cs.drop f.offset).take (P.cellsOf f.type)) = xs[i]?) (hx : xs.length = fs.size)
    (i : Nat) (f : Field) (hi : fs[i]? = some f) (hc : P.cellsOf f.type = 1) (c : Value) (hd : cs[f.offset]? = some c) : ∃ x, DataW.trod enc P W base spare held n f.type [c] = some x := by
  have h := hf i f hi
  have e : (cs.drop f.offset).take 1 = [c] := by
    have hl := (List.getElem?_eq_some_iff.1 hd)
    obtain ⟨hlt, he⟩ := hl
    rw [List.drop_eq_getElem_cons hlt, he]
    rfl
  rw [hc, e] at h
  have hlt : i < fs.size := by
    rcases Nat.lt_or_ge i fs.size with h1 | h1
    · exact h1
    · rw [Array.getElem?_eq_none h1] at hi; cases hi
  exact ⟨xs[i]'(by omega), h.trans (List.getElem?_eq_getElem (by omega))⟩
/-- An array of texts that came in by value. -/
theorem open_array_texts {H : Type} {enc : TypeId × Value → H} {P : Program} {W : World} {base r0 : Nat} {spare : Nat → Bool} {held : Bool} {r : Reach} {t e : TypeId} {n : Nat} {v : Value} {d : DataW H} {ps : List MemPlace}
    (ht : P.underlying t = some (.array n e)) (he : P.underlying e = some .string) (hce : P.cellsOf e = 1) (hct : P.cellsOf t = n)
    (hv : Value.okWide P W r r0 t v) (h : DataW.Trod enc P W base spare held t v d ps) :
    ∃ ss : List ByteArray, v = .agg (ss.map Value.string).toArray ∧ ss.length = n ∧ ∀ s ∈ ss, s.size ≤ maxLen := by
  obtain ⟨cs, rfl, hsz⟩ : ∃ cs, v = .agg cs ∧ cs.size = P.cellsOf t := by
    have h' : ∃ cs, v = .agg cs ∧ cs.size = P.cellsOf t ∧ Row.okWide P W r r0 t cs := by simpa [Value.okWide, ht] using hv
    obtain ⟨cs, h1, h2, _⟩ := h'
    exact ⟨cs, h1, h2⟩
  obtain ⟨fuel, hf⟩ := h
  obtain ⟨xs, m, _, _, _, hl, hel⟩ := DataW.trod_array ht hf
  rw [hct] at hsz
  have key : ∀ i, i < n → ∃ s : ByteArray, cs[i]? = some (.string s) ∧ s.size ≤ maxLen := by
    intro i hi
    have h1 := hel i hi
    obtain ⟨y, hy⟩ : ∃ y, xs[i]? = some y := ⟨xs[i]'(by omega), by simp [hl, hi]⟩
    rw [hy] at h1
    obtain ⟨s, e1, _, ws⟩ := DataW.trod_string he h1
    refine ⟨s, ?_, ws⟩
    rw [hce, Nat.mul_one] at e1
    have := congrArg (·[0]?) e1
    simpa [List.getElem?_take, List.getElem?_drop, Value.cells] using this
  obtain ⟨ss, hsl, hss⟩ := exists_list key
  refine ⟨ss, ?_, hsl, fun s hs => ?_⟩
  · congr 1
    apply Array.ext_getElem?
    intro i
    by_cases hi : i < n
    · obtain ⟨h1, _⟩ := hss i (by omega)
      rw [h1]
      simp [hsl, hi]
    · rw [Array.getElem?_eq_none (by omega), Array.getElem?_eq_none (by simp; omega)]
  · obtain ⟨i, hi, rfl⟩ := List.mem_iff_getElem.1 hs
    exact (hss i hi).2
end Go.Proofs.YtflgbnolfleicaaGreatDoor
