/-
  The two tables of package sha in memory; a whole array out of its cells; an array by value at a place; a round's words as the program reckons them. No condition.
-/
import Derived.Deep.WholeRow
import Derived.LoopTactic
import Derived.BigRegion
import Derived.BigQuiet
import Derived.Deep.QuietTactic
import Derived.Test.YthaejfbbefpojaaDoorWords
import Derived.Test.YthaejfbbefpojaaDoorShW
namespace Go.Proofs.YthaejfbbefpojaaDoor
open Go.RowKit

/-- The tables hold what their text says. -/
structure Tab (w : World) : Prop where
  K : ∀ i, i < 64 → w.cell? ⟨1, i, none⟩ = some (.int .u32 (R (Sh.K.getD i 0)))
  H : ∀ i, i < 8 → w.cell? ⟨0, i, none⟩ = some (.int .u32 (R (Sh.H0.getD i 0)))
theorem cell_lt {w : World} {g i : Nat} {v : Value} (h : w.cell? ⟨g, i, none⟩ = some v) : g < w.heap.size := by
  rcases Nat.lt_or_ge g w.heap.size with hlt | hge
  · exact hlt
  · simp [World.cell?, Array.getElem?_eq_none hge] at h
theorem Tab.ltK {w : World} (h : Tab w) : 1 < w.heap.size := cell_lt (h.K 0 (by decide))
theorem Tab.ltH {w : World} (h : Tab w) : 0 < w.heap.size := cell_lt (h.H 0 (by decide))
theorem Tab.below {w w' : World} {B : Nat} (h : Tab w) (hb : Below B w w') (hK : 1 < B) (hH : 0 < B) : Tab w' :=
  ⟨fun i hi => (hb.cell (p := ⟨1, i, none⟩) hK).trans (h.K i hi), fun i hi => (hb.cell (p := ⟨0, i, none⟩) hH).trans (h.H i hi)⟩
theorem Tab.next {w w' : World} (h : Tab w) (hb : Below w.heap.size w w') : Tab w' := h.below hb h.ltK h.ltH

/-- An array by value, at a place. -/
theorem run_index_arr {P : Program} (t e : TypeId) (n : Nat) (cs : Array Value) (i : Nat) (z : Int) (k : IntKind) (h : P.underlying t = some (.array n e)) (hs : (P.info? e).map (·.size) = some 1) (hue : P.underlying e = some (.int k)) (hi : i < n) (hc : cs[i]? = some (.int k z)) (w : World) :
    (Instr.index t (.agg cs) (.int .i64 (i : Int))).run P w = .ok (.int k z) w := by
  cases hq : P.info? e with
  | none => simp [hq] at hs
  | some j =>
    have hj : j.size = 1 := by simpa [hq] using hs
    have hsz : i < cs.size := (Array.getElem?_eq_some_iff.1 hc).1
    have hg : cs[i] = .int k z := (Array.getElem?_eq_some_iff.1 hc).2
    have hagg : (isAgg e).run P w = .ok false w := by
      unfold isAgg
      rw [Sem.run_bind, run_underlying hue w]
      rfl
    simp [Instr.index, run_underlying h, asIntOf, sizeOf, typeInfo, hq, hj, hi, hagg, hc, go_sem]

/-- A whole array out of its cells. -/
theorem run_loadVar_cells {P : Program} (w : World) (a : Addr) (ty : TypeId) (cs : List Value) (d : TypeDesc) (hc : ∀ j v, cs[j]? = some v → w.cell? (a.add j) = some v)
    (hu : P.underlying ty = some d) (hd : (match d with | .struct _ | .array _ _ => true | _ => false) = true) (hi : (P.info? ty).map (·.size) = some cs.length) :
    (loadVar ty a).run P w = .ok (.agg cs.toArray) w := by
  have hl := run_loadCells_list (P := P) w a cs hc
  cases hq : P.info? ty with
  | none => simp [hq] at hi
  | some i =>
    have hs : i.size = cs.length := by simpa [hq] using hi
    have hagg : (isAgg ty).run P w = .ok true w := by
      unfold isAgg
      rw [Sem.run_bind, run_underlying hu w]
      cases d <;> simp_all
    simp [loadVar, Sem.run_bind, hagg, sizeOf, typeInfo, hq, hs, hl]
theorem wpList_load_cells {P : Program} {ops : Array Oper} {rest : List Oper} {o : Oper} {a : Act} {w : World} {Q : Exit → Act → World → Prop} (hgd : o.guard = none) (ty : TypeId) (x : Operand) (ho : o.op = .load ty x)
    (p : Addr) (hx : a.eval x = .pointer (some p)) (cs : List Value) (d : TypeDesc) (hc : ∀ j v, cs[j]? = some v → w.cell? (p.add j) = some v)
    (hu : P.underlying ty = some d) (hd : (match d with | .struct _ | .array _ _ => true | _ => false) = true) (hi : (P.info? ty).map (·.size) = some cs.length)
    (h : wpList P ops Q rest (a.put o.dst (.agg cs.toArray)) w) : wpList P ops Q (o :: rest) a w := by
  refine wpList_plain hgd fun K hK => ?_
  unfold Oper.wp execOp
  simp only [ho, hx, Instr.loadAt, Instr.sureAddr, Sem.run_bind, Sem.run_pure, Result.andThen_ok, run_loadVar_cells w p ty cs d hc hu hd hi]
  exact hK _ _ h

theorem ch_xor (e f g : BitVec 32) : (e &&& f) ^^^ (~~~ e &&& g) = Sh.ch e f g := by
  unfold Sh.ch
  apply BitVec.eq_of_getLsbD_eq
  intro i hi
  simp only [BitVec.getLsbD_xor, BitVec.getLsbD_and, BitVec.getLsbD_or, BitVec.getLsbD_not, hi, decide_true, Bool.true_and]
  cases e.getLsbD i <;> cases f.getLsbD i <;> cases g.getLsbD i <;> rfl
theorem maj_xor (a b c : BitVec 32) : (a &&& b) ^^^ (a &&& c) ^^^ (b &&& c) = Sh.maj a b c := by
  unfold Sh.maj
  apply BitVec.eq_of_getLsbD_eq
  intro i hi
  simp only [BitVec.getLsbD_xor, BitVec.getLsbD_and, BitVec.getLsbD_or]
  cases a.getLsbD i <;> cases b.getLsbD i <;> cases c.getLsbD i <;> rfl
end Go.Proofs.YthaejfbbefpojaaDoor
