/-
  The law for a statement whose order of evaluation Go leaves open, once more, with what is known of the world told by which operations have come up: so what a call counts is counted once. It stands for every program; no condition.
-/
import Derived.Test.YtbldonkfboahmaaAnyOrder
import Derived.Test.YtbldonkfboahmaaMem
namespace Go.Proofs.Ytbldonkfboahmaa
open Go.RowKit

section
variable {P : Program} {ops : Array Oper} {Q : Exit → Act → World → Prop}

theorem getD_set_same {l : Array Bool} {i : Nat} (h : i < l.size) : (l.setIfInBounds i true).getD i false = true := by
  rw [Array.getD_eq_getD_getElem?, Array.getElem?_setIfInBounds_self_of_lt h]
  rfl
theorem getD_set_other {l : Array Bool} {i j : Nat} (h : i ≠ j) : (l.setIfInBounds i true).getD j false = l.getD j false := by
  rw [Array.getD_eq_getD_getElem?, Array.getElem?_setIfInBounds_ne h, ← Array.getD_eq_getD_getElem?]

/-- Every edge that binds leads back. -/
def backG (ops : Array Oper) : Bool := (List.range ops.size).all fun i => ((ops[i]?).map (·.after.all fun e => !Region.binds .any e || decide (e.on < i))).getD true
theorem backG_spec (h : backG ops = true) {i : Nat} {o : Oper} (hi : ops[i]? = some o) : ∀ e ∈ o.after, Region.binds .any e = true → e.on < i := by
  have li : i < ops.size := by
    rcases Nat.lt_or_ge i ops.size with h | h
    · exact h
    · rw [Array.getElem?_eq_none h] at hi; cases hi
  unfold backG at h
  have h1 := List.all_eq_true.1 h i (by simpa using li)
  rw [hi] at h1
  simp only [Option.map_some, Option.getD_some] at h1
  rw [Array.all_eq_true'] at h1
  intro e he hb
  have h2 := h1 e he
  rw [hb] at h2
  simpa using h2
theorem all_listedG (hb : backG ops = true) {listed : Array Bool} (hs : listed.size = ops.size) (hr : Region.ready .any ops listed = []) : ∀ j, j < ops.size → listed.getD j false = true := by
  intro j
  induction j using Nat.strongRecOn with
  | _ j ih =>
    intro hj
    cases hl : listed.getD j false with
    | true => rfl
    | false =>
      exfalso
      have ho : ops[j]? = some ops[j] := Array.getElem?_eq_getElem hj
      have hm : j ∈ Region.ready .any ops listed := by
        unfold Region.ready
        rw [List.mem_filter]
        refine ⟨by simpa using hj, ?_⟩
        rw [ho]
        have h1 : listed.getD j true = false := by
          rw [Array.getD_eq_getD_getElem?] at hl ⊢
          rw [Array.getElem?_eq_getElem (by omega)] at hl ⊢
          simpa using hl
        rw [h1]
        simp only [Bool.not_false, Bool.true_and, Option.map_some, Option.getD_some]
        rw [Array.all_eq_true']
        intro e he
        cases hbe : Region.binds .any e with
        | false => simp
        | true =>
          have := backG_spec hb ho e he hbe
          rw [ih e.on this (by omega)]
          simp
      rw [hr] at hm
      simp at hm

/-- THE LAW. -/
theorem wp_region_told {id : Nat} {a0 : Act} {w0 : World} (hm : P.follows .mixedOrders = true)
    (V : Nat → Value → World → Prop) (G : Array Bool → World → Prop) (R : World → World → Prop)
    (hnd : distinctB ops = true) (hback : backG ops = true) (n : Nat) (hn : a0.tmps.size = n) (hd : ((dsts ops).all fun d => decide (d < n)) = true)
    (hV : ∀ i v w w', V i v w → R w w' → V i v w') (hG : G (Array.replicate ops.size false) w0.drew)
    (hstep : ∀ i o, ops[i]? = some o → ∀ listed a w, listed.size = ops.size → listed.getD i false = false → G listed w → Known ops V (fun _ => True) a0 (fun j => ∃ e ∈ o.after, e.on = j ∧ Region.binds .any e = true) a w →
      Region.wanted o (yielded ops a.tmps) = true ∧ Oper.wp P o a w (fun a' w' => ∃ v, a' = a.put o.dst v ∧ V i v w' ∧ R w w' ∧ G (listed.setIfInBounds i true) w') Q)
    (hend : ∀ listed a w, (∀ j, j < ops.size → listed.getD j false = true) → G listed w → Known ops V (fun _ => True) a0 (fun j => j < ops.size) a w → Q .normal a w) :
    (Code.region id ops true).wp P Q a0 w0 := by
  refine wp_region_any hm ?_
  refine wpAny_inv (fun listed a w => listed.size = ops.size ∧ G listed w ∧ Known ops V (fun _ => True) a0 (fun j => listed.getD j false = true) a w) ?_ ?_ _ _ _ _ (by simp) ?_
  · rintro listed a w ⟨hs, hg, hk⟩ hr
    have hall := all_listedG hback hs hr
    exact hend listed a w hall hg ⟨hk.defers, hk.size, hk.fixed, fun i o d hi ho hd' => hk.vals i o d (hall i hi) ho hd', trivial⟩
  · rintro listed i a w ⟨hs, hg, hk⟩ hi
    obtain ⟨h1, o, ho, hdep⟩ := ready_spec hi
    have hlt : i < listed.size := by
      rcases Nat.lt_or_ge i listed.size with h | h
      · exact h
      · rw [Array.getD_eq_getD_getElem?, Array.getElem?_eq_none h] at h1
        cases h1
    have h1' : listed.getD i false = false := by
      rw [Array.getD_eq_getD_getElem?, Array.getElem?_eq_getElem hlt] at h1 ⊢
      exact h1
    have hk' : Known ops V (fun _ => True) a0 (fun j => ∃ e ∈ o.after, e.on = j ∧ Region.binds .any e = true) a w :=
      ⟨hk.defers, hk.size, hk.fixed, fun j oj d hj hoj hd' => by
        obtain ⟨e, he, rfl, hb⟩ := hj
        exact hk.vals _ oj d (hdep e he hb) hoj hd', trivial⟩
    obtain ⟨hw, hwp⟩ := hstep i o ho listed a w hs h1' hg hk'
    unfold wpOp
    simp only [ho, hw, if_true]
    refine .inl (Oper.wp_mono ?_ hwp)
    rintro a' w' ⟨v, rfl, hv, hR, hG'⟩
    have hmem : ∀ d, o.dst = some d → d ∈ dsts ops := fun d hd' => by
      unfold dsts
      rw [List.mem_filterMap]
      exact ⟨o, Array.mem_toList_iff.2 (Array.mem_of_getElem? ho), hd'⟩
    refine ⟨by simpa using hs, hG', ?_, ?_, ?_, ?_, trivial⟩
    · rw [← hk.defers]; cases o.dst <;> rfl
    · rw [← hk.size]; cases o.dst <;> simp [Act.put]
    · intro t ht
      rw [← hk.fixed t ht]
      cases hdo : o.dst with
      | none => rfl
      | some d => exact eval_put_other (by rintro rfl; exact ht (hmem d hdo))
    · intro j oj d hj hoj hdj
      by_cases hij : j = i
      · subst hij
        obtain rfl : oj = o := Option.some.inj (hoj.symm.trans ho)
        rw [hdj, eval_put_same (by rw [hk.size, hn]; exact of_decide_eq_true (List.all_eq_true.1 hd d (hmem d hdj)))]
        exact hv
      · have hold : listed.getD j false = true := by
          rw [getD_set_other (fun e => hij e.symm)] at hj
          exact hj
        have hv' := hV j _ _ _ (hk.vals j oj d hold hoj hdj) hR
        cases hdo : o.dst with
        | none => exact hv'
        | some d' =>
          rw [eval_put_other]
          · exact hv'
          · rintro rfl
            exact hij (distinct_spec hnd hoj ho hdj hdo)
  · refine ⟨by simp, hG, rfl, rfl, fun _ _ => rfl, ?_, trivial⟩
    intro i o d hi
    rw [Array.getD_eq_getD_getElem?, Array.getElem?_replicate] at hi
    split at hi <;> simp at hi
end
theorem wp_skip {P : Program} {Q : Exit → Act → World → Prop} {o : Oper} {a : Act} {w w' : World} {K : Act → World → Prop} (h : (execOp a.eval o).run P w = .ok .skip w') (hK : K (a.put o.dst undef) w') : Oper.wp P o a w K Q := by
  unfold Oper.wp
  rw [h]
  exact hK
theorem run_store_op {P : Program} {o : Oper} {a : Act} {w : World} (ty : TypeId) (x y : Operand) (ho : o.op = .store ty x y)
    (g : Nat) (cells : Array Value) (hx : a.eval x = .pointer (some ⟨g, 0, none⟩)) (hy : a.eval y = .agg cells) (t : TypeId) (old : Array Value) (hb : Blk w g t old) (hi : (P.info? ty).map (·.size) = some cells.size)
    (hold : old.size = cells.size) (h1 : cells.all (·.oneCell') = true) : (execOp a.eval o).run P w = .ok .skip (w.setRow g cells) := by
  unfold execOp
  simp only [ho, hx, hy, Instr.storeAt, Instr.sureAddr, Sem.run_bind, Sem.run_pure, Result.andThen_ok, run_storeVar_row w g t ty old cells hb hi hold h1]
end Go.Proofs.Ytbldonkfboahmaa
