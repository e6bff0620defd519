/-
  The law for a statement whose order of evaluation Go leaves open, where some of its operations may be passed over (behind && and ||, or || that is decided), and what is known while such a statement only calls functions that make memory (Gc), or stores one result in a variable that was there (Gs). It stands for every program; no condition.
-/
import Derived.Test.YtbldonkfboahmaaAnyK
namespace Go.Proofs.Ytbldonkfboahmaa
open Go.RowKit

section
variable {P : Program} {ops : Array Oper} {Q : Exit → Act → World → Prop}

theorem wanted_no {o : Oper} {a : Act} {g d : Nat} {b c : Bool} (h : o.guard = some (g, b)) (hd : (ops[g]?).bind (·.dst) = some d) (hv : a.tmps[d]?.getD undef = .bool c) (hb : c ≠ b) : Region.wanted o (yielded ops a.tmps) = false := by
  have h1 : a.tmps[d]? = some (.bool c) := by
    cases h2 : a.tmps[d]? with
    | none => rw [h2] at hv; cases hv
    | some u => rw [h2] at hv; exact congrArg some hv
  simp [Region.wanted, h, yielded, hd, h1]
  exact hb
theorem wanted_no_undef {o : Oper} {a : Act} {g d : Nat} {b : Bool} (h : o.guard = some (g, b)) (hd : (ops[g]?).bind (·.dst) = some d) (hv : a.tmps[d]?.getD undef = undef) : Region.wanted o (yielded ops a.tmps) = false := by
  cases h2 : a.tmps[d]? with
  | none => simp [Region.wanted, h, yielded, hd, h2]
  | some u =>
    rw [h2] at hv
    have : u = undef := hv
    subst this
    simp [Region.wanted, h, yielded, hd, h2, undef]
/-- THE LAW. -/
theorem wp_region_some {id : Nat} {a0 : Act} {w0 : World} (hm : P.follows .mixedOrders = true)
    (V : Nat → Value → World → Prop) (G : Array Bool → Act → World → Prop) (R : World → World → Prop)
    (hnd : distinctB ops = true) (hback : backG ops = true) (n : Nat) (hn : a0.tmps.size = n) (hd : ((dsts ops).all fun d => decide (d < n)) = true)
    (hV : ∀ i v w w', V i v w → R w w' → V i v w') (hRr : ∀ w, R w w) (hG : G (Array.replicate ops.size false) a0 w0.drew)
    (hstep : ∀ i o, ops[i]? = some o → ∀ listed a w, listed.size = ops.size → (∀ j, (o.after.any fun e => e.on == j && Region.binds .any e) = true → listed.getD j false = true) → listed.getD i false = false → G listed a w → Known ops V (fun _ => True) a0 (fun j => ∃ e ∈ o.after, e.on = j ∧ Region.binds .any e = true) a w →
      (Region.wanted o (yielded ops a.tmps) = true ∧ Oper.wp P o a w (fun a' w' => ∃ v, a' = a.put o.dst v ∧ V i v w' ∧ R w w' ∧ G (listed.setIfInBounds i true) (a.put o.dst v) w') Q) ∨
      (Region.wanted o (yielded ops a.tmps) = false ∧ V i undef w ∧ G (listed.setIfInBounds i true) (a.put o.dst undef) w))
    (hend : ∀ listed a w, (∀ j, j < ops.size → listed.getD j false = true) → G listed a w → Known ops V (fun _ => True) a0 (fun j => j < ops.size) a w → Q .normal a w) :
    (Code.region id ops true).wp P Q a0 w0 := by
  refine wp_region_any hm ?_
  refine wpAny_inv (fun listed a w => listed.size = ops.size ∧ G listed a w ∧ Known ops V (fun _ => True) a0 (fun j => listed.getD j false = true) a w) ?_ ?_ _ _ _ _ (by simp) ?_
  · rintro listed a w ⟨hs, hg, hk⟩ hr
    have hall := all_listedG hback hs hr
    exact hend listed a w hall hg ⟨hk.defers, hk.size, hk.fixed, fun i o d hi ho hd' => hk.vals i o d (hall i hi) ho hd', trivial⟩
  · rintro listed i a w ⟨hs, hg, hk⟩ hi
    obtain ⟨h1, o, ho, hdep⟩ := ready_spec hi
    have hlt : i < listed.size := by
      rcases Nat.lt_or_ge i listed.size with h | h
      · exact h
      · rw [Array.getD_eq_getD_getElem?, Array.getElem?_eq_none h] at h1
        cases h1
    have h1' : listed.getD i false = false := by
      rw [Array.getD_eq_getD_getElem?, Array.getElem?_eq_getElem hlt] at h1 ⊢
      exact h1
    have hk' : Known ops V (fun _ => True) a0 (fun j => ∃ e ∈ o.after, e.on = j ∧ Region.binds .any e = true) a w :=
      ⟨hk.defers, hk.size, hk.fixed, fun j oj d hj hoj hd' => by
        obtain ⟨e, he, rfl, hb⟩ := hj
        exact hk.vals _ oj d (hdep e he hb) hoj hd', trivial⟩
    have hmem : ∀ d, o.dst = some d → d ∈ dsts ops := fun d hd' => by
      unfold dsts
      rw [List.mem_filterMap]
      exact ⟨o, Array.mem_toList_iff.2 (Array.mem_of_getElem? ho), hd'⟩
    have after : ∀ v w', V i v w' → R w w' → G (listed.setIfInBounds i true) (a.put o.dst v) w' →
        (listed.setIfInBounds i true).size = ops.size ∧ G (listed.setIfInBounds i true) (a.put o.dst v) w' ∧ Known ops V (fun _ => True) a0 (fun j => (listed.setIfInBounds i true).getD j false = true) (a.put o.dst v) w' := by
      intro v w' hv hR hG'
      refine ⟨by simpa using hs, hG', ?_, ?_, ?_, ?_, trivial⟩
      · rw [← hk.defers]; cases o.dst <;> rfl
      · rw [← hk.size]; cases o.dst <;> simp [Act.put]
      · intro t ht
        rw [← hk.fixed t ht]
        cases hdo : o.dst with
        | none => rfl
        | some d => exact eval_put_other (by rintro rfl; exact ht (hmem d hdo))
      · intro j oj d hj hoj hdj
        by_cases hij : j = i
        · subst hij
          obtain rfl : oj = o := Option.some.inj (hoj.symm.trans ho)
          rw [hdj, eval_put_same (by rw [hk.size, hn]; exact of_decide_eq_true (List.all_eq_true.1 hd d (hmem d hdj)))]
          exact hv
        · have hold : listed.getD j false = true := by
            rw [getD_set_other (fun e => hij e.symm)] at hj
            exact hj
          have hv' := hV j _ _ _ (hk.vals j oj d hold hoj hdj) hR
          cases hdo : o.dst with
          | none => exact hv'
          | some d' =>
            rw [eval_put_other]
            · exact hv'
            · rintro rfl
              exact hij (distinct_spec hnd hoj ho hdj hdo)
    rcases hstep i o ho listed a w hs (fun j hj => by
      obtain ⟨e, he, hb⟩ := Array.any_eq_true'.1 hj
      simp only [Bool.and_eq_true, beq_iff_eq] at hb
      rw [← hb.1]
      exact hdep e he hb.2) h1' hg hk' with ⟨hw, hwp⟩ | ⟨hw, hv, hG'⟩
    · unfold wpOp
      simp only [ho, hw, if_true]
      refine .inl (Oper.wp_mono ?_ hwp)
      rintro a' w' ⟨v, rfl, hv, hR, hG'⟩
      exact after v w' hv hR hG'
    · unfold wpOp
      simp only [ho, hw]
      exact after undef w hv (hRr w) hG'
  · refine ⟨by simp, hG, rfl, rfl, fun _ _ => rfl, ?_, trivial⟩
    intro i o d hi
    rw [Array.getD_eq_getD_getElem?, Array.getElem?_replicate] at hi
    split at hi <;> simp at hi
end
/-- What is known while a statement only reads and calls functions that make memory. -/
structure Gc (w0 W : World) : Prop where
  below : Below w0.heap.size w0 W
theorem Gc.calls {w0 W W' : World} (h : Gc w0 W) (hb : Below W.heap.size W W') : Gc w0 W' := ⟨h.below.trans (hb.mono h.below.size)⟩
theorem Gc.start (w0 : World) : Gc w0 w0.drew := ⟨(Below.refl _ w0).drew⟩
/-- .. and stores one result (operation is) in a variable at block g. -/
structure Gs (w0 : World) (g : Nat) (T : TypeId) (zero built : Array Value) (is : Nat) (listed : Array Bool) (W : World) : Prop where
  below : listed.getD is false = false → Below w0.heap.size w0 W
  kept : Kept (fun b => b = g) w0 W
  var : Blk W g T (if listed.getD is false = true then built else zero)
section
variable {w0 W W' : World} {g : Nat} {T : TypeId} {zero built : Array Value} {is : Nat} {listed : Array Bool}
theorem Gs.start (h : Blk w0 g T zero) (n : Nat) : Gs w0 g T zero built is (Array.replicate n false) w0.drew := by
  have e : (Array.replicate n false).getD is false = false := by
    rw [Array.getD_eq_getD_getElem?, Array.getElem?_replicate]
    split <;> rfl
  refine ⟨fun _ => (Below.refl _ w0).drew, (Kept.refl _ w0).drew, ?_⟩
  rw [e, if_neg (by decide)]
  exact h.drew
theorem Gs.quiet (h : Gs w0 g T zero built is listed W) (i : Nat) (h1 : i ≠ is) : Gs w0 g T zero built is (listed.setIfInBounds i true) W := by
  refine ⟨?_, h.kept, ?_⟩
  · rw [getD_set_other h1]; exact h.below
  · rw [getD_set_other h1]; exact h.var
theorem Gs.calls (h : Gs w0 g T zero built is listed W) (hb : Below W.heap.size W W') (i : Nat) (h1 : i ≠ is) : Gs w0 g T zero built is (listed.setIfInBounds i true) W' :=
  Gs.quiet ⟨fun hl => (h.below hl).trans (hb.mono (h.below hl).size), h.kept.trans (Kept.of_below (S := fun _ => False) hb) (fun _ h => h.elim), h.var.of (hb.block _ h.var.lt)⟩ i h1
theorem Gs.stored (h : Gs w0 g T zero built is listed W) (hl : is < listed.size) : Gs w0 g T zero built is (listed.setIfInBounds is true) (W.setRow g built) := by
  refine ⟨?_, h.kept.setRow (.inl rfl) _, ?_⟩
  · rw [getD_set_same hl]; intro h; cases h
  · rw [getD_set_same hl, if_pos rfl]; exact h.var.row built
end
end Go.Proofs.Ytbldonkfboahmaa
