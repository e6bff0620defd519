/-
  The law for a statement whose order of evaluation Go leaves open, with what is known of the world told by which operations have come up AND by what the slots hold: so the block of a variable that the statement makes may have any number. A variable that is made by the statement and takes a call's result: Gv. It stands for every program; no condition.
-/
import Derived.Test.YtbldonkfboahmaaAnyG
namespace Go.Proofs.Ytbldonkfboahmaa
open Go.RowKit

section
variable {P : Program} {ops : Array Oper} {Q : Exit → Act → World → Prop}

/-- THE LAW. -/
theorem wp_region_acts {id : Nat} {a0 : Act} {w0 : World} (hm : P.follows .mixedOrders = true)
    (V : Nat → Value → World → Prop) (G : Array Bool → Act → World → Prop) (R : World → World → Prop)
    (hnd : distinctB ops = true) (hback : backG ops = true) (n : Nat) (hn : a0.tmps.size = n) (hd : ((dsts ops).all fun d => decide (d < n)) = true)
    (hV : ∀ i v w w', V i v w → R w w' → V i v w') (hG : G (Array.replicate ops.size false) a0 w0.drew)
    (hstep : ∀ i o, ops[i]? = some o → ∀ listed a w, listed.size = ops.size → (∀ j, (o.after.any fun e => e.on == j && Region.binds .any e) = true → listed.getD j false = true) → listed.getD i false = false → G listed a w → Known ops V (fun _ => True) a0 (fun j => ∃ e ∈ o.after, e.on = j ∧ Region.binds .any e = true) a w →
      Region.wanted o (yielded ops a.tmps) = true ∧ Oper.wp P o a w (fun a' w' => ∃ v, a' = a.put o.dst v ∧ V i v w' ∧ R w w' ∧ G (listed.setIfInBounds i true) (a.put o.dst v) w') Q)
    (hend : ∀ listed a w, (∀ j, j < ops.size → listed.getD j false = true) → G listed a w → Known ops V (fun _ => True) a0 (fun j => j < ops.size) a w → Q .normal a w) :
    (Code.region id ops true).wp P Q a0 w0 := by
  refine wp_region_any hm ?_
  refine wpAny_inv (fun listed a w => listed.size = ops.size ∧ G listed a w ∧ Known ops V (fun _ => True) a0 (fun j => listed.getD j false = true) a w) ?_ ?_ _ _ _ _ (by simp) ?_
  · rintro listed a w ⟨hs, hg, hk⟩ hr
    have hall := all_listedG hback hs hr
    exact hend listed a w hall hg ⟨hk.defers, hk.size, hk.fixed, fun i o d hi ho hd' => hk.vals i o d (hall i hi) ho hd', trivial⟩
  · rintro listed i a w ⟨hs, hg, hk⟩ hi
    obtain ⟨h1, o, ho, hdep⟩ := ready_spec hi
    have hlt : i < listed.size := by
      rcases Nat.lt_or_ge i listed.size with h | h
      · exact h
      · rw [Array.getD_eq_getD_getElem?, Array.getElem?_eq_none h] at h1
        cases h1
    have h1' : listed.getD i false = false := by
      rw [Array.getD_eq_getD_getElem?, Array.getElem?_eq_getElem hlt] at h1 ⊢
      exact h1
    have hk' : Known ops V (fun _ => True) a0 (fun j => ∃ e ∈ o.after, e.on = j ∧ Region.binds .any e = true) a w :=
      ⟨hk.defers, hk.size, hk.fixed, fun j oj d hj hoj hd' => by
        obtain ⟨e, he, rfl, hb⟩ := hj
        exact hk.vals _ oj d (hdep e he hb) hoj hd', trivial⟩
    obtain ⟨hw, hwp⟩ := hstep i o ho listed a w hs (fun j hj => by
      obtain ⟨e, he, hb⟩ := Array.any_eq_true'.1 hj
      simp only [Bool.and_eq_true, beq_iff_eq] at hb
      rw [← hb.1]
      exact hdep e he hb.2) h1' hg hk'
    unfold wpOp
    simp only [ho, hw, if_true]
    refine .inl (Oper.wp_mono ?_ hwp)
    rintro a' w' ⟨v, rfl, hv, hR, hG'⟩
    have hmem : ∀ d, o.dst = some d → d ∈ dsts ops := fun d hd' => by
      unfold dsts
      rw [List.mem_filterMap]
      exact ⟨o, Array.mem_toList_iff.2 (Array.mem_of_getElem? ho), hd'⟩
    refine ⟨by simpa using hs, hG', ?_, ?_, ?_, ?_, trivial⟩
    · rw [← hk.defers]; cases o.dst <;> rfl
    · rw [← hk.size]; cases o.dst <;> simp [Act.put]
    · intro t ht
      rw [← hk.fixed t ht]
      cases hdo : o.dst with
      | none => rfl
      | some d => exact eval_put_other (by rintro rfl; exact ht (hmem d hdo))
    · intro j oj d hj hoj hdj
      by_cases hij : j = i
      · subst hij
        obtain rfl : oj = o := Option.some.inj (hoj.symm.trans ho)
        rw [hdj, eval_put_same (by rw [hk.size, hn]; exact of_decide_eq_true (List.all_eq_true.1 hd d (hmem d hdj)))]
        exact hv
      · have hold : listed.getD j false = true := by
          rw [getD_set_other (fun e => hij e.symm)] at hj
          exact hj
        have hv' := hV j _ _ _ (hk.vals j oj d hold hoj hdj) hR
        cases hdo : o.dst with
        | none => exact hv'
        | some d' =>
          rw [eval_put_other]
          · exact hv'
          · rintro rfl
            exact hij (distinct_spec hnd hoj ho hdj hdo)
  · refine ⟨by simp, hG, rfl, rfl, fun _ _ => rfl, ?_, trivial⟩
    intro i o d hi
    rw [Array.getD_eq_getD_getElem?, Array.getElem?_replicate] at hi
    split at hi <;> simp at hi
end

/-- What is known while a statement runs that makes a variable, calls one function that counts (operation ic), and stores its result in it: ia makes it (its pointer in slot sl), is stores. -/
structure Gv (S : Nat → Prop) (st : World → Nat → Prop) (w0 : World) (k : Nat) (T : TypeId) (zero built : Array Value) (ic ia is sl : Nat) (listed : Array Bool) (a : Act) (W : World) : Prop where
  below : listed.getD ic false = false → Below w0.heap.size w0 W
  kept : Kept S w0 W
  st : st W (if listed.getD ic false = true then k + 1 else k)
  ord : listed.getD is false = true → listed.getD ia false = true
  var : listed.getD ia false = true → ∃ g, a.tmps[sl]?.getD undef = .pointer (some ⟨g, 0, none⟩) ∧ w0.heap.size ≤ g ∧ Blk W g T (if listed.getD is false = true then built else zero)
theorem put_slot {a : Act} {d t : Nat} {v : Value} (h : d ≠ t) : (a.put (some d) v).tmps[t]?.getD undef = a.tmps[t]?.getD undef := by
  have := eval_put_other (a := a) (d := d) (t := t) (v := v) h
  rwa [eval_slot, eval_slot] at this
theorem put_here {a : Act} {t : Nat} {v : Value} (h : t < a.tmps.size) : (a.put (some t) v).tmps[t]?.getD undef = v := by
  have := eval_put_same (a := a) (d := t) (v := v) h
  rwa [eval_slot] at this
section
variable {S : Nat → Prop} {st : World → Nat → Prop} {w0 : World} {k : Nat} {T : TypeId} {zero built : Array Value} {ic ia is sl : Nat} {listed : Array Bool} {a : Act} {W W' : World}
/-- The way of the state: it stays where only blocks that are not S's turn. -/
def Stays (S : Nat → Prop) (st : World → Nat → Prop) : Prop := (∀ (W W' : World) (k : Nat), st W k → (∀ b, S b → W'.heap[b]? = W.heap[b]?) → st W' k) ∧ (∀ (W : World) (k : Nat), st W k → ∀ b, S b → b < W.heap.size)
theorem Gv.start (h : st w0 k) (hst : Stays S st) (n : Nat) (a0 : Act) : Gv S st w0 k T zero built ic ia is sl (Array.replicate n false) a0 w0.drew := by
  have e : ∀ i, (Array.replicate n false).getD i false = false := by
    intro i
    rw [Array.getD_eq_getD_getElem?, Array.getElem?_replicate]
    split <;> rfl
  refine ⟨fun _ => (Below.refl _ w0).drew, (Kept.refl S w0).drew, ?_, fun h => ?_, fun h => ?_⟩
  · rw [e, if_neg (by decide)]
    exact hst.1 _ _ _ h (fun _ _ => rfl)
  · rw [e] at h; cases h
  · rw [e] at h; cases h
/-- An operation that leaves the world. -/
theorem Gv.quiet (h : Gv S st w0 k T zero built ic ia is sl listed a W) (i : Nat) (h1 : i ≠ ic) (h2 : i ≠ ia) (h3 : i ≠ is) (d : Option Nat) (hd : d ≠ some sl) (v : Value) :
    Gv S st w0 k T zero built ic ia is sl (listed.setIfInBounds i true) (a.put d v) W := by
  refine ⟨?_, h.kept, ?_, ?_, ?_⟩
  · rw [getD_set_other h1]; exact h.below
  · rw [getD_set_other h1]; exact h.st
  · rw [getD_set_other h2, getD_set_other h3]; exact h.ord
  · rw [getD_set_other h2, getD_set_other h3]
    intro hl
    obtain ⟨g, e, hg, hb⟩ := h.var hl
    refine ⟨g, ?_, hg, hb⟩
    cases d with
    | none => exact e
    | some d => rw [put_slot (fun e => hd (by rw [e]))]; exact e
/-- A call that makes memory alone. -/
theorem Gv.calls (hst : Stays S st) (h : Gv S st w0 k T zero built ic ia is sl listed a W) (hb : Below W.heap.size W W') (i : Nat) (h1 : i ≠ ic) (h2 : i ≠ ia) (h3 : i ≠ is) (d : Option Nat) (hd : d ≠ some sl) (v : Value) :
    Gv S st w0 k T zero built ic ia is sl (listed.setIfInBounds i true) (a.put d v) W' := by
  refine Gv.quiet ⟨fun hl => (h.below hl).trans (hb.mono (h.below hl).size), h.kept.trans (Kept.of_below (S := fun _ => False) hb) (fun _ h => h.elim), hst.1 _ _ _ h.st (fun b hS => hb.block b (hst.2 _ _ h.st b hS)), h.ord, fun hl => ?_⟩ i h1 h2 h3 d hd v
  obtain ⟨g, e, hg, hbk⟩ := h.var hl
  exact ⟨g, e, hg, hbk.of (hb.block g hbk.lt)⟩
/-- The call that counts. -/
theorem Gv.counted (hlow : ∀ b, S b → b < w0.heap.size) (h : Gv S st w0 k T zero built ic ia is sl listed a W) (hk : Kept S W W') (hst : st W' (k + 1)) (hl : ic < listed.size) (h2 : ic ≠ ia) (h3 : ic ≠ is) (d : Option Nat) (hd : d ≠ some sl) (v : Value) :
    Gv S st w0 k T zero built ic ia is sl (listed.setIfInBounds ic true) (a.put d v) W' := by
  refine ⟨?_, h.kept.trans hk (fun _ h => .inl h), ?_, ?_, ?_⟩
  · rw [getD_set_same hl]; intro h; cases h
  · rw [getD_set_same hl, if_pos rfl]; exact hst
  · rw [getD_set_other h2, getD_set_other h3]; exact h.ord
  · rw [getD_set_other h2, getD_set_other h3]
    intro hl
    obtain ⟨g, e, hg, hb⟩ := h.var hl
    refine ⟨g, ?_, hg, hb.of (hk.block g hb.lt (fun hS => by have := hlow g hS; omega))⟩
    cases d with
    | none => exact e
    | some d => rw [put_slot (fun e => hd (by rw [e]))]; exact e
/-- The variable is made. -/
theorem Gv.made (hst : Stays S st) (h : Gv S st w0 k T zero built ic ia is sl listed a W) (hun : listed.getD ia false = false) (hl : ia < listed.size) (h1 : ia ≠ ic) (h3 : ia ≠ is) (hsl : sl < a.tmps.size) :
    Gv S st w0 k T zero built ic ia is sl (listed.setIfInBounds ia true) (a.put (some sl) (.pointer (some ⟨W.heap.size, 0, none⟩))) (W.alloc (.cells zero T)) := by
  have hb : Below W.heap.size W (W.alloc (.cells zero T)) := (Below.refl _ W).alloc (Nat.le_refl _) _
  have hs : listed.getD is false = false := by
    cases e : listed.getD is false with
    | false => rfl
    | true => rw [h.ord e] at hun; cases hun
  refine ⟨?_, h.kept.alloc _, ?_, ?_, ?_⟩
  · rw [getD_set_other h1]
    intro hl
    exact (h.below hl).trans (hb.mono (h.below hl).size)
  · rw [getD_set_other h1]
    exact hst.1 _ _ _ h.st (fun b hS => hb.block b (hst.2 _ _ h.st b hS))
  · rw [getD_set_same hl]; intro _; rfl
  · rw [getD_set_other h3, hs, if_neg (by decide)]
    intro _
    exact ⟨W.heap.size, put_here hsl, h.kept.size, Blk.new W T zero⟩
/-- The result is stored. -/
theorem Gv.stored (hst : Stays S st) (hlow : ∀ b, S b → b < w0.heap.size) (h : Gv S st w0 k T zero built ic ia is sl listed a W) (hla : listed.getD ia false = true) (hl : is < listed.size) (h1 : is ≠ ic) (h2 : is ≠ ia) (g : Nat) (hg : w0.heap.size ≤ g) (he : a.tmps[sl]?.getD undef = .pointer (some ⟨g, 0, none⟩)) (old : Array Value) (hb : Blk W g T old) (v : Value) :
    Gv S st w0 k T zero built ic ia is sl (listed.setIfInBounds is true) (a.put none v) (W.setRow g built) := by
  have hk : Kept (fun b => b = g) W (W.setRow g built) := (Kept.refl (fun b => b = g) W).setRow (.inl rfl) _
  refine ⟨?_, h.kept.setRow (.inr hg) _, ?_, ?_, ?_⟩
  · rw [getD_set_other h1]
    intro h2
    have hB := h.below h2
    exact ⟨hB.os, hB.tape, hB.output, Nat.le_trans hB.size (by simp), fun k hk => (setRow_other W g k built (by omega)).trans (hB.block k hk)⟩
  · rw [getD_set_other h1]
    exact hst.1 _ _ _ h.st (fun b hS => hk.block b (hst.2 _ _ h.st b hS) (fun e => by have := hlow b hS; have e2 : b = g := e; omega))
  · rw [getD_set_other h2]; intro _; exact hla
  · rw [getD_set_same hl, if_pos rfl]
    intro _
    exact ⟨g, he, hg, hb.row built⟩
end
theorem below_of_kept {w w' : World} (h : Kept (fun _ => False) w w') : Below w.heap.size w w' := ⟨h.os, h.tape, h.output, h.size, fun k hk => h.block k hk (fun e => e)⟩
/-- Behind the statement: the slots are those ahead of it, but for those that it writes. -/
theorem fold_size (D : List Nat) (v : Nat → Value) (b : Act) : (D.foldl (fun b d => b.put (some d) (v d)) b).tmps.size = b.tmps.size ∧ (D.foldl (fun b d => b.put (some d) (v d)) b).defers = b.defers := by
  induction D generalizing b with
  | nil => exact ⟨rfl, rfl⟩
  | cons d D ih =>
    have h := ih (b.put (some d) (v d))
    rw [List.foldl_cons]
    exact ⟨h.1.trans (by simp [Act.put]), h.2⟩
theorem fold_eval (D : List Nat) (v : Nat → Value) (b : Act) (t : Nat) (ht : t < b.tmps.size) : (D.foldl (fun b d => b.put (some d) (v d)) b).eval (.tmp t) = if t ∈ D then v t else b.eval (.tmp t) := by
  induction D generalizing b with
  | nil => simp
  | cons d D ih =>
    rw [List.foldl_cons, ih (b.put (some d) (v d)) (by simpa [Act.put] using ht)]
    by_cases h1 : t ∈ D
    · rw [if_pos h1, if_pos (List.mem_cons_of_mem _ h1)]
    · rw [if_neg h1]
      by_cases h2 : d = t
      · subst h2
        rw [if_pos (by simp), eval_put_same ht]
      · rw [eval_put_other h2, if_neg (by rw [List.mem_cons]; rintro (h | h); exact h2 h.symm; exact h1 h)]
theorem Known.act {ops : Array Oper} {V : Nat → Value → World → Prop} {G : World → Prop} {a0 a : Act} {w : World} {L : Nat → Prop} (hk : Known ops V G a0 L a w) (D : List Nat) (hD : dsts ops = D) :
    a = D.foldl (fun b d => b.put (some d) (a.tmps[d]?.getD undef)) a0 := by
  subst hD
  have hs := fold_size (dsts ops) (fun d => a.tmps[d]?.getD undef) a0
  have he : ∀ t, t < a0.tmps.size → a.eval (.tmp t) = ((dsts ops).foldl (fun b d => b.put (some d) (a.tmps[d]?.getD undef)) a0).eval (.tmp t) := by
    intro t ht
    rw [fold_eval _ _ _ _ ht]
    by_cases h : t ∈ dsts ops
    · rw [if_pos h, eval_slot]
    · rw [if_neg h]; exact hk.fixed t h
  have hd := hk.defers
  have hz := hk.size
  generalize (dsts ops).foldl (fun b d => b.put (some d) (a.tmps[d]?.getD undef)) a0 = b at hs he
  cases a with
  | mk at_ ad =>
    cases b with
    | mk bt bd =>
      simp only at hs he hd hz
      obtain rfl : ad = bd := hd.trans hs.2.symm
      congr 1
      apply Array.ext (hz.trans hs.1.symm)
      intro i h1 h2
      have h := he i (by omega)
      rw [eval_slot, eval_slot] at h
      simpa [h1, h2] using h
/-- A variable of several cells, read as a whole. -/
theorem run_load_op {P : Program} {o : Oper} {a : Act} {w : World} (ty : TypeId) (x : Operand) (ho : o.op = .load ty x) (g : Nat) (hx : a.eval x = .pointer (some ⟨g, 0, none⟩)) (t : TypeId) (cs : Array Value) (hb : Blk w g t cs)
    (d : TypeDesc) (hu : P.underlying ty = some d) (hd : (match d with | .struct _ | .array _ _ => true | _ => false) = true) (hi : (P.info? ty).map (·.size) = some cs.size) :
    (execOp a.eval o).run P w = .ok (.value (.agg cs)) w := by
  unfold execOp
  simp only [ho, hx, Instr.loadAt, Instr.sureAddr, Sem.run_bind, Sem.run_pure, Result.andThen_ok, run_loadVar_row w g t ty cs (0, 0) d hb hu hd hi]
theorem run_alloc_op {P : Program} {o : Oper} {a : Act} {w : World} (ty : TypeId) (ho : o.op = .alloc ty) (cs : Array Value) (h : (Instr.alloc ty true (.tuple #[])).run P w = .ok (.pointer (some ⟨w.heap.size, 0, none⟩)) (w.alloc (.cells cs ty))) :
    (execOp a.eval o).run P w = .ok (.value (.pointer (some ⟨w.heap.size, 0, none⟩))) (w.alloc (.cells cs ty)) := by
  unfold execOp
  simp only [ho, Sem.run_bind, Sem.run_pure, Result.andThen_ok, h]
end Go.Proofs.Ytbldonkfboahmaa
