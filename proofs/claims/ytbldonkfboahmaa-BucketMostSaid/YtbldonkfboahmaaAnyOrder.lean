/-
  A law of our own for a statement whose order of evaluation Go leaves open: if each of its operations, in any order that the edges allow, keeps a property of its own value, and the world only goes on in ways that keep such properties, then at the end all properties hold. It stands for every program; no condition.
-/
import Derived.WalkKit
import Derived.RegionTactic
namespace Go.Proofs.Ytbldonkfboahmaa
open Go.RowKit

section
variable {P : Program} {ops : Array Oper} {Q : Exit → Act → World → Prop} {md : Region.Mode}

theorem count_set {l : List Bool} {i : Nat} (h : l[i]? = some false) : (l.set i true).count false + 1 = l.count false := by
  induction l generalizing i with
  | nil => simp at h
  | cons b l ih =>
    cases i with
    | zero =>
      simp at h
      subst h
      simp
    | succ i =>
      simp at h
      have := ih h
      simp only [List.set_cons_succ, List.count_cons]
      omega

theorem ready_spec {listed : Array Bool} {i : Nat} (h : i ∈ Region.ready md ops listed) :
    listed.getD i true = false ∧ ∃ o, ops[i]? = some o ∧ ∀ e ∈ o.after, Region.binds md e = true → listed.getD e.on false = true := by
  unfold Region.ready at h
  rw [List.mem_filter] at h
  obtain ⟨_, h⟩ := h
  simp only [Bool.and_eq_true, Bool.not_eq_true'] at h
  refine ⟨h.1, ?_⟩
  cases ho : ops[i]? with
  | none => rw [ho] at h; simp at h
  | some o =>
    rw [ho] at h
    refine ⟨o, rfl, fun e he hb => ?_⟩
    have h2 : o.after.all (fun e => !Region.binds md e || listed.getD e.on false) = true := by simpa using h.2
    rw [Array.all_eq_true'] at h2
    have h3 := h2 e he
    rw [hb] at h3
    simpa using h3

theorem wpAny_inv (J : Array Bool → Act → World → Prop)
    (hdone : ∀ listed a w, J listed a w → Region.ready md ops listed = [] → Q .normal a w)
    (hstep : ∀ listed i a w, J listed a w → i ∈ Region.ready md ops listed → wpOp P ops Q i (J (listed.setIfInBounds i true)) a w) :
    ∀ (fuel : Nat) (listed : Array Bool) (a : Act) (w : World), listed.toList.count false ≤ fuel → J listed a w → wpAny P md ops Q fuel listed a w := by
  intro fuel
  induction fuel with
  | zero =>
    intro listed a w hc hJ
    have hr : Region.ready md ops listed = [] := by
      cases h : Region.ready md ops listed with
      | nil => rfl
      | cons i rs =>
        have hi : i ∈ Region.ready md ops listed := by rw [h]; simp
        obtain ⟨h1, _⟩ := ready_spec hi
        have h2 : listed.toList[i]? = some false := by
          rw [Array.getD_eq_getD_getElem?] at h1
          cases h3 : listed[i]? with
          | none => rw [h3] at h1; simp at h1
          | some b => rw [h3] at h1; simp at h1; subst h1; simpa using h3
        have := count_set h2
        omega
    exact ⟨hr, hdone _ _ _ hJ hr⟩
  | succ fuel ih =>
    intro listed a w hc hJ
    refine ⟨fun hr => hdone _ _ _ hJ hr, fun i hi => ?_⟩
    have hlt : (listed.setIfInBounds i true).toList.count false ≤ fuel := by
      obtain ⟨h1, _⟩ := ready_spec hi
      have h2 : listed.toList[i]? = some false := by
        rw [Array.getD_eq_getD_getElem?] at h1
        cases h3 : listed[i]? with
        | none => rw [h3] at h1; simp at h1
        | some b => rw [h3] at h1; simp at h1; subst h1; simpa using h3
      have := count_set h2
      rw [Array.toList_setIfInBounds]
      omega
    exact wpOp_mono (fun a w h => ih _ a w hlt h) (hstep _ _ _ _ hJ hi)

/-- Every slot that the statement writes. -/
def dsts (ops : Array Oper) : List Nat := ops.toList.filterMap (·.dst)

/-- No two operations write one slot. -/
def distinctB (ops : Array Oper) : Bool := (List.range ops.size).all fun i => (List.range ops.size).all fun j => i == j || (match ops[i]?, ops[j]? with
  | some x, some y => x.dst.isNone || x.dst != y.dst
  | _, _ => true)
theorem distinct_spec (h : distinctB ops = true) {i j : Nat} {x y : Oper} {d : Nat} (hi : ops[i]? = some x) (hj : ops[j]? = some y) (hx : x.dst = some d) (hy : y.dst = some d) : i = j := by
  have li : i < ops.size := by
    rcases Nat.lt_or_ge i ops.size with h | h
    · exact h
    · rw [Array.getElem?_eq_none h] at hi; cases hi
  have lj : j < ops.size := by
    rcases Nat.lt_or_ge j ops.size with h | h
    · exact h
    · rw [Array.getElem?_eq_none h] at hj; cases hj
  unfold distinctB at h
  have h1 := List.all_eq_true.1 (List.all_eq_true.1 h i (by simpa using li)) j (by simpa using lj)
  rw [hi, hj] at h1
  simpa [hx, hy] using h1

/-- Every edge leads back. -/
def backB (ops : Array Oper) : Bool := (List.range ops.size).all fun i => ((ops[i]?).map (·.after.all fun e => decide (e.on < i))).getD true
theorem back_spec (h : backB ops = true) {i : Nat} {o : Oper} (hi : ops[i]? = some o) : ∀ e ∈ o.after, e.on < i := by
  have li : i < ops.size := by
    rcases Nat.lt_or_ge i ops.size with h | h
    · exact h
    · rw [Array.getElem?_eq_none h] at hi; cases hi
  unfold backB at h
  have h1 := List.all_eq_true.1 h i (by simpa using li)
  rw [hi] at h1
  simp only [Option.map_some, Option.getD_some] at h1
  rw [Array.all_eq_true'] at h1
  intro e he
  exact of_decide_eq_true (h1 e he)

theorem all_listed (hb : backB ops = true) {listed : Array Bool} (hs : listed.size = ops.size) (hr : Region.ready md ops listed = []) : ∀ j, j < ops.size → listed.getD j false = true := by
  intro j
  induction j using Nat.strongRecOn with
  | _ j ih =>
    intro hj
    cases hl : listed.getD j false with
    | true => rfl
    | false =>
      exfalso
      have ho : ops[j]? = some ops[j] := Array.getElem?_eq_getElem hj
      have hm : j ∈ Region.ready md ops listed := by
        unfold Region.ready
        rw [List.mem_filter]
        refine ⟨by simpa using hj, ?_⟩
        rw [ho]
        have h1 : listed.getD j true = false := by
          rw [Array.getD_eq_getD_getElem?] at hl ⊢
          rw [Array.getElem?_eq_getElem (by omega)] at hl ⊢
          simpa using hl
        rw [h1]
        simp only [Bool.not_false, Bool.true_and, Option.map_some, Option.getD_some]
        rw [Array.all_eq_true']
        intro e he
        have := back_spec hb ho e he
        rw [ih e.on this (by omega)]
        simp
      rw [hr] at hm
      simp at hm

/-- What is known when some operations have come up. -/
structure Known (ops : Array Oper) (V : Nat → Value → World → Prop) (G : World → Prop) (a0 : Act) (listed : Nat → Prop) (a : Act) (w : World) : Prop where
  defers : a.defers = a0.defers
  size : a.tmps.size = a0.tmps.size
  fixed : ∀ t, t ∉ dsts ops → a.eval (.tmp t) = a0.eval (.tmp t)
  vals : ∀ i o d, listed i → ops[i]? = some o → o.dst = some d → V i (a.eval (.tmp d)) w
  world : G w

theorem eval_slot (a : Act) (t : Nat) : a.eval (.tmp t) = a.tmps[t]?.getD undef := by
  show a.tmps.getD t undef = _
  rw [Array.getD_eq_getD_getElem?]
theorem Known.dep {V : Nat → Value → World → Prop} {G : World → Prop} {a0 a : Act} {w : World} {o : Oper}
    (hk : Known ops V G a0 (fun j => ∃ e ∈ o.after, e.on = j ∧ Region.binds .any e = true) a w) (j d : Nat) (h : (o.after.any fun e => e.on == j && Region.binds .any e) = true) (hd : (ops[j]?).bind (·.dst) = some d) :
    V j (a.tmps[d]?.getD undef) w := by
  obtain ⟨e, he, hb⟩ := Array.any_eq_true'.1 h
  simp only [Bool.and_eq_true, beq_iff_eq] at hb
  obtain ⟨oj, hoj, hdj⟩ := Option.bind_eq_some_iff.1 hd
  rw [← eval_slot]
  exact hk.vals j oj d ⟨e, he, hb⟩ hoj hdj
theorem Known.last {V : Nat → Value → World → Prop} {G : World → Prop} {a0 a : Act} {w : World}
    (hk : Known ops V G a0 (fun j => j < ops.size) a w) (j d : Nat) (h : j < ops.size) (hd : (ops[j]?).bind (·.dst) = some d) : V j (a.tmps[d]?.getD undef) w := by
  obtain ⟨oj, hoj, hdj⟩ := Option.bind_eq_some_iff.1 hd
  rw [← eval_slot]
  exact hk.vals j oj d h hoj hdj
theorem Known.fix {V : Nat → Value → World → Prop} {G : World → Prop} {a0 a : Act} {w : World} {L : Nat → Prop} (hk : Known ops V G a0 L a w) (t : Nat) (h : ((dsts ops).contains t) = false) : a.tmps[t]?.getD undef = a0.tmps[t]?.getD undef := by
  rw [← eval_slot, ← eval_slot]
  exact hk.fixed t (by simpa using h)

theorem wanted_plain {o : Oper} {f : Nat → Option Bool} (h : o.guard = none) : Region.wanted o f = true := by
  simp [Region.wanted, h]
theorem wanted_guard {o : Oper} {a : Act} {g d : Nat} {b : Bool} (h : o.guard = some (g, b)) (hd : (ops[g]?).bind (·.dst) = some d) (hv : a.tmps[d]?.getD undef = .bool b) : Region.wanted o (yielded ops a.tmps) = true := by
  have h1 : a.tmps[d]? = some (.bool b) := by
    cases h2 : a.tmps[d]? with
    | none => rw [h2] at hv; cases hv
    | some u => rw [h2] at hv; exact congrArg some hv
  simp [Region.wanted, h, yielded, hd, h1]

theorem wp_value {o : Oper} {a : Act} {w w' : World} {v : Value} {K : Act → World → Prop} (h : (execOp a.eval o).run P w = .ok (.value v) w') (hK : K (a.put o.dst v) w') : Oper.wp P o a w K Q := by
  unfold Oper.wp
  rw [h]
  exact hK
theorem wp_enter {o : Oper} {a : Act} {w w' : World} {f : FuncId} {args : Array Value} {K : Act → World → Prop} {S : Value → World → Prop}
    (h : (execOp a.eval o).run P w = .ok (.enter f args) w') (hc : Calls P f args w' fun e w'' => ∃ v, e = .returned v ∧ S v w'') (hK : ∀ v w'', S v w'' → K (a.put o.dst v) w'') : Oper.wp P o a w K Q := by
  unfold Oper.wp
  rw [h]
  refine hc.mono ?_
  rintro e w'' ⟨v, rfl, hs⟩
  exact hK v w'' hs

theorem eval_put_same {a : Act} {d : Nat} {v : Value} (h : d < a.tmps.size) : (a.put (some d) v).eval (.tmp d) = v := by
  simp [Act.put, Act.eval, h]
theorem eval_put_other {a : Act} {d t : Nat} {v : Value} (h : d ≠ t) : (a.put (some d) v).eval (.tmp t) = a.eval (.tmp t) := by
  simp [Act.put, Act.eval, h]

/-- THE LAW. -/
theorem wp_region_inv {id : Nat} {a0 : Act} {w0 : World} (hm : P.follows .mixedOrders = true)
    (V : Nat → Value → World → Prop) (G : World → Prop) (R : World → World → Prop)
    (hnd : distinctB ops = true) (hback : backB ops = true) (n : Nat) (hn : a0.tmps.size = n) (hd : ((dsts ops).all fun d => decide (d < n)) = true)
    (hV : ∀ i v w w', V i v w → R w w' → V i v w') (hG : G w0.drew)
    (hstep : ∀ i o, ops[i]? = some o → ∀ a w, Known ops V G a0 (fun j => ∃ e ∈ o.after, e.on = j ∧ Region.binds .any e = true) a w →
      Region.wanted o (yielded ops a.tmps) = true ∧ Oper.wp P o a w (fun a' w' => ∃ v, a' = a.put o.dst v ∧ V i v w' ∧ R w w' ∧ G w') Q)
    (hend : ∀ a w, Known ops V G a0 (fun j => j < ops.size) a w → Q .normal a w) :
    (Code.region id ops true).wp P Q a0 w0 := by
  refine wp_region_any hm ?_
  refine wpAny_inv (fun listed a w => listed.size = ops.size ∧ Known ops V G a0 (fun j => listed.getD j false = true) a w) ?_ ?_ _ _ _ _ (by simp) ?_
  · rintro listed a w ⟨hs, hk⟩ hr
    exact hend a w ⟨hk.defers, hk.size, hk.fixed, fun i o d hi ho hd' => hk.vals i o d (all_listed hback hs hr i hi) ho hd', hk.world⟩
  · rintro listed i a w ⟨hs, hk⟩ hi
    obtain ⟨h1, o, ho, hdep⟩ := ready_spec hi
    have hk' : Known ops V G a0 (fun j => ∃ e ∈ o.after, e.on = j ∧ Region.binds .any e = true) a w :=
      ⟨hk.defers, hk.size, hk.fixed, fun j oj d hj hoj hd' => by
        obtain ⟨e, he, rfl, hb⟩ := hj
        exact hk.vals _ oj d (hdep e he hb) hoj hd', hk.world⟩
    obtain ⟨hw, hwp⟩ := hstep i o ho a w hk'
    unfold wpOp
    simp only [ho, hw, if_true]
    refine .inl (Oper.wp_mono ?_ hwp)
    rintro a' w' ⟨v, rfl, hv, hR, hG'⟩
    have hmem : ∀ d, o.dst = some d → d ∈ dsts ops := fun d hd' => by
      unfold dsts
      rw [List.mem_filterMap]
      exact ⟨o, Array.mem_toList_iff.2 (Array.mem_of_getElem? ho), hd'⟩
    refine ⟨by simpa using hs, ?_, ?_, ?_, ?_, hG'⟩
    · rw [← hk.defers]; cases o.dst <;> rfl
    · rw [← hk.size]; cases o.dst <;> simp [Act.put]
    · intro t ht
      rw [← hk.fixed t ht]
      cases hdo : o.dst with
      | none => rfl
      | some d => exact eval_put_other (by rintro rfl; exact ht (hmem d hdo))
    · intro j oj d hj hoj hdj
      by_cases hij : j = i
      · subst hij
        obtain rfl : oj = o := Option.some.inj (hoj.symm.trans ho)
        rw [hdj, eval_put_same (by rw [hk.size, hn]; exact of_decide_eq_true (List.all_eq_true.1 hd d (hmem d hdj)))]
        exact hv
      · have hold : listed.getD j false = true := by
          rw [Array.getD_eq_getD_getElem?, Array.getElem?_setIfInBounds_ne (fun e => hij e.symm)] at hj
          rw [Array.getD_eq_getD_getElem?]
          exact hj
        have hv' := hV j _ _ _ (hk.vals j oj d hold hoj hdj) hR
        cases hdo : o.dst with
        | none => exact hv'
        | some d' =>
          rw [eval_put_other]
          · exact hv'
          · rintro rfl
            exact hij (distinct_spec hnd hoj ho hdj hdo)
  · refine ⟨by simp, rfl, rfl, fun _ _ => rfl, ?_, hG⟩
    intro i o d hi
    rw [Array.getD_eq_getD_getElem?, Array.getElem?_replicate] at hi
    split at hi <;> simp at hi
end
end Go.Proofs.Ytbldonkfboahmaa
