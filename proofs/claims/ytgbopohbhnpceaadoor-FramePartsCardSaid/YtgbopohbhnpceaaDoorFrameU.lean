/-
  Contract of frame.Scan: the texts of the records that a text begins with, and where the last one ends. Condition: the table of crc holds what its text says; the text has at most 40000 bytes.
-/
import Derived.Test.YtgbopohbhnpceaaDoorFrameS
namespace Go.Proofs.YtgbopohbhnpceaaDoor
open Go.RowKit Go.Shelf
attribute [local go_sem] Oper.semAt_some

theorem scan_count : ∀ (n : Nat) (s : List UInt8), s.length ≤ n → (Fr.scan s).1.length ≤ (Fr.scan s).2 := by
  intro n
  induction n with
  | zero =>
    intro s hs
    have : s = [] := List.eq_nil_of_length_eq_zero (by omega)
    subst this
    rw [Fr.scan_none Fr.next_nil]
    exact Nat.le_refl _
  | succ n ih =>
    intro s hs
    cases hn : Fr.next s with
    | none => rw [Fr.scan_none hn]; exact Nat.le_refl _
    | some t =>
      have hl := Fr.next_less hn
      have h1 := ih (s.drop (t.length + 8)) (by omega)
      rw [Fr.scan_some hn]
      show (t :: (Fr.scan (s.drop (t.length + 8))).1).length ≤ (t.length + 8) + (Fr.scan (s.drop (t.length + 8))).2
      rw [List.length_cons]
      omega
theorem seqL_length (L : List UInt8) : (seqL L).length ≤ L.length := by
  have h1 := scan_count L.length L (Nat.le_refl _)
  have h2 := Fr.scan_le L.length L (Nat.le_refl _)
  unfold seqL
  rw [List.length_append, List.length_map]
  by_cases h : (Fr.scan L).2 < L.length
  · rw [if_pos h, List.length_singleton]; omega
  · rw [if_neg h, List.length_nil]; omega
/-- The sum of sizes, as the program reckons it. -/
def sumW (pre : List (ByteArray × Int)) : Int := pre.foldl (fun a x => wrap64 (a + x.2)) 0
theorem sumW_snoc (pre : List (ByteArray × Int)) (x : ByteArray × Int) : sumW (pre ++ [x]) = wrap64 (sumW pre + x.2) := by simp [sumW]
theorem sumW_from : ∀ (l : List (List UInt8)) (k : Nat), k + (l.map (fun t => t.length + 8)).sum ≤ 1000000 → (l.map enc2).foldl (fun a x => wrap64 (a + x.2)) (k : Int) = ((k + (l.map (fun t => t.length + 8)).sum : Nat) : Int)
  | [], k, _ => by simp
  | t :: l, k, h => by
    simp only [List.map_cons, List.sum_cons] at h
    have e : wrap64 ((k : Int) + (enc2 t).2) = ((k + (t.length + 8) : Nat) : Int) := by
      unfold wrap64 enc2
      omega
    simp only [List.map_cons, List.foldl_cons, List.sum_cons]
    rw [e, sumW_from l (k + (t.length + 8)) (by omega)]
    omega
theorem scan_sum : ∀ (n : Nat) (s : List UInt8), s.length ≤ n → (Fr.scan s).2 = ((Fr.scan s).1.map (fun t => t.length + 8)).sum := by
  intro n
  induction n with
  | zero =>
    intro s hs
    have : s = [] := List.eq_nil_of_length_eq_zero (by omega)
    subst this
    rw [Fr.scan_none Fr.next_nil]
    rfl
  | succ n ih =>
    intro s hs
    cases hn : Fr.next s with
    | none => rw [Fr.scan_none hn]; rfl
    | some t =>
      have hl := Fr.next_less hn
      have h1 := ih (s.drop (t.length + 8)) (by omega)
      rw [Fr.scan_some hn]
      simp only [List.map_cons, List.sum_cons]
      omega
theorem sumW_scan (L : List UInt8) (h : L.length ≤ 1000000) : sumW ((Fr.scan L).1.map enc2) = ((Fr.scan L).2 : Int) := by
  have h1 := scan_sum L.length L (Nat.le_refl _)
  have h2 := Fr.scan_le L.length L (Nat.le_refl _)
  have := sumW_from (Fr.scan L).1 0 (by omega)
  unfold sumW
  rw [show (0 : Int) = ((0 : Nat) : Int) from rfl, this, h1]
  omega
theorem enc2_ne (l : List (List UInt8)) : ∀ x ∈ l.map enc2, x.2 ≠ 0 := by
  intro x hx
  obtain ⟨t, _, rfl⟩ := List.mem_map.1 hx
  unfold enc2
  show (t.length : Int) + 8 ≠ 0
  omega
/-- All have come, and none of the size 0. -/
theorem seqL_done {L : List UInt8} (h : ∀ x ∈ seqL L, x.2 ≠ 0) : seqL L = (Fr.scan L).1.map enc2 := by
  unfold seqL at h ⊢
  by_cases hc : (Fr.scan L).2 < L.length
  · rw [if_pos hc] at h
    exact absurd rfl (h ((⟨#[]⟩ : ByteArray), (0 : Int)) (by simp))
  · rw [if_neg hc, List.append_nil]
/-- One of the size 0 has come. -/
theorem seqL_stop {L : List UInt8} {q : List (ByteArray × Int)} {x : ByteArray × Int} (_hq : ∀ y ∈ q, y.2 ≠ 0) (hx : x.2 = 0) (h : q ++ [x] <+: seqL L) : q = (Fr.scan L).1.map enc2 := by
  obtain ⟨r, hr⟩ := h
  unfold seqL at hr
  have hn := enc2_ne (Fr.scan L).1
  generalize (Fr.scan L).1.map enc2 = A at hr hn ⊢
  generalize hB : (if (Fr.scan L).2 < L.length then [((⟨#[]⟩ : ByteArray), (0 : Int))] else []) = B at hr
  have hBl : B.length ≤ 1 := by rw [← hB]; split <;> simp
  have hlen := congrArg List.length hr
  simp only [List.length_append, List.length_cons, List.length_nil] at hlen
  rcases Nat.lt_or_ge q.length A.length with hlt | hge
  · exfalso
    have h1 : (q ++ [x] ++ r)[q.length]? = some x := by simp
    rw [hr, List.getElem?_append_left hlt] at h1
    exact hn x (List.mem_of_getElem? h1) hx
  · have : q.length = A.length := by omega
    rw [List.append_assoc] at hr
    exact (List.append_inj hr this).1
theorem cs_enc2 (l : List (List UInt8)) : (l.map enc2).map (fun x => Value.string x.1) = cs (l.map ba) := by simp [cs, enc2, List.map_map, Function.comp_def]

def strs (pre : List (ByteArray × Int)) : List Value := pre.map (fun x => Value.string x.1)
theorem strs_snoc (pre : List (ByteArray × Int)) (x : ByteArray × Int) : strs (pre ++ [x]) = strs pre ++ [.string x.1] := by simp [strs]
theorem strs_length (pre : List (ByteArray × Int)) : (strs pre).length = pre.length := by simp [strs]
/-- What stands in Scan's two variables. -/
def ScanI (w : World) (pre : List (ByteArray × Int)) (W : World) : Prop := (∃ v, Boxed W w.heap.size 22 v ∧ W.ownsRow w.heap.size 9 1 v pre.length (strs pre) ∧ True) ∧ Boxed W (w.heap.size + 1) 3 (.int .i64 (sumW pre)) ∧ (∀ x ∈ pre, x.2 ≠ 0)
theorem scanI_own (w : World) (B : Nat) : OwnFrom B (ScanI w) :=
  OwnFrom.and (I := fun pre W => ∃ v, Boxed W w.heap.size 22 v ∧ W.ownsRow w.heap.size 9 1 v pre.length (strs pre) ∧ True) (I' := fun pre W => Boxed W (w.heap.size + 1) 3 (.int .i64 (sumW pre)) ∧ (∀ x ∈ pre, x.2 ≠ 0))
    (Own.from (holdsRow_own w.heap.size w.heap.size 22 9 1 (fun pre : List (ByteArray × Int) => pre.length) (fun pre => strs pre) (fun _ _ => True)) _)
    (OwnFrom.and (I := fun pre W => Boxed W (w.heap.size + 1) 3 (.int .i64 (sumW pre))) (Own.from (boxed_own _ _ (fun pre => .int .i64 (sumW pre))) _) (ownFrom_pure _ (fun pre : List (ByteArray × Int) => ∀ x ∈ pre, x.2 ≠ 0)))

set_option maxRecDepth 100000 in
set_option maxHeartbeats 4000000 in
theorem scan_wide (n : Nat) (hn : 3 ≤ n) (s : ByteArray) (hs : s.size ≤ 40000) (w : World) (hT : Tab w) :
    CallsIn Fence.wide n Tryd.prog 17 #[.string s] w fun e W' => ∃ v, e = .returned (.tuple #[v, .int .i64 ((Fr.scan s.data.toList).2 : Int)]) ∧ W'.ownsRow w.heap.size 9 1 v (Fr.scan s.data.toList).1.length (cs ((Fr.scan s.data.toList).1.map ba)) ∧ Below w.heap.size w W' := by
  have h1 : 1 ≤ n := by omega
  obtain ⟨i0, hi, hz0, hz1, hz2⟩ := info_str
  have hlen : (seqL s.data.toList).length ≤ 40000 := by have := seqL_length s.data.toList; rw [size_list] at this; omega
  refine callsIn_of_wp_marks Tryd.func17 rfl trivial ?_ rfl
  simp only [Tryd.ntmps17, List.size_toArray, List.length_cons, List.length_nil, Nat.reduceAdd, Nat.reduceSub, Array.replicate_succ, Array.replicate_zero, List.push_toArray, List.append_toArray, List.nil_append, List.cons_append]
  gi_wp2_with fail
  refine wpIn_wide.2 (wp_scope_straight ((wpIn_wide (n := n)).1 ?_))
  gi_wp2_with fail
  refine wpIn_label ?_
  gi_wp2_with (refine ⟨trivial, ?_⟩; gi_at_call 28; refine (pieces_in _ s _).mono ?_; rintro e w' ⟨rfl, rfl⟩)
  have bO := Boxed.new w 22 (.slice none 0 0)
  have bN := Boxed.new (w.alloc (.cells #[.slice none 0 0] 22)) 3 (.int .i64 0)
  have bP := Boxed.new ((w.alloc (.cells #[.slice none 0 0] 22)).alloc (.cells #[.int .i64 0] 3)) 9 (.string s)
  simp only [World.size_alloc] at bN bP
  have hB0 : Below w.heap.size w (((w.alloc (.cells #[.slice none 0 0] 22)).alloc (.cells #[.int .i64 0] 3)).alloc (.cells #[.string s] 9)) := (((Below.refl _ w).alloc (Nat.le_refl _) _).alloc (by simp) _).alloc (by simp; omega) _
  refine wpIn_rangeFunc_ownG rfl h1 (gf := 32) (lb := #[.pointer (some ⟨w.heap.size + 1 + 1, 0, none⟩)]) rfl trivial (enters_of Tryd.func32 (by kernel_rfl) rfl)
    (pieces_stops (n - 1) (w.heap.size + 1 + 1) w.heap.size s hs hT.lt _ (by simp) (by simp; omega) bP.cell (hT.below hB0 hT.lt)) belowK_t (belowK_b (by simp; omega)) (Below.refl _ _) (fun _ => rfl)
    (fun pre W => ScanI w pre W ∧ Below w.heap.size w W)
    (fun c pre W => (c = .exit 0 ∧ ∃ q x, pre = q ++ [x] ∧ x.2 = 0 ∧ ScanI w q W) ∧ Below w.heap.size w W)
    (OwnFrom.and (scanI_own w _) (ownFrom_below (Nat.le_refl _) (by simp; omega)))
    (fun c => OwnFrom.and (fun pre X Y row hp hg hr => by
      obtain ⟨rfl, q, x, e1, e2, hI⟩ := hp
      exact ⟨rfl, q, x, e1, e2, scanI_own w _ q X Y row hI hg hr⟩) (ownFrom_below (Nat.le_refl _) (by simp; omega)))
    ⟨⟨⟨_, (bO.alloc _).alloc _, World.ownsRow_nil _ _ _ _, trivial⟩, bN.alloc _, by simp⟩, hB0⟩
    (fun x => { tmps := #[.string s, undef, .slice none 0 0, .int .i64 0, .pointer (some ⟨w.heap.size, 0, none⟩), .pointer (some ⟨w.heap.size + 1, 0, none⟩), .string x.1, .int .i64 x.2, .string s, .func (.func 32) #[] #[.pointer (some ⟨w.heap.size + 1 + 1, 0, none⟩)], .string x.1, .int .i64 x.2, undef, undef, undef, undef, undef, undef, undef, undef, undef, undef, undef], defers := [] }) ?assign ?body ?done ?stop
  case assign =>
    intro l x W K hK
    gi_wp2
    exact hK
  case body =>
    rintro l pre x W ⟨⟨⟨v, hv, hrow, _⟩, hn2, hne⟩, hB⟩ hlt
    have hc := hv.cell
    have hc2 := hn2.cell
    by_cases hx : x.2 = 0
    · gi_wp2
      exact ⟨KeepsFrom.refl _ _, ⟨rfl, pre, x, rfl, hx, ⟨v, hv, hrow, trivial⟩, hn2, hne⟩, hB⟩
    · gi_wp2_with (gi_at_builtin; refine wpListIn_append_own _ rfl _ _ 22 rfl w.heap.size 9 i0 (.string ⟨#[]⟩) 1 16 Tryd.underlying22 hi hz0 hz1 hz2 rfl (by decide) _ _ _ rfl (hrow.alloc _) ⟨W.heap.size, 0, none⟩ 1 1 [.string x.1] rfl rfl (cell_one_new _ _ _) (by simp [Value.oneCell']) (by unfold maxLen; omega) (by omega) (by have := hB.size; simp; omega) ?_; intro v' w1 hown' hgrow _; obtain ⟨g', cap', rfl⟩ := ownsRow_succ hown'; have hm1 := (hn2.alloc _).kept hgrow (hn2.not_row (by decide) hrow); obtain ⟨hv1, hv2, hr2, hk2, hb2⟩ := hv.appended (by decide) hrow hB.size (Nat.le_refl _) hown' hgrow; have hc1 := hv1.cell; have hf1 := hv1.frozen; have hm2 := hm1.other (B' := w.heap.size) (by omega) (.slice (some ⟨g', 0, none⟩) (pre.length + 1) cap'); have hd1 := hm2.cell; have hd2 := hm2.frozen)
      exact ⟨(hk2.trans (KeepsOthers.setCell _ _ _)).from _, hb2.setCell (p := ⟨w.heap.size + 1, 0, none⟩) (by show w.heap.size ≤ w.heap.size + 1; omega) _,
        ⟨⟨_, hv2.other (by omega) _, by rw [strs_snoc, List.length_append]; exact hr2.kept (grownBy_setCell' _ _ _) (.inr (hm2.not_row (by decide) hr2).symm), trivial⟩, by rw [sumW_snoc]; exact hm2.set _, fun y hy => (List.mem_append.1 hy).elim (hne y) (fun e => by simp at e; subst e; exact hx)⟩,
        hB.trans (hb2.setCell (p := ⟨w.heap.size + 1, 0, none⟩) (by show w.heap.size ≤ w.heap.size + 1; omega) _)⟩
  case done =>
    rintro D ys W hD hys ⟨⟨⟨v, hv, hrow, _⟩, hn2, hne⟩, hB⟩ hK
    have hq : ys = (Fr.scan s.data.toList).1.map enc2 := by rw [hys]; exact seqL_done (by rw [← hys]; exact hne)
    subst hq
    clear hys
    have hc := hv.cell
    have hc2 := hn2.cell
    obtain ⟨A, c, rfl⟩ := own_form hrow
    gi_wp2
    gi_quiet (fail)
    have hK' : (W.drewN nq).heap[D]? = some (.deferred (some [])) := hK
    gi_wp2
    refine ⟨by simp, .inl ⟨_, _, rfl, run_takeDeferred hK', ?_⟩⟩
    refine ⟨.tuple #[.slice A ((Fr.scan s.data.toList).1.map enc2).length c, .int .i64 (sumW ((Fr.scan s.data.toList).1.map enc2))], by simp [results, Tryd.f17, go_sem], .slice A ((Fr.scan s.data.toList).1.map enc2).length c, ?_, ?_, ?_⟩
    · rw [sumW_scan _ (by rw [size_list]; omega)]
    · have hr := ownsRow_putObj hrow (.deferred none) hK rfl
      unfold strs at hr
      rw [cs_enc2, List.length_map] at hr
      rw [List.length_map]
      exact hr
    · exact (below_drewN hB nq).trans (belowK_b (w := w) (Nat.le_refl _) (W.drewN nq) D _ _ (by simp at hD; omega) hK' rfl rfl)
  case stop =>
    rintro D c pre W hD hpre ⟨⟨rfl, q, x, rfl, hx, ⟨v, hv, hrow, _⟩, hn2, hne⟩, hB⟩ hK
    have hq := seqL_stop hne hx hpre
    subst hq
    clear hpre
    have hc := hv.cell
    have hc2 := hn2.cell
    obtain ⟨A, c, rfl⟩ := own_form hrow
    gi_wp2
    gi_quiet (fail)
    have hK' : (W.drewN nq).heap[D]? = some (.deferred (some [])) := hK
    gi_wp2
    refine ⟨by simp, .inl ⟨_, _, rfl, run_takeDeferred hK', ?_⟩⟩
    refine ⟨.tuple #[.slice A ((Fr.scan s.data.toList).1.map enc2).length c, .int .i64 (sumW ((Fr.scan s.data.toList).1.map enc2))], by simp [results, Tryd.f17, go_sem], .slice A ((Fr.scan s.data.toList).1.map enc2).length c, ?_, ?_, ?_⟩
    · rw [sumW_scan _ (by rw [size_list]; omega)]
    · have hr := ownsRow_putObj hrow (.deferred none) hK rfl
      unfold strs at hr
      rw [cs_enc2, List.length_map] at hr
      rw [List.length_map]
      exact hr
    · exact (below_drewN hB nq).trans (belowK_b (w := w) (Nat.le_refl _) (W.drewN nq) D _ _ (by simp at hD; omega) hK' rfl rfl)

/-- What Scan answers: texts that lie in memory, and where they end. -/
theorem scan_any (s : ByteArray) (hs : s.size ≤ 40000) (w : World) (hT : Tab w) :
    Calls Tryd.prog 17 #[.string s] w fun e w' => ∃ A c, e = .returned (.tuple #[.slice A (Fr.scan s.data.toList).1.length c, .int .i64 ((Fr.scan s.data.toList).2 : Int)]) ∧ Lies (fun _ => False) w' A (cs ((Fr.scan s.data.toList).1.map ba)) ∧ Below w.heap.size w w' := by
  refine ((callsIn_wide (n := 3)).1 (scan_wide 3 (Nat.le_refl _) s hs w hT)).mono ?_
  rintro e w' ⟨v, rfl, hrow, hb⟩
  obtain ⟨A, c, rfl⟩ := own_form hrow
  exact ⟨A, c, rfl, Lies.own hrow (fun _ _ _ h => h), hb⟩
end Go.Proofs.YtgbopohbhnpceaaDoor
