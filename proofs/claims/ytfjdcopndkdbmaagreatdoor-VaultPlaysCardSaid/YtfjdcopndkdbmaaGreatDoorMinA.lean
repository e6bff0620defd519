/-
  Contracts of package mint: tries, accounts, times. No condition.
-/
import Derived.Test.YtfjdcopndkdbmaaGreatDoorMi
import Derived.Test.YtfjdcopndkdbmaaGreatDoorBas
import Derived.Test.YtfjdcopndkdbmaaGreatDoorSha
namespace Go.Proofs.YtfjdcopndkdbmaaGreatDoor
open Go.RowKit

theorem ge_seven {p : Int} (h : ¬ (p < 0 ∨ 7 ≤ p)) : p = 0 ∨ p = 1 ∨ p = 2 ∨ p = 3 ∨ p = 4 ∨ p = 5 ∨ p = 6 := by omega
theorem terms_size : (Tryz.prog.info? 126).map (·.size) = some 2 := by kernel_rfl
set_option maxHeartbeats 2000000 in
theorem terms_any (p : Int) (w : World) :
    Calls Tryz.prog 79 #[.int .i64 p] w fun e w' => e = .returned (.agg #[.int .i64 (Mi.life p), .int .i64 (Mi.tries p)]) ∧ Below w.heap.size w w' := by
  by_cases h : p < 0 ∨ 7 ≤ p
  · rw [Mi.life_none p (by omega), Mi.tries_none p (by omega)]
    by_cases h0 : p < 0
    · go_enter Tryz.func79, Tryz.ntmps79
      go_wp2_with fail
      refine bodyPost_ret (results_cell_row (P := Tryz.prog) rfl _ _ w.heap.size 126 _ (0, 0) _ rfl ((Blk.new w _ _).alloc _) Tryz.underlying126 rfl terms_size) rfl ⟨rfl, ((Below.refl _ w).alloc (Nat.le_refl _) _).alloc (by simp) _⟩
    · have h7 : 7 ≤ p := by omega
      go_enter Tryz.func79, Tryz.ntmps79
      go_wp2_with fail
      refine bodyPost_ret (results_cell_row (P := Tryz.prog) rfl _ _ w.heap.size 126 _ (0, 0) _ rfl ((Blk.new w _ _).alloc _) Tryz.underlying126 rfl terms_size) rfl ⟨rfl, ((Below.refl _ w).alloc (Nat.le_refl _) _).alloc (by simp) _⟩
  · rcases ge_seven h with rfl | rfl | rfl | rfl | rfl | rfl | rfl
    all_goals
      (clear h
       go_enter Tryz.func79, Tryz.ntmps79
       go_wp2_with fail
       refine bodyPost_ret (results_cell_row (P := Tryz.prog) rfl _ _ w.heap.size 126 _ (0, 0) _ rfl ((Blk.new w _ _).alloc _) Tryz.underlying126 rfl terms_size) rfl ⟨rfl, ((Below.refl _ w).alloc (Nat.le_refl _) _).alloc (by simp) _⟩)

theorem tries_field (x y : Int) (W : World) : (Instr.field 126 (.agg #[.int .i64 x, .int .i64 y]) 1).run Tryz.prog W = .ok (.int .i64 y) W := by
  simp [Instr.field, go_sem, asAgg]
theorem tries_any (p : Int) (w : World) :
    Calls Tryz.prog 61 #[.int .i64 p] w fun e w' => e = .returned (.int .i64 (Mi.tries p)) ∧ Below w.heap.size w w' := by
  have H := Lib.hid (terms_any p w)
  have hf := fun W => tries_field (Mi.life p) (Mi.tries p) W
  generalize Mi.life p = x at H hf
  generalize Mi.tries p = y at H hf ⊢
  go_enter Tryz.func61, Tryz.ntmps61
  go_wp2_with fail
  refine H.out.mono ?_
  rintro e w1 ⟨rfl, hb⟩
  have HB := Lib.hid hb
  clear hb H
  go_wp2_with fail
  go_ret
  exact ⟨rfl, HB.out⟩
theorem tries_pos (p : Int) : decide (0 < Mi.tries p) = decide (1 ≤ p ∧ p ≤ 6) := by
  by_cases h : 1 ≤ p ∧ p ≤ 6
  · have := Mi.tries_at p h
    rw [decide_eq_true h, decide_eq_true (by omega)]
  · rw [Mi.tries_none p (by omega), decide_eq_false h]
    decide
theorem ispurpose_any (p : Int) (w : World) :
    Calls Tryz.prog 58 #[.int .i64 p] w fun e w' => e = .returned (.bool (decide (1 ≤ p ∧ p ≤ 6))) ∧ Below w.heap.size w w' := by
  have H := Lib.hid (tries_any p w)
  rw [← tries_pos p]
  generalize Mi.tries p = y at H ⊢
  by_cases h : 0 < y
  · rw [decide_eq_true h]
    go_enter Tryz.func58, Tryz.ntmps58
    go_wp2_with fail
    refine H.out.mono ?_
    rintro e w1 ⟨rfl, hb⟩
    have HB := Lib.hid hb
    clear hb H
    go_wp2_with fail
    go_ret
    exact ⟨rfl, HB.out⟩
  · rw [decide_eq_false h]
    go_enter Tryz.func58, Tryz.ntmps58
    go_wp2_with fail
    refine H.out.mono ?_
    rintro e w1 ⟨rfl, hb⟩
    have HB := Lib.hid hb
    clear hb H
    go_wp2_with fail
    go_ret
    exact ⟨by simp [h], HB.out⟩
theorem isaccount_any (p : Int) (w : World) :
    Calls Tryz.prog 57 #[.int .i64 p] w fun e w' => e = .returned (.bool (decide (1 ≤ p ∧ p ≤ 99))) ∧ w = w' := by
  by_cases h1 : 1 ≤ p
  · by_cases h2 : p ≤ 99
    · rw [decide_eq_true ⟨h1, h2⟩]
      go_enter Tryz.func57, Tryz.ntmps57
      go_wp2_with fail
      go_ret
      exact ⟨rfl, rfl⟩
    · rw [decide_eq_false (by omega)]
      go_enter Tryz.func57, Tryz.ntmps57
      go_wp2_with fail
      go_ret
      exact ⟨rfl, rfl⟩
  · rw [decide_eq_false (by omega)]
    go_enter Tryz.func57, Tryz.ntmps57
    go_wp2_with fail
    go_ret
    exact ⟨rfl, rfl⟩
theorem istime_any (p : Int) (w : World) :
    Calls Tryz.prog 60 #[.int .i64 p] w fun e w' => e = .returned (.bool (decide (0 ≤ p ∧ p ≤ 1099511627776))) ∧ w = w' := by
  by_cases h1 : 0 ≤ p
  · by_cases h2 : p ≤ 1099511627776
    · rw [decide_eq_true ⟨h1, h2⟩]
      go_enter Tryz.func60, Tryz.ntmps60
      go_wp2_with fail
      go_ret
      exact ⟨rfl, rfl⟩
    · rw [decide_eq_false (by omega)]
      go_enter Tryz.func60, Tryz.ntmps60
      go_wp2_with fail
      go_ret
      exact ⟨rfl, rfl⟩
  · rw [decide_eq_false (by omega)]
    go_enter Tryz.func60, Tryz.ntmps60
    go_wp2_with fail
    go_ret
    exact ⟨rfl, rfl⟩
end Go.Proofs.YtfjdcopndkdbmaaGreatDoor
