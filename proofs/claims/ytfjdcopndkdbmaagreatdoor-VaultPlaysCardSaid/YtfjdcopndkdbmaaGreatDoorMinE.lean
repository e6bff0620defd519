/-
  Contract of the document's own Right (layer 10). Condition: texts of 50000 bytes at most.
-/
import Derived.Test.YtfjdcopndkdbmaaGreatDoorMinV
import Derived.Test.YtfjdcopndkdbmaaGreatDoorMinR
import Derived.Test.YtfjdcopndkdbmaaGreatDoorAdr
import Derived.BigQuiet
namespace Go.Proofs.YtfjdcopndkdbmaaGreatDoor
open Go.RowKit

set_option maxRecDepth 100000 in
set_option maxHeartbeats 8000000 in
theorem rright_any (D : ByteArray) (a p : Int) (c : ByteArray) (e0 t0 : Int) (hc : c.size ≤ 50000) (w : World) :
    Calls Tryz.prog 56 #[.agg (secV D a p c e0 t0)] w fun e w' => e = .returned (.bool (rightB D a p c e0 t0)) ∧ Below w.heap.size w w' := by
  unfold rightB secV
  have HK := Lib.hid (fun W => rkind_any c (by omega) W)
  have HTR := Lib.hid (fun W => (rtries_any p W).mono fun e w' h => (⟨h.1, h.2.symm⟩ : e = .returned (.int .i64 (Mi.tries p)) ∧ w' = W))
  generalize Mi.tries p = tr at HTR ⊢
  generalize Ad.kind c.data.toList = kd at HK ⊢
  obtain ⟨RB, hRB⟩ : ∃ RB, (decide (D.size = 32) && decide (1 ≤ a ∧ a ≤ 99) && decide (1 ≤ p ∧ p ≤ 6) && !(kd == 0) && decide (0 ≤ e0 ∧ e0 ≤ 1099511627776) && decide (1 ≤ t0 ∧ t0 ≤ tr)) = RB := ⟨_, rfl⟩
  rw [hRB]
  have HRB := Lib.hid hRB
  clear hRB
  by_cases g32 : D.size = 32
  · have b0 : ((D.size : Int) == 32) = true := by simpa using (show (D.size : Int) = 32 by omega)
    by_cases ga1 : 1 ≤ a
    · have b1 : decide (1 ≤ a) = true := decide_eq_true ga1
      by_cases ga2 : a ≤ 99
      · have b2 : decide (a ≤ 99) = true := decide_eq_true ga2
        by_cases gp1 : 1 ≤ p
        · have b3 : decide (1 ≤ p) = true := decide_eq_true gp1
          by_cases gp2 : p ≤ 6
          · have b4 : decide (p ≤ 6) = true := decide_eq_true gp2
            by_cases gk : ¬ kd = 0
            · have b5 : ((kd : Int) != 0) = true := by simpa using gk
              by_cases ge1 : 0 ≤ e0
              · have b6 : decide (0 ≤ e0) = true := decide_eq_true ge1
                by_cases ge2 : e0 ≤ 1099511627776
                · have b7 : decide (e0 ≤ 1099511627776) = true := decide_eq_true ge2
                  by_cases gt1 : 1 ≤ t0
                  · have b8 : decide (1 ≤ t0) = true := decide_eq_true gt1
                    by_cases gt2 : t0 ≤ tr
                    · have b9 : decide (t0 ≤ tr) = true := decide_eq_true gt2
                      have HV : RB = true := by rw [← HRB.out, decide_eq_true g32, decide_eq_true (show 1 ≤ a ∧ a ≤ 99 from ⟨ga1, ga2⟩), decide_eq_true (show 1 ≤ p ∧ p ≤ 6 from ⟨gp1, gp2⟩), decide_eq_true (show 0 ≤ e0 ∧ e0 ≤ 1099511627776 from ⟨ge1, ge2⟩), decide_eq_true (show 1 ≤ t0 ∧ t0 ≤ tr from ⟨gt1, gt2⟩), show (kd == 0) = false by simpa using gk]; rfl
                      clear g32 ga1 ga2 gp1 gp2 gk ge1 ge2 gt1 gt2
                      go_enter Tryz.func56, Tryz.ntmps56
                      go_wp2_with fail
                      go_big_quiet (first | exact Calls.quiet_of_same (HK.out _) | exact Calls.quiet_of_same (HTR.out _))
                      go_wp2_with fail
                      go_ret
                      exact ⟨congrArg (fun z => Ending.returned (.bool z)) HV.symm, below_drewN ((Below.refl _ w).alloc (Nat.le_refl _) _) _⟩
                    · have HV : RB = false := by rw [← HRB.out, decide_eq_false (show ¬ (1 ≤ t0 ∧ t0 ≤ tr) by omega)]; simp
                      have b9 : decide (t0 ≤ tr) = false := decide_eq_false gt2
                      clear g32 ga1 ga2 gp1 gp2 gk ge1 ge2 gt1 gt2
                      go_enter Tryz.func56, Tryz.ntmps56
                      go_wp2_with fail
                      go_big_quiet (first | exact Calls.quiet_of_same (HK.out _) | exact Calls.quiet_of_same (HTR.out _))
                      go_wp2_with fail
                      go_ret
                      exact ⟨congrArg (fun z => Ending.returned (.bool z)) HV.symm, below_drewN ((Below.refl _ w).alloc (Nat.le_refl _) _) _⟩
                  · have HV : RB = false := by rw [← HRB.out, decide_eq_false (show ¬ (1 ≤ t0 ∧ t0 ≤ tr) by omega)]; simp
                    have b8 : decide (1 ≤ t0) = false := decide_eq_false gt1
                    clear g32 ga1 ga2 gp1 gp2 gk ge1 ge2 gt1
                    go_enter Tryz.func56, Tryz.ntmps56
                    go_wp2_with fail
                    go_big_quiet (first | exact Calls.quiet_of_same (HK.out _) | exact Calls.quiet_of_same (HTR.out _))
                    go_wp2_with fail
                    go_ret
                    exact ⟨congrArg (fun z => Ending.returned (.bool z)) HV.symm, below_drewN ((Below.refl _ w).alloc (Nat.le_refl _) _) _⟩
                · have HV : RB = false := by rw [← HRB.out, decide_eq_false (show ¬ (0 ≤ e0 ∧ e0 ≤ 1099511627776) by omega)]; simp
                  have b7 : decide (e0 ≤ 1099511627776) = false := decide_eq_false ge2
                  clear g32 ga1 ga2 gp1 gp2 gk ge1 ge2
                  go_enter Tryz.func56, Tryz.ntmps56
                  go_wp2_with fail
                  go_big_quiet (first | exact Calls.quiet_of_same (HK.out _) | exact Calls.quiet_of_same (HTR.out _))
                  go_wp2_with fail
                  go_ret
                  exact ⟨congrArg (fun z => Ending.returned (.bool z)) HV.symm, below_drewN ((Below.refl _ w).alloc (Nat.le_refl _) _) _⟩
              · have HV : RB = false := by rw [← HRB.out, decide_eq_false (show ¬ (0 ≤ e0 ∧ e0 ≤ 1099511627776) by omega)]; simp
                have b6 : decide (0 ≤ e0) = false := decide_eq_false ge1
                clear g32 ga1 ga2 gp1 gp2 gk ge1
                go_enter Tryz.func56, Tryz.ntmps56
                go_wp2_with fail
                go_big_quiet (first | exact Calls.quiet_of_same (HK.out _) | exact Calls.quiet_of_same (HTR.out _))
                go_wp2_with fail
                go_ret
                exact ⟨congrArg (fun z => Ending.returned (.bool z)) HV.symm, below_drewN ((Below.refl _ w).alloc (Nat.le_refl _) _) _⟩
            · have hk0 : kd = 0 := by omega
              subst hk0
              have HV : RB = false := by rw [← HRB.out]; simp
              have b5 : (((0 : Nat) : Int) != 0) = false := rfl
              clear g32 ga1 ga2 gp1 gp2
              go_enter Tryz.func56, Tryz.ntmps56
              go_wp2_with fail
              go_big_quiet (first | exact Calls.quiet_of_same (HK.out _) | exact Calls.quiet_of_same (HTR.out _))
              go_wp2_with fail
              go_ret
              exact ⟨congrArg (fun z => Ending.returned (.bool z)) HV.symm, below_drewN ((Below.refl _ w).alloc (Nat.le_refl _) _) _⟩
          · have HV : RB = false := by rw [← HRB.out, decide_eq_false (show ¬ (1 ≤ p ∧ p ≤ 6) by omega)]; simp
            have b4 : decide (p ≤ 6) = false := decide_eq_false gp2
            clear g32 ga1 ga2 gp1 gp2
            go_enter Tryz.func56, Tryz.ntmps56
            go_wp2_with fail
            go_big_quiet (first | exact Calls.quiet_of_same (HK.out _) | exact Calls.quiet_of_same (HTR.out _))
            go_wp2_with fail
            go_ret
            exact ⟨congrArg (fun z => Ending.returned (.bool z)) HV.symm, below_drewN ((Below.refl _ w).alloc (Nat.le_refl _) _) _⟩
        · have HV : RB = false := by rw [← HRB.out, decide_eq_false (show ¬ (1 ≤ p ∧ p ≤ 6) by omega)]; simp
          have b3 : decide (1 ≤ p) = false := decide_eq_false gp1
          clear g32 ga1 ga2 gp1
          go_enter Tryz.func56, Tryz.ntmps56
          go_wp2_with fail
          go_big_quiet (first | exact Calls.quiet_of_same (HK.out _) | exact Calls.quiet_of_same (HTR.out _))
          go_wp2_with fail
          go_ret
          exact ⟨congrArg (fun z => Ending.returned (.bool z)) HV.symm, below_drewN ((Below.refl _ w).alloc (Nat.le_refl _) _) _⟩
      · have HV : RB = false := by rw [← HRB.out, decide_eq_false (show ¬ (1 ≤ a ∧ a ≤ 99) by omega)]; simp
        have b2 : decide (a ≤ 99) = false := decide_eq_false ga2
        clear g32 ga1 ga2
        go_enter Tryz.func56, Tryz.ntmps56
        go_wp2_with fail
        go_big_quiet (first | exact Calls.quiet_of_same (HK.out _) | exact Calls.quiet_of_same (HTR.out _))
        go_wp2_with fail
        go_ret
        exact ⟨congrArg (fun z => Ending.returned (.bool z)) HV.symm, below_drewN ((Below.refl _ w).alloc (Nat.le_refl _) _) _⟩
    · have HV : RB = false := by rw [← HRB.out, decide_eq_false (show ¬ (1 ≤ a ∧ a ≤ 99) by omega)]; simp
      have b1 : decide (1 ≤ a) = false := decide_eq_false ga1
      clear g32 ga1
      go_enter Tryz.func56, Tryz.ntmps56
      go_wp2_with fail
      go_big_quiet (first | exact Calls.quiet_of_same (HK.out _) | exact Calls.quiet_of_same (HTR.out _))
      go_wp2_with fail
      go_ret
      exact ⟨congrArg (fun z => Ending.returned (.bool z)) HV.symm, below_drewN ((Below.refl _ w).alloc (Nat.le_refl _) _) _⟩
  · have HV : RB = false := by rw [← HRB.out, decide_eq_false (show ¬ (D.size = 32) by omega)]; simp
    have b0 : ((D.size : Int) == 32) = false := by simpa using (show ¬ (D.size : Int) = 32 by omega)
    clear g32
    go_enter Tryz.func56, Tryz.ntmps56
    go_wp2_with fail
    go_big_quiet (first | exact Calls.quiet_of_same (HK.out _) | exact Calls.quiet_of_same (HTR.out _))
    go_wp2_with fail
    go_ret
    exact ⟨congrArg (fun z => Ending.returned (.bool z)) HV.symm, below_drewN ((Below.refl _ w).alloc (Nat.le_refl _) _) _⟩
end Go.Proofs.YtfjdcopndkdbmaaGreatDoor
