/-
  BucketWaits: behind the wait there is one left, ahead of it there is none. No condition.
-/
import Derived.Test.YtbldonkfboahmaaBcZ
import Derived.Test.YtbldonkfboahmaaTkT
namespace Go.Proofs.Ytbldonkfboahmaa.bucketWaits
open Go.ChangeShapes Go.WideShapes Go.ChangeAt Go.RowKit
open Go.ChangeMaps (open_string shut_string)


set_option maxRecDepth 100000 in
set_option maxHeartbeats 8000000 in
theorem walk (A : Option Addr) (cp : Nat) (l : List (Int × Int)) (hcp : l.length ≤ cp) (q0 q1 : Int) (w : World) (hA : Prs w A l) :
    Calls Try.prog 6 #[.slice A l.length cp, .agg #[.int .i64 q0, .int .i64 q1]] w fun e w' => e = .returned (.bool true) ∧ Below w.heap.size w w' := by
  have HA := Lib.hid hA
  clear hA
  obtain ⟨kx, hkx⟩ : ∃ k, kix q0 = k := ⟨_, rfl⟩
  have ha := and255 q1
  have hlo := lo_lt q1 256 (by decide)
  obtain ⟨t, ht⟩ : ∃ t, lo q1 256 = t := ⟨_, rfl⟩
  rw [ht] at ha hlo
  obtain ⟨now, hnow⟩ : ∃ n, 127 + t = n := ⟨_, rfl⟩
  have hv0 : IntKind.i64.wrap (127 + (t : Int)) = (now : Int) := by rw [IntKind.wrap_i64]; omega
  have hb0 : Below w.heap.size w (w.alloc (.cells #[.int .i64 q0, .int .i64 q1] 44)) := (Below.refl _ w).alloc (Nat.le_refl _) _
  have HBX := Lib.hid (Blk.new w 44 #[.int .i64 q0, .int .i64 q1])
  clear ht
  by_cases h24 : l.length ≤ 24
  · have HLL : Hid (l.length ≤ 24) := Lib.hid (by omega)
    have hlen := HLL.out
    have HR := Lib.hid (fun W hW => rows_few A cp l HLL.out W (HA.out.below (w := W) hW))
    have hgd := rows_gd l l.length HLL.out
    have hat : ∀ b ∈ rowsK l l.length, b.at_ ≤ now := fun b hb => by have := rows_at hb; omega
    obtain ⟨RL, hRL⟩ : ∃ RL, rowsK l l.length = RL := ⟨_, rfl⟩
    rw [hRL] at HR hgd hat
    have hwl := Bk.wait_le RL (keyS kx) now hat
    obtain ⟨e1, e2, e3⟩ := Bk.wait_ends RL (keyS kx) now
    obtain ⟨wt, hwt⟩ : ∃ x, Bk.wait RL (keyS kx) now = x := ⟨_, rfl⟩
    rw [hwt] at hwl e1 e2 e3
    obtain ⟨m0, hm0⟩ : ∃ x, Bk.left RL (keyS kx) now = x := ⟨_, rfl⟩
    obtain ⟨m1, hm1⟩ : ∃ x, Bk.left RL (keyS kx) (now + wt) = x := ⟨_, rfl⟩
    rw [hm0] at e3
    rw [hm1] at e1
    have HW : Hid (∀ A' c' W, RL.length ≤ c' → Lies (fun _ => False) W A' (bus (M RL)) → Calls Try.prog 24 #[.slice A' RL.length c', .string (keyS kx), .int .i64 (now : Int)] W fun e w' => e = .returned (.int .i64 (wt : Int)) ∧ Below W.heap.size W w') := Lib.hid (fun A' c' W hc hL => by
      have h := Wait_any A' c' RL hgd.vl (keyS kx) now (by omega) W hL
      rw [hwt] at h
      exact h)
    have HL0 : Hid (∀ A' c' W, Lies (fun _ => False) W A' (bus (M RL)) → Calls Try.prog 22 #[.slice A' RL.length c', .string (keyS kx), .int .i64 (now : Int)] W fun e w' => e = .returned (.int .i64 (m0 : Int)) ∧ Below W.heap.size W w') := Lib.hid (fun A' c' W hL => by
      have h := Left_any A' c' RL hgd.vl (keyS kx) now (by omega) W hL
      rw [hm0] at h
      exact h)
    obtain ⟨nw, hnw⟩ : ∃ x, now + wt = x := ⟨_, rfl⟩
    rw [hnw] at hm1
    have HL1 : Hid (∀ A' c' W, Lies (fun _ => False) W A' (bus (M RL)) → Calls Try.prog 22 #[.slice A' RL.length c', .string (keyS kx), .int .i64 (nw : Int)] W fun e w' => e = .returned (.int .i64 (m1 : Int)) ∧ Below W.heap.size W w') := Lib.hid (fun A' c' W hL => by
      have h := Left_any A' c' RL hgd.vl (keyS kx) nw (by omega) W hL
      rw [hm1] at h
      exact h)
    have hv1 : IntKind.i64.wrap ((now : Int) + (wt : Int)) = (nw : Int) := by rw [IntKind.wrap_i64]; omega
    have hc1 : ¬ ((wt : Int) < 0) := by omega
    have hc2 : ¬ ((wt : Int) > 25) := by omega
    have hc3 : ¬ ((m1 : Int) < 1) := by omega
    have HB0 := Lib.hid hb0
    have hgl : ¬ ((l.length : Int) > 24) := by omega
    clear hRL hm1 hat hb0 e1
    by_cases hz : wt = 0
    · have hm : 1 ≤ m0 := e3.1 hz
      have hd1 : ((wt : Int) == 0) = true := beq_iff_eq.2 (by omega)
      have hd2 : ((m0 : Int) > 0) := by omega
      have HZ := Lib.hid hz
      clear e2 e3 hz hwt hnw hgd hm0 HLL
      go_enter Try.func6, Try.ntmps6
      go_wp2_with fail
      refine (awake_any _).mono ?_
      rintro e w1 ⟨rfl, hb1⟩
      have HB1 := Lib.hid (HB0.out.trans (hb1.mono HB0.out.size))
      have t0 := (HBX.out.of (hb1.block _ HBX.out.lt))
      have HT1 := Lib.hid t0
      clear hb1 t0
      go_wp2_with fail
      refine (HR.out w1 HB1.out).mono ?_
      rintro e w2 ⟨⟨A2, c2, rfl, hc2, hL2⟩, hb2⟩
      have HB2 := Lib.hid (HB1.out.trans (hb2.mono HB1.out.size))
      have HT2 := Lib.hid (HT1.out.of (hb2.block _ HT1.out.lt))
      have HL2' := Lib.hid hL2
      have x0 := (HT2.out.cell 0).trans rfl
      have x1 := (HT2.out.cell 1).trans rfl
      clear hb2 hL2
      go_wp2_with fail
      refine (key_any q0 w2).mono ?_
      rintro e w2' ⟨rfl, rfl⟩
      simp only [hkx]
      clear x0 x1
      go_wp2_with fail
      refine (HW.out A2 c2 w2 hc2 HL2'.out).mono ?_
      rintro e w3 ⟨rfl, hb3⟩
      have HB3 := Lib.hid (HB2.out.trans (hb3.mono HB2.out.size))
      have HL3 := Lib.hid (HL2'.out.below hb3)
      clear hb3
      go_wp2_with fail
      refine (HL0.out A2 c2 w3 HL3.out).mono ?_
      rintro e w5 ⟨rfl, hb5⟩
      have HB5 := Lib.hid (HB3.out.trans (hb5.mono HB3.out.size))
      have HL5 := Lib.hid (HL3.out.below hb5)
      clear hb5
      go_wp2_with fail
      refine (HL1.out A2 c2 w5 HL5.out).mono ?_
      rintro e w6 ⟨rfl, hb6⟩
      have HB6 := Lib.hid (HB5.out.trans (hb6.mono HB5.out.size))
      have HL6 := Lib.hid (HL5.out.below hb6)
      clear hb6
      go_wp2_with fail
      go_ret
      exact ⟨rfl, HB6.out⟩
    · have hm : m0 = 0 := by
        rcases Nat.eq_zero_or_pos m0 with h | h
        · exact h
        · exact absurd (e3.2 h) hz
      obtain ⟨d, hd⟩ : ∃ d, wt - 1 = d := ⟨_, rfl⟩
      obtain ⟨nx, hnx⟩ : ∃ x, now + d = x := ⟨_, rfl⟩
      have hz2 := e2 d (by omega)
      rw [hnx] at hz2
      have HL2 : Hid (∀ A' c' W, Lies (fun _ => False) W A' (bus (M RL)) → Calls Try.prog 22 #[.slice A' RL.length c', .string (keyS kx), .int .i64 (nx : Int)] W fun e w' => e = .returned (.int .i64 0) ∧ Below W.heap.size W w') := Lib.hid (fun A' c' W hL => by
        have h := Left_any A' c' RL hgd.vl (keyS kx) nx (by omega) W hL
        rw [hz2] at h
        exact h)
      have hv2 : IntKind.i64.wrap ((nw : Int) - 1) = (nx : Int) := by rw [IntKind.wrap_i64]; omega
      have hd1 : ((wt : Int) == 0) = false := beq_eq_false_iff_ne.2 (by omega)
      have hd2 : ¬ ((m0 : Int) > 0) := by omega
      clear e2 e3 hz hwt hnw hgd hm0 HLL hd hnx hz2 hm
      go_enter Try.func6, Try.ntmps6
      go_wp2_with fail
      refine (awake_any _).mono ?_
      rintro e w1 ⟨rfl, hb1⟩
      have HB1 := Lib.hid (HB0.out.trans (hb1.mono HB0.out.size))
      have t0 := (HBX.out.of (hb1.block _ HBX.out.lt))
      have HT1 := Lib.hid t0
      clear hb1 t0
      go_wp2_with fail
      refine (HR.out w1 HB1.out).mono ?_
      rintro e w2 ⟨⟨A2, c2, rfl, hc2, hL2⟩, hb2⟩
      have HB2 := Lib.hid (HB1.out.trans (hb2.mono HB1.out.size))
      have HT2 := Lib.hid (HT1.out.of (hb2.block _ HT1.out.lt))
      have HL2' := Lib.hid hL2
      have x0 := (HT2.out.cell 0).trans rfl
      have x1 := (HT2.out.cell 1).trans rfl
      clear hb2 hL2
      go_wp2_with fail
      refine (key_any q0 w2).mono ?_
      rintro e w2' ⟨rfl, rfl⟩
      simp only [hkx]
      clear x0 x1
      go_wp2_with fail
      refine (HW.out A2 c2 w2 hc2 HL2'.out).mono ?_
      rintro e w3 ⟨rfl, hb3⟩
      have HB3 := Lib.hid (HB2.out.trans (hb3.mono HB2.out.size))
      have HL3 := Lib.hid (HL2'.out.below hb3)
      clear hb3
      go_wp2_with fail
      refine (HL0.out A2 c2 w3 HL3.out).mono ?_
      rintro e w5 ⟨rfl, hb5⟩
      have HB5 := Lib.hid (HB3.out.trans (hb5.mono HB3.out.size))
      have HL5 := Lib.hid (HL3.out.below hb5)
      clear hb5
      go_wp2_with fail
      refine (HL1.out A2 c2 w5 HL5.out).mono ?_
      rintro e w6 ⟨rfl, hb6⟩
      have HB6 := Lib.hid (HB5.out.trans (hb6.mono HB5.out.size))
      have HL6 := Lib.hid (HL5.out.below hb6)
      clear hb6
      go_wp2_with fail
      refine (HL2.out A2 c2 w6 HL6.out).mono ?_
      rintro e w7 ⟨rfl, hb7⟩
      have HB7 := Lib.hid (HB6.out.trans (hb7.mono HB6.out.size))
      clear hb7
      go_wp2_with fail
      go_ret
      exact ⟨rfl, HB7.out⟩
  · have HLL : Hid ((l.take 24).length ≤ 24) := Lib.hid (by rw [List.length_take]; omega)
    have hlen := HLL.out
    have hl24 : (l.take 24).length = 24 := by rw [List.length_take]; omega
    have HR := Lib.hid (fun W hW => rows_few A cp (l.take 24) HLL.out W ((HA.out.take 24).below (w := W) hW))
    rw [hl24] at HR
    have hgd := rows_gd (l.take 24) (l.take 24).length HLL.out
    have hat : ∀ b ∈ rowsK (l.take 24) (l.take 24).length, b.at_ ≤ now := fun b hb => by have := rows_at hb; omega
    rw [hl24] at hgd hat
    obtain ⟨RL, hRL⟩ : ∃ RL, rowsK (l.take 24) 24 = RL := ⟨_, rfl⟩
    rw [hRL] at HR hgd hat
    have hwl := Bk.wait_le RL (keyS kx) now hat
    obtain ⟨e1, e2, e3⟩ := Bk.wait_ends RL (keyS kx) now
    obtain ⟨wt, hwt⟩ : ∃ x, Bk.wait RL (keyS kx) now = x := ⟨_, rfl⟩
    rw [hwt] at hwl e1 e2 e3
    obtain ⟨m0, hm0⟩ : ∃ x, Bk.left RL (keyS kx) now = x := ⟨_, rfl⟩
    obtain ⟨m1, hm1⟩ : ∃ x, Bk.left RL (keyS kx) (now + wt) = x := ⟨_, rfl⟩
    rw [hm0] at e3
    rw [hm1] at e1
    have HW : Hid (∀ A' c' W, RL.length ≤ c' → Lies (fun _ => False) W A' (bus (M RL)) → Calls Try.prog 24 #[.slice A' RL.length c', .string (keyS kx), .int .i64 (now : Int)] W fun e w' => e = .returned (.int .i64 (wt : Int)) ∧ Below W.heap.size W w') := Lib.hid (fun A' c' W hc hL => by
      have h := Wait_any A' c' RL hgd.vl (keyS kx) now (by omega) W hL
      rw [hwt] at h
      exact h)
    have HL0 : Hid (∀ A' c' W, Lies (fun _ => False) W A' (bus (M RL)) → Calls Try.prog 22 #[.slice A' RL.length c', .string (keyS kx), .int .i64 (now : Int)] W fun e w' => e = .returned (.int .i64 (m0 : Int)) ∧ Below W.heap.size W w') := Lib.hid (fun A' c' W hL => by
      have h := Left_any A' c' RL hgd.vl (keyS kx) now (by omega) W hL
      rw [hm0] at h
      exact h)
    obtain ⟨nw, hnw⟩ : ∃ x, now + wt = x := ⟨_, rfl⟩
    rw [hnw] at hm1
    have HL1 : Hid (∀ A' c' W, Lies (fun _ => False) W A' (bus (M RL)) → Calls Try.prog 22 #[.slice A' RL.length c', .string (keyS kx), .int .i64 (nw : Int)] W fun e w' => e = .returned (.int .i64 (m1 : Int)) ∧ Below W.heap.size W w') := Lib.hid (fun A' c' W hL => by
      have h := Left_any A' c' RL hgd.vl (keyS kx) nw (by omega) W hL
      rw [hm1] at h
      exact h)
    have hv1 : IntKind.i64.wrap ((now : Int) + (wt : Int)) = (nw : Int) := by rw [IntKind.wrap_i64]; omega
    have hc1 : ¬ ((wt : Int) < 0) := by omega
    have hc2 : ¬ ((wt : Int) > 25) := by omega
    have hc3 : ¬ ((m1 : Int) < 1) := by omega
    have HB0 := Lib.hid hb0
    have hcut := run_pairs_to A l.length cp 24 (by omega) hcp
    have hgl : ((l.length : Int) > 24) := by omega
    have hcut' : ∀ W, (Instr.slice 22 (.slice A l.length cp) none (some (.int .i64 24)) none).run Try.prog W = .ok (.slice A 24 cp) W := hcut
    clear hRL hm1 hat hb0 e1
    by_cases hz : wt = 0
    · have hm : 1 ≤ m0 := e3.1 hz
      have hd1 : ((wt : Int) == 0) = true := beq_iff_eq.2 (by omega)
      have hd2 : ((m0 : Int) > 0) := by omega
      have HZ := Lib.hid hz
      clear e2 e3 hz hwt hnw hgd hm0 HLL
      go_enter Try.func6, Try.ntmps6
      go_wp2_with fail
      refine (awake_any _).mono ?_
      rintro e w1 ⟨rfl, hb1⟩
      have HB1 := Lib.hid (HB0.out.trans (hb1.mono HB0.out.size))
      have t0 := (HBX.out.of (hb1.block _ HBX.out.lt))
      have HT1 := Lib.hid t0
      clear hb1 t0
      go_wp2_with fail
      refine (HR.out w1 HB1.out).mono ?_
      rintro e w2 ⟨⟨A2, c2, rfl, hc2, hL2⟩, hb2⟩
      have HB2 := Lib.hid (HB1.out.trans (hb2.mono HB1.out.size))
      have HT2 := Lib.hid (HT1.out.of (hb2.block _ HT1.out.lt))
      have HL2' := Lib.hid hL2
      have x0 := (HT2.out.cell 0).trans rfl
      have x1 := (HT2.out.cell 1).trans rfl
      clear hb2 hL2
      go_wp2_with fail
      refine (key_any q0 w2).mono ?_
      rintro e w2' ⟨rfl, rfl⟩
      simp only [hkx]
      clear x0 x1
      go_wp2_with fail
      refine (HW.out A2 c2 w2 hc2 HL2'.out).mono ?_
      rintro e w3 ⟨rfl, hb3⟩
      have HB3 := Lib.hid (HB2.out.trans (hb3.mono HB2.out.size))
      have HL3 := Lib.hid (HL2'.out.below hb3)
      clear hb3
      go_wp2_with fail
      refine (HL0.out A2 c2 w3 HL3.out).mono ?_
      rintro e w5 ⟨rfl, hb5⟩
      have HB5 := Lib.hid (HB3.out.trans (hb5.mono HB3.out.size))
      have HL5 := Lib.hid (HL3.out.below hb5)
      clear hb5
      go_wp2_with fail
      refine (HL1.out A2 c2 w5 HL5.out).mono ?_
      rintro e w6 ⟨rfl, hb6⟩
      have HB6 := Lib.hid (HB5.out.trans (hb6.mono HB5.out.size))
      have HL6 := Lib.hid (HL5.out.below hb6)
      clear hb6
      go_wp2_with fail
      go_ret
      exact ⟨rfl, HB6.out⟩
    · have hm : m0 = 0 := by
        rcases Nat.eq_zero_or_pos m0 with h | h
        · exact h
        · exact absurd (e3.2 h) hz
      obtain ⟨d, hd⟩ : ∃ d, wt - 1 = d := ⟨_, rfl⟩
      obtain ⟨nx, hnx⟩ : ∃ x, now + d = x := ⟨_, rfl⟩
      have hz2 := e2 d (by omega)
      rw [hnx] at hz2
      have HL2 : Hid (∀ A' c' W, Lies (fun _ => False) W A' (bus (M RL)) → Calls Try.prog 22 #[.slice A' RL.length c', .string (keyS kx), .int .i64 (nx : Int)] W fun e w' => e = .returned (.int .i64 0) ∧ Below W.heap.size W w') := Lib.hid (fun A' c' W hL => by
        have h := Left_any A' c' RL hgd.vl (keyS kx) nx (by omega) W hL
        rw [hz2] at h
        exact h)
      have hv2 : IntKind.i64.wrap ((nw : Int) - 1) = (nx : Int) := by rw [IntKind.wrap_i64]; omega
      have hd1 : ((wt : Int) == 0) = false := beq_eq_false_iff_ne.2 (by omega)
      have hd2 : ¬ ((m0 : Int) > 0) := by omega
      clear e2 e3 hz hwt hnw hgd hm0 HLL hd hnx hz2 hm
      go_enter Try.func6, Try.ntmps6
      go_wp2_with fail
      refine (awake_any _).mono ?_
      rintro e w1 ⟨rfl, hb1⟩
      have HB1 := Lib.hid (HB0.out.trans (hb1.mono HB0.out.size))
      have t0 := (HBX.out.of (hb1.block _ HBX.out.lt))
      have HT1 := Lib.hid t0
      clear hb1 t0
      go_wp2_with fail
      refine (HR.out w1 HB1.out).mono ?_
      rintro e w2 ⟨⟨A2, c2, rfl, hc2, hL2⟩, hb2⟩
      have HB2 := Lib.hid (HB1.out.trans (hb2.mono HB1.out.size))
      have HT2 := Lib.hid (HT1.out.of (hb2.block _ HT1.out.lt))
      have HL2' := Lib.hid hL2
      have x0 := (HT2.out.cell 0).trans rfl
      have x1 := (HT2.out.cell 1).trans rfl
      clear hb2 hL2
      go_wp2_with fail
      refine (key_any q0 w2).mono ?_
      rintro e w2' ⟨rfl, rfl⟩
      simp only [hkx]
      clear x0 x1
      go_wp2_with fail
      refine (HW.out A2 c2 w2 hc2 HL2'.out).mono ?_
      rintro e w3 ⟨rfl, hb3⟩
      have HB3 := Lib.hid (HB2.out.trans (hb3.mono HB2.out.size))
      have HL3 := Lib.hid (HL2'.out.below hb3)
      clear hb3
      go_wp2_with fail
      refine (HL0.out A2 c2 w3 HL3.out).mono ?_
      rintro e w5 ⟨rfl, hb5⟩
      have HB5 := Lib.hid (HB3.out.trans (hb5.mono HB3.out.size))
      have HL5 := Lib.hid (HL3.out.below hb5)
      clear hb5
      go_wp2_with fail
      refine (HL1.out A2 c2 w5 HL5.out).mono ?_
      rintro e w6 ⟨rfl, hb6⟩
      have HB6 := Lib.hid (HB5.out.trans (hb6.mono HB5.out.size))
      have HL6 := Lib.hid (HL5.out.below hb6)
      clear hb6
      go_wp2_with fail
      refine (HL2.out A2 c2 w6 HL6.out).mono ?_
      rintro e w7 ⟨rfl, hb7⟩
      have HB7 := Lib.hid (HB6.out.trans (hb7.mono HB6.out.size))
      clear hb7
      go_wp2_with fail
      go_ret
      exact ⟨rfl, HB7.out⟩

/-! ### The row -/
theorem contract (H : Type) (enc : TypeId × Value → H) (W : World) (base : Nat) (args : Array Value) (ds gs : List (DataW H)) (before : List MemPlace)
    (hval : ∀ (j : Nat) t v, Try.f6.params[j]? = some t → args[j]? = some v → Value.okWide Try.prog W .any base t v)
    (hW : DataW.Whole enc Try.prog Try.f6.params.toList Rows.bucketWaitsSpec.vars false W args.toList ds gs before) :
    Calls Try.prog 6 args W fun e W' => ∃ v, e = .returned v ∧ Rows.bucketWaitsSpec.post enc Try.prog Try.f6 false true false false W args v W' := by
  have hW' := hW
  obtain ⟨p, q, hA0, hV, rfl, hfz, hnd⟩ := hW
  have hA : DataW.TrodAll enc Try.prog W 0 (fun _ => true) true Try.f6.params.toList args.toList ds p := hA0
  rw [Try.params6] at hA hval
  obtain ⟨v0, vs0, d0, ds0, p0, q0, hargs, rfl, rfl, h0, r0⟩ := trodAll_cons hA
  obtain ⟨v1, vs1, d1, ds1, p1, q1, rfl, rfl, rfl, h1, r1⟩ := trodAll_cons r0
  obtain ⟨rfl, rfl, rfl⟩ := trodAll_nil r1
  obtain rfl : args = #[v0, v1] := by cases args; simp_all
  obtain ⟨rfl, rfl⟩ := trodVars_none hV
  refine law_contract (tb := 4) laidOut (by kernel_rfl) rfl (by kernel_rfl) Try.underlying4 rfl hW' ?_
  clear hA0 hW' hA
  obtain ⟨A0, k0, l0, rfl, b0, g0⟩ := open_pairs (hval 0 22 v0 rfl rfl) h0
  have hcap0 := open_cap Try.underlying22 h0
  obtain ⟨zs1, rfl, hz1, wz1⟩ := open_array Try.underlying44 Try.underlying3 cells_i (by kernel_rfl) (hval 1 44 v1 rfl rfl) h1
  obtain ⟨z1_0, z1_1, rfl⟩ : ∃ z1_0 z1_1, zs1 = [z1_0, z1_1] := by
    match zs1, hz1 with
    | [a0, a1], _ => exact ⟨a0, a1, rfl⟩
  exact walk A0 k0 l0 hcap0 z1_0 z1_1 W g0

set_option maxRecDepth 100000 in
theorem lifted (os : Os) (started : os.Started) (H : Type) (enc : TypeId × Value → H) :
    ReturnsInHanded {} Try.checked os 6 .any (Rows.bucketWaitsSpec.pre6 enc Try.prog Try.f6 Rows.bucketWaitsRow.domain false) (Rows.bucketWaitsSpec.post enc Try.prog Try.f6 false true false false) := by
  refine returnsInHanded_of_change (C := Try.checked) own started (by kernel_rfl) Try.func6
    (ChangeSpec.witness6 (enc := enc) (C := Try.checked) false ⟨#[], #[.slice none 0 0, .agg #[.int .i64 0, .int .i64 0]], []⟩ 8 (by kernel_rfl) (by kernel_rfl) (by kernel_rfl) (by kernel_rfl)) ?_
  intro W base args ds gs before hval hW _ _
  exact contract H enc W base args ds gs before hval hW

/-- THE STATEMENT. -/
theorem said : Rows.BucketWaitsSaid :=
  OpenClaim.holds_of_wide 6 Try.f6 rfl rfl rfl rfl rfl rfl rfl ⟨rfl, rfl, rfl, rfl, rfl⟩ rfl rfl rfl rfl rfl (by kernel_rfl) Try.func6 (by kernel_rfl)
    (of_decide_eq_true (by kernel_rfl)) (by unfold Func.isWrapper; first | (rw [if_pos (by decide +kernel)]; kernel_rfl) | (rw [if_neg (by decide +kernel)]; exact ⟨rfl, rfl⟩))
    (fun os started H enc _ => lifted os started H enc)
#print axioms said
end Go.Proofs.Ytbldonkfboahmaa.bucketWaits
