/-
  RetryWithin: it takes no longer than Within tells, by a clock of the statement's own. No condition.
-/
import Derived.Test.YtdkiainmjdcfmaaRtC
import Derived.Test.YtdkiainmjdcfmaaTkT
namespace Go.Proofs.Ytdkiainmjdcfmaa.retryWithin
open Go.ChangeShapes Go.WideShapes Go.ChangeAt Go.RowKit
open Go.ChangeMaps (open_string shut_string)


/-- By when the attempt behind so many failed ones is due. -/
def bd (e m : Nat) : Nat := Rt.sm m + (m - 1) * (e - 1)
theorem bd_zero (e : Nat) : bd e 0 = 0 := by unfold bd; rw [show Rt.sm 0 = 0 from rfl]; simp
theorem bd_one (e : Nat) : bd e 1 = Rt.dl 1 := by unfold bd; rw [show Rt.sm 1 = Rt.dl 1 by decide]; simp
theorem bd_more (e m : Nat) (h : 1 ≤ m) : bd e (m + 1) = bd e m + (e - 1) + Rt.dl (m + 1) := by
  obtain ⟨k, rfl⟩ : ∃ k, m = k + 1 := ⟨m - 1, by omega⟩
  unfold bd
  rw [show Rt.sm (k + 1 + 1) = Rt.sm (k + 1) + Rt.dl (k + 1 + 1) from rfl, Nat.add_sub_cancel, Nat.add_sub_cancel, Nat.succ_mul]
  omega
theorem bd_le (e m : Nat) (hm : m ≤ 7) (he : e ≤ 16) : bd e m ≤ 300 := by
  unfold bd
  have h1 := Rt.sm_mono hm
  have h2 : (m - 1) * (e - 1) ≤ 6 * 15 := Nat.mul_le_mul (by omega) (by omega)
  have h3 : Rt.sm 7 = 127 := by decide
  omega
theorem within_nat (n e : Nat) (hn : 1 ≤ n) (hn7 : n ≤ 7) (he : 1 ≤ e) (he16 : e ≤ 16) : withinI (n : Int) (e : Int) = ((bd e n + (e - 1) : Nat) : Int) := by
  unfold withinI
  rw [if_neg (by omega), show min (n : Int) 1000000 = (n : Int) by omega, show max 1 (min (e : Int) 1000000) = (e : Int) by omega]
  have hs : sumI 1 (n : Int) = (Rt.sm n : Int) := by
    unfold sumI
    rw [show (max (1 : Int) 1).toNat = 1 by decide, show (min (n : Int) 1000000).toNat = n by omega]
    unfold Rt.sum
    rw [if_pos hn, show Rt.sm (1 - 1) = 0 from rfl, Nat.sub_zero]
  rw [hs]
  obtain ⟨k, rfl⟩ : ∃ k, n = k + 1 := ⟨n - 1, by omega⟩
  obtain ⟨f, rfl⟩ : ∃ f, e = f + 1 := ⟨e - 1, by omega⟩
  unfold bd
  simp only [Nat.add_sub_cancel]
  have h1 : ((f + 1 : Nat) : Int) - 1 = (f : Int) := by omega
  rw [h1]
  have h2 : ((k + 1 : Nat) : Int) * (f : Int) = ((k * f + f : Nat) : Int) := by
    rw [← Int.natCast_mul, Nat.succ_mul]
  rw [h2]
  omega
set_option maxRecDepth 100000 in
set_option maxHeartbeats 8000000 in
theorem walk (q0 q1 q2 : Int) (w : World) :
    Calls Try.prog 6 #[.int .i64 q0, .int .i64 q1, .int .i64 q2] w fun e w' => e = .returned (.bool true) ∧ Below w.heap.size w w' := by
  obtain ⟨n, hn, v1, v2, v3⟩ := rem_pos q0 8 (by decide) (by decide)
  obtain ⟨qr, hqr⟩ : ∃ x, q0.tmod 8 = x := ⟨_, rfl⟩
  have hqr' : q0.tmod ((8 : Nat) : Int) = qr := hqr
  rw [hqr'] at v1 v2 v3
  have v2' : IntKind.i64.wrap (qr + 8) = qr + 8 := v2
  have v3' : (qr + 8).tmod 8 = (n : Int) := v3
  have v4 : IntKind.i64.wrap (n : Int) = (n : Int) := by rw [IntKind.wrap_i64]; omega
  have m1 := and15 q1
  have l1 := lo_lt q1 16 (by decide)
  obtain ⟨t1, ht1⟩ : ∃ t, lo q1 16 = t := ⟨_, rfl⟩
  rw [ht1] at m1 l1
  obtain ⟨ee, hee⟩ : ∃ x, 1 + t1 = x := ⟨_, rfl⟩
  have v5 : IntKind.i64.wrap (1 + (t1 : Int)) = (ee : Int) := by rw [IntKind.wrap_i64]; omega
  have m2 := and255 q2
  have l2 := lo_lt q2 256 (by decide)
  obtain ⟨bg, hbg⟩ : ∃ t, lo q2 256 = t := ⟨_, rfl⟩
  rw [hbg] at m2 l2
  have he1 : 1 ≤ ee := by omega
  have he16 : ee ≤ 16 := by omega
  have v6 : IntKind.i64.wrap ((n : Int) + 1) = (n : Int) + 1 := by rw [IntKind.wrap_i64]; omega
  clear hqr' v2 v3 ht1 hee hbg
  have HB0 := Lib.hid (Below.refl w.heap.size w)
  go_enter Try.func6, Try.ntmps6
  go_wp2_with fail
  refine (awake_any _).mono ?_
  rintro e w1 ⟨rfl, hb1⟩
  have HB1 := Lib.hid (HB0.out.trans (hb1.mono HB0.out.size))
  clear hb1
  go_wp2_with fail
  go_loopw [11, 12, 13, 14] (fun dd ww mm ii wr => ∃ d now m i : Nat, dd = .int .i64 (d : Int) ∧ ww = .int .i64 (now : Int) ∧ mm = .int .i64 (m : Int) ∧ ii = .int .i64 (i : Int) ∧ m ≤ n ∧ bg ≤ now ∧ now + 1 ≤ d + ee ∧ d ≤ bg + bd ee m ∧ (m = 0 → now = bg ∧ d = bg) ∧ bg + i ≤ now ∧ Below w.heap.size w wr) (fun _ _ _ ii _ => 10000 - (intOf ii).toNat)
  case atStart => exact ⟨bg, bg, 0, 0, rfl, rfl, rfl, rfl, by omega, by omega, by omega, by omega, fun _ => ⟨rfl, rfl⟩, by omega, HB1.out⟩
  case round =>
    obtain ⟨d, now, m, i, rfl, rfl, rfl, rfl, hmn, hbn, hnd, hdb, hm0, hin, hB⟩ := hrel
    have HB := Lib.hid hB
    have hble := bd_le ee m (by omega) he16
    clear hB
    have hi : (i : Int) < 10000 := by omega
    have hmi : (m : Int) ≤ (n : Int) := by omega
    have hwm : IntKind.i64.wrap ((m : Int) + 1) = (m : Int) + 1 := by rw [IntKind.wrap_i64]; omega
    have hwe : IntKind.i64.wrap ((now : Int) + (ee : Int)) = ((now + ee : Nat) : Int) := by rw [IntKind.wrap_i64]; omega
    by_cases c1 : d ≤ now
    · have hc1 : (now : Int) ≥ (d : Int) := by omega
      by_cases c2 : m + 1 ≤ n
      · have hc2 : ¬ ((m : Int) + 1 > (n : Int)) := by omega
        have hp := Rt.dl_pos (m + 1) (by omega)
        have hp64 := Rt.dl_le (m + 1)
        have hdl : dlI ((m : Int) + 1) = (Rt.dl (m + 1) : Int) := by unfold dlI; rw [show ((m : Int) + 1).toNat = m + 1 by omega]
        have HN := Lib.hid (fun W => next_any (now : Int) ((m : Int) + 1) (by omega) (by omega) W)
        rw [hdl] at HN
        have hbm : now + Rt.dl (m + 1) ≤ bg + bd ee (m + 1) := by
          rcases Nat.eq_zero_or_pos m with h | h
          · subst h
            have := (hm0 rfl).1
            rw [bd_one]
            show now + Rt.dl 1 ≤ _
            omega
          · rw [bd_more ee m h]
            omega
        obtain ⟨dd, hdd⟩ : ∃ x, Rt.dl (m + 1) = x := ⟨_, rfl⟩
        rw [hdd] at HN hp hp64 hbm
        have hck : Mi.clock (now : Int) (dd : Int) = ((now + dd : Nat) : Int) := by unfold Mi.clock; rw [if_neg (by omega), if_pos (by omega)]; omega
        rw [hck] at HN
        have HBM := Lib.hid hbm
        clear hbm hm0 hdd hdl hck hdb hble
        go_wp2_with fail
        refine (HN.out _).mono ?_
        rintro e w2 ⟨rfl, hb2⟩
        have HB2 := Lib.hid (HB.out.trans (hb2.mono HB.out.size))
        clear hb2
        go_wp2_with fail
        go_roundw
        case rel => exact ⟨now + dd, now + ee, m + 1, i + 1, rfl, rfl, by go_num, by go_num, by omega, by omega, by omega, HBM.out, fun h => by omega, by omega, HB2.out⟩
        case measure => simp [intOf]; omega
      · obtain rfl : m = n := by omega
        have hc2 : ((m : Int) + 1 > (m : Int)) := by omega
        have HW := Lib.hid (fun W => within_any (m : Int) (ee : Int) (by omega) (by omega) W)
        have hws : IntKind.i64.wrap ((now : Int) - (bg : Int)) = (now : Int) - (bg : Int) := by rw [IntKind.wrap_i64]; omega
        have hwv : (now : Int) - (bg : Int) ≤ withinI (m : Int) (ee : Int) := by
          rcases Nat.eq_zero_or_pos m with h | h
          · have h2 := (hm0 h).1
            have : withinI (m : Int) (ee : Int) = 0 := by unfold withinI; rw [if_pos (by omega)]
            omega
          · rw [within_nat m ee h (by omega) he1 he16]
            omega
        generalize withinI (m : Int) (ee : Int) = vw at HW hwv
        clear hm0 hdb hble
        go_wp2_with fail
        refine (HW.out _).mono ?_
        rintro e w2 ⟨rfl, hb2⟩
        have HB2 := Lib.hid (HB.out.trans (hb2.mono HB.out.size))
        clear hb2
        go_wp2_with fail
        go_ret
        exact ⟨rfl, HB2.out⟩
    · have hc1 : ¬ (now : Int) ≥ (d : Int) := by omega
      have HM0 : Hid (m = 0 → now + ee = bg ∧ d = bg) := Lib.hid (fun h => by have := hm0 h; omega)
      have HDB := Lib.hid hdb
      clear hm0 hdb hble
      go_wp2_with fail
      go_roundw
      case rel => exact ⟨d, now + ee, m, i + 1, rfl, rfl, rfl, by go_num, hmn, by omega, by omega, HDB.out, HM0.out, by omega, HB.out⟩
      case measure => simp [intOf]; omega

/-! ### The row -/
theorem contract (H : Type) (enc : TypeId × Value → H) (W : World) (base : Nat) (args : Array Value) (ds gs : List (DataW H)) (before : List MemPlace)
    (hval : ∀ (j : Nat) t v, Try.f6.params[j]? = some t → args[j]? = some v → Value.okWide Try.prog W .any base t v)
    (hW : DataW.Whole enc Try.prog Try.f6.params.toList Rows.retryWithinSpec.vars false W args.toList ds gs before) :
    Calls Try.prog 6 args W fun e W' => ∃ v, e = .returned v ∧ Rows.retryWithinSpec.post enc Try.prog Try.f6 false true false false W args v W' := by
  have hW' := hW
  obtain ⟨p, q, hA0, hV, rfl, hfz, hnd⟩ := hW
  have hA : DataW.TrodAll enc Try.prog W 0 (fun _ => true) true Try.f6.params.toList args.toList ds p := hA0
  rw [Try.params6] at hA hval
  obtain ⟨v0, vs0, d0, ds0, p0, q0, hargs, rfl, rfl, h0, r0⟩ := trodAll_cons hA
  obtain ⟨v1, vs1, d1, ds1, p1, q1, rfl, rfl, rfl, h1, r1⟩ := trodAll_cons r0
  obtain ⟨v2, vs2, d2, ds2, p2, q2, rfl, rfl, rfl, h2, r2⟩ := trodAll_cons r1
  obtain ⟨rfl, rfl, rfl⟩ := trodAll_nil r2
  obtain rfl : args = #[v0, v1, v2] := by cases args; simp_all
  obtain ⟨rfl, rfl⟩ := trodVars_none hV
  refine law_contract (tb := 4) laidOut (by kernel_rfl) rfl (by kernel_rfl) Try.underlying4 rfl hW' ?_
  clear hA0 hW' hA
  obtain ⟨a0, rfl, rfl, rfl, w0⟩ := open_int Try.underlying3 (hval 0 3 v0 rfl rfl) h0
  obtain ⟨a1, rfl, rfl, rfl, w1⟩ := open_int Try.underlying3 (hval 1 3 v1 rfl rfl) h1
  obtain ⟨a2, rfl, rfl, rfl, w2⟩ := open_int Try.underlying3 (hval 2 3 v2 rfl rfl) h2
  exact walk a0 a1 a2 W

set_option maxRecDepth 100000 in
theorem lifted (os : Os) (started : os.Started) (H : Type) (enc : TypeId × Value → H) :
    ReturnsInHanded {} Try.checked os 6 .any (Rows.retryWithinSpec.pre6 enc Try.prog Try.f6 Rows.retryWithinRow.domain false) (Rows.retryWithinSpec.post enc Try.prog Try.f6 false true false false) := by
  refine returnsInHanded_of_change (C := Try.checked) own started (by kernel_rfl) Try.func6
    (ChangeSpec.witness6 (enc := enc) (C := Try.checked) false ⟨#[], #[.int .i64 0, .int .i64 0, .int .i64 0], []⟩ 8 (by kernel_rfl) (by kernel_rfl) (by kernel_rfl) (by kernel_rfl)) ?_
  intro W base args ds gs before hval hW _ _
  exact contract H enc W base args ds gs before hval hW

/-- THE STATEMENT. -/
theorem said : Rows.RetryWithinSaid :=
  OpenClaim.holds_of_wide 6 Try.f6 rfl rfl rfl rfl rfl rfl rfl ⟨rfl, rfl, rfl, rfl, rfl⟩ rfl rfl rfl rfl rfl (by kernel_rfl) Try.func6 (by kernel_rfl)
    (of_decide_eq_true (by kernel_rfl)) (by unfold Func.isWrapper; first | (rw [if_pos (by decide +kernel)]; kernel_rfl) | (rw [if_neg (by decide +kernel)]; exact ⟨rfl, rfl⟩))
    (fun os started H enc _ => lifted os started H enc)
#print axioms said
end Go.Proofs.Ytdkiainmjdcfmaa.retryWithin
