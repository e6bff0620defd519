/-
  RetryTries: so often it is tried, by a clock of its own. No condition.
-/
import Derived.Test.YtdkiainmjdcfmaaRtC
import Derived.Test.YtdkiainmjdcfmaaTkT
namespace Go.Proofs.Ytdkiainmjdcfmaa.retryTries
open Go.ChangeShapes Go.WideShapes Go.ChangeAt Go.RowKit
open Go.ChangeMaps (open_string shut_string)


theorem sm_dl (n : Nat) : Rt.sm (n + 1) = Rt.sm n + Rt.dl (n + 1) := rfl
set_option maxRecDepth 100000 in
set_option maxHeartbeats 8000000 in
theorem walk (q raw : Int) (hr : -9223372036854775808 ≤ raw ∧ raw ≤ 9223372036854775807) (w : World) :
    Calls Try.prog 7 #[.int .i64 q, .int .i64 raw] w fun e w' => e = .returned (.bool true) ∧ Below w.heap.size w w' := by
  obtain ⟨t, ht, v1, v2, v3⟩ := rem_pos q 301 (by decide) (by decide)
  obtain ⟨qr, hqr⟩ : ∃ x, q.tmod 301 = x := ⟨_, rfl⟩
  have hqr' : q.tmod ((301 : Nat) : Int) = qr := hqr
  rw [hqr'] at v1 v2 v3
  have v2' : IntKind.i64.wrap (qr + 301) = qr + 301 := v2
  have v3' : (qr + 301).tmod 301 = (t : Int) := v3
  have v4 : IntKind.i64.wrap (t : Int) = (t : Int) := by rw [IntKind.wrap_i64]; omega
  clear hqr' v2 v3
  have HB0 := Lib.hid (Below.refl w.heap.size w)
  go_enter Try.func7, Try.ntmps7
  go_wp2_with fail
  refine (awake_any _).mono ?_
  rintro e w1 ⟨rfl, hb1⟩
  have HB1 := Lib.hid (HB0.out.trans (hb1.mono HB0.out.size))
  clear hb1
  go_wp2_with fail
  go_loopw [7, 8, 9] (fun nn dd ww wr => ∃ n d now : Nat, nn = .int .i64 (n : Int) ∧ dd = .int .i64 (d : Int) ∧ ww = .int .i64 (now : Int) ∧ n ≤ 8 ∧ d = Rt.sm n ∧ now ≤ t + 1 ∧ (n = 0 ∨ Rt.sm (n - 1) < now) ∧ (n = 8 ∨ now ≤ Rt.sm n) ∧ Below w.heap.size w wr) (fun _ _ ww _ => t + 1 - (intOf ww).toNat)
  case atStart => exact ⟨0, 0, 0, rfl, rfl, rfl, by omega, rfl, by omega, .inl rfl, .inr (Nat.zero_le _), HB1.out⟩
  case round =>
    obtain ⟨n, d, now, rfl, rfl, rfl, hn8, hd, hnt, hlo, hhi, hB⟩ := hrel
    have HB := Lib.hid hB
    clear hB
    by_cases c0 : now ≤ t
    · have hc0 : (now : Int) ≤ (t : Int) := by omega
      by_cases c1 : d ≤ now
      · have hc1 : (now : Int) ≥ (d : Int) := by omega
        by_cases c2 : n < 8
        · have hc2 : (n : Int) < 8 := by omega
          have hnow : now = Rt.sm n := by omega
          have hs := sm_dl n
          have hp := Rt.dl_pos (n + 1) (by omega)
          have hp64 := Rt.dl_le (n + 1)
          have HD := Lib.hid (fun W => delay_any ((n : Int) + 1) (by omega) W)
          have hdl : dlI ((n : Int) + 1) = (Rt.dl (n + 1) : Int) := by unfold dlI; rw [show ((n : Int) + 1).toNat = n + 1 by omega]
          rw [hdl] at HD
          obtain ⟨dd, hdd⟩ : ∃ x, Rt.dl (n + 1) = x := ⟨_, rfl⟩
          rw [hdd] at HD hs hp hp64
          have hwn : IntKind.i64.wrap ((n : Int) + 1) = (n : Int) + 1 := by rw [IntKind.wrap_i64]; omega
          have hwd : IntKind.i64.wrap ((now : Int) + (dd : Int)) = ((now + dd : Nat) : Int) := by rw [IntKind.wrap_i64]; omega
          have HX : Hid (now + dd = Rt.sm (n + 1)) := Lib.hid (by omega)
          have HY : Hid (Rt.sm n < now + 1) := Lib.hid (by omega)
          clear hs hd hlo hhi hnow hdd hdl
          go_wp2_with fail
          refine (HD.out _).mono ?_
          rintro e w2 ⟨rfl, hb2⟩
          have HB2 := Lib.hid (HB.out.trans (hb2.mono HB.out.size))
          clear hb2
          go_wp2_with fail
          go_roundw
          case rel => exact ⟨n + 1, now + dd, now + 1, by go_num, rfl, by go_num, by omega, HX.out, by omega, .inr (by rw [Nat.add_sub_cancel]; exact HY.out), .inr (by have := HX.out; omega), HB2.out⟩
          case measure => simp [intOf]; omega
        · have hc2 : ¬ (n : Int) < 8 := by omega
          have HD := Lib.hid hd
          have HLO := Lib.hid hlo
          clear hd hlo hhi
          go_wp2_with fail
          go_roundw
          case rel => exact ⟨n, d, now + 1, rfl, rfl, by go_num, hn8, HD.out, by omega, by have := HLO.out; omega, .inl (by omega), HB.out⟩
          case measure => simp [intOf]; omega
      · have hc1 : ¬ (now : Int) ≥ (d : Int) := by omega
        have HD := Lib.hid hd
        have HLO := Lib.hid hlo
        have HHI : Hid (n = 8 ∨ now + 1 ≤ Rt.sm n) := Lib.hid (by omega)
        clear hd hlo hhi
        go_wp2_with fail
        go_roundw
        case rel => exact ⟨n, d, now + 1, rfl, rfl, by go_num, hn8, HD.out, by omega, by have := HLO.out; omega, HHI.out, HB.out⟩
        case measure => simp [intOf]; omega
    · have hc0 : ¬ (now : Int) ≤ (t : Int) := by omega
      have htr : Rt.tries t = n := Rt.tries_of t n hn8 (by omega) (by omega)
      have HT := Lib.hid (fun W => tries_any (t : Int) (by omega) W)
      have htv : triesI (t : Int) = (n : Int) := by unfold triesI; rw [if_neg (by omega), Int.toNat_natCast, htr]
      rw [htv] at HT
      have HR := Lib.hid (fun W => tries_any raw hr W)
      have hm1 : 127 ≤ raw → triesI raw = 8 := fun h => by unfold triesI; rw [if_neg (by omega), Rt.tries_great _ (by omega)]; rfl
      have hm2 : raw < 0 → triesI raw = 0 := fun h => by unfold triesI; rw [if_pos h]
      clear htr htv hd hlo hhi
      by_cases p1 : raw < 127
      · by_cases p2 : raw ≥ 0
        · clear hm1 hm2
          go_wp2_with fail
          refine (HT.out _).mono ?_
          rintro e w2 ⟨rfl, hb2⟩
          have HB2 := Lib.hid (HB.out.trans (hb2.mono HB.out.size))
          clear hb2
          go_wp2_with fail
          go_ret
          exact ⟨rfl, HB2.out⟩
        · rw [hm2 (by omega)] at HR
          clear hm1 hm2
          go_wp2_with fail
          refine (HT.out _).mono ?_
          rintro e w2 ⟨rfl, hb2⟩
          have HB2 := Lib.hid (HB.out.trans (hb2.mono HB.out.size))
          clear hb2
          go_wp2_with fail
          refine (HR.out _).mono ?_
          rintro e w3 ⟨rfl, hb3⟩
          have HB3 := Lib.hid (HB2.out.trans (hb3.mono HB2.out.size))
          clear hb3
          go_wp2_with fail
          go_ret
          exact ⟨rfl, HB3.out⟩
      · have p2 : raw ≥ 0 := by omega
        rw [hm1 (by omega)] at HR
        clear hm1 hm2
        go_wp2_with fail
        refine (HT.out _).mono ?_
        rintro e w2 ⟨rfl, hb2⟩
        have HB2 := Lib.hid (HB.out.trans (hb2.mono HB.out.size))
        clear hb2
        go_wp2_with fail
        refine (HR.out _).mono ?_
        rintro e w3 ⟨rfl, hb3⟩
        have HB3 := Lib.hid (HB2.out.trans (hb3.mono HB2.out.size))
        clear hb3
        go_wp2_with fail
        go_ret
        exact ⟨rfl, HB3.out⟩

/-! ### The row -/
theorem contract (H : Type) (enc : TypeId × Value → H) (W : World) (base : Nat) (args : Array Value) (ds gs : List (DataW H)) (before : List MemPlace)
    (hval : ∀ (j : Nat) t v, Try.f7.params[j]? = some t → args[j]? = some v → Value.okWide Try.prog W .any base t v)
    (hW : DataW.Whole enc Try.prog Try.f7.params.toList Rows.retryTriesSpec.vars false W args.toList ds gs before) :
    Calls Try.prog 7 args W fun e W' => ∃ v, e = .returned v ∧ Rows.retryTriesSpec.post enc Try.prog Try.f7 false true false false W args v W' := by
  have hW' := hW
  obtain ⟨p, q, hA0, hV, rfl, hfz, hnd⟩ := hW
  have hA : DataW.TrodAll enc Try.prog W 0 (fun _ => true) true Try.f7.params.toList args.toList ds p := hA0
  rw [Try.params7] at hA hval
  obtain ⟨v0, vs0, d0, ds0, p0, q0, hargs, rfl, rfl, h0, r0⟩ := trodAll_cons hA
  obtain ⟨v1, vs1, d1, ds1, p1, q1, rfl, rfl, rfl, h1, r1⟩ := trodAll_cons r0
  obtain ⟨rfl, rfl, rfl⟩ := trodAll_nil r1
  obtain rfl : args = #[v0, v1] := by cases args; simp_all
  obtain ⟨rfl, rfl⟩ := trodVars_none hV
  refine law_contract (tb := 4) laidOut (by kernel_rfl) rfl (by kernel_rfl) Try.underlying4 rfl hW' ?_
  clear hA0 hW' hA
  obtain ⟨a0, rfl, rfl, rfl, w0⟩ := open_int Try.underlying3 (hval 0 3 v0 rfl rfl) h0
  obtain ⟨a1, rfl, rfl, rfl, w1⟩ := open_int Try.underlying2 (hval 1 2 v1 rfl rfl) h1
  exact walk a0 a1 (bounds_int w1) W

set_option maxRecDepth 100000 in
theorem lifted (os : Os) (started : os.Started) (H : Type) (enc : TypeId × Value → H) :
    ReturnsInHanded {} Try.checked os 7 .any (Rows.retryTriesSpec.pre6 enc Try.prog Try.f7 Rows.retryTriesRow.domain false) (Rows.retryTriesSpec.post enc Try.prog Try.f7 false true false false) := by
  refine returnsInHanded_of_change (C := Try.checked) own started (by kernel_rfl) Try.func7
    (ChangeSpec.witness6 (enc := enc) (C := Try.checked) false ⟨#[], #[.int .i64 0, .int .i64 0], []⟩ 8 (by kernel_rfl) (by kernel_rfl) (by kernel_rfl) (by kernel_rfl)) ?_
  intro W base args ds gs before hval hW _ _
  exact contract H enc W base args ds gs before hval hW

/-- THE STATEMENT. -/
theorem said : Rows.RetryTriesSaid :=
  OpenClaim.holds_of_wide 7 Try.f7 rfl rfl rfl rfl rfl rfl rfl ⟨rfl, rfl, rfl, rfl, rfl⟩ rfl rfl rfl rfl rfl (by kernel_rfl) Try.func7 (by kernel_rfl)
    (of_decide_eq_true (by kernel_rfl)) (by unfold Func.isWrapper; first | (rw [if_pos (by decide +kernel)]; kernel_rfl) | (rw [if_neg (by decide +kernel)]; exact ⟨rfl, rfl⟩))
    (fun os started H enc _ => lifted os started H enc)
#print axioms said
end Go.Proofs.Ytdkiainmjdcfmaa.retryTries
