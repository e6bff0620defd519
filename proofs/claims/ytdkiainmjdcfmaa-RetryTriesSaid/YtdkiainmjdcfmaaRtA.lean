/-
  Contracts of mint.Clock and of the document's own Sum and Within (layer 13). No condition.
-/
import Derived.Test.YtdkiainmjdcfmaaRtD
namespace Go.Proofs.Ytdkiainmjdcfmaa
open Go.RowKit

theorem clock_any (n t : Int) (hn : -9223372036854775808 ≤ n ∧ n ≤ 9223372036854775807) (ht : -9223372036854775808 ≤ t ∧ t ≤ 9223372036854775807) (w : World) :
    Calls Try.prog 19 #[.int .i64 n, .int .i64 t] w fun e w' => e = .returned (.int .i64 (Mi.clock n t)) ∧ w = w' := by
  by_cases h1 : n < 0
  · rw [Mi.clock_neg n t (.inl h1)]
    go_enter Try.func19, Try.ntmps19
    go_wp2_with fail
    go_ret
    exact ⟨rfl, rfl⟩
  · by_cases h2 : t < 0
    · rw [Mi.clock_neg n t (.inr h2)]
      go_enter Try.func19, Try.ntmps19
      go_wp2_with fail
      go_ret
      exact ⟨rfl, rfl⟩
    · have hw1 : IntKind.i64.wrap (1099511627776 - n) = 1099511627776 - n := by rw [IntKind.wrap_i64]; omega
      by_cases h3 : n + t ≤ 1099511627776
      · rw [Mi.clock_low n t (by omega) (by omega) h3]
        have h4 : ¬ (1099511627776 - n < t) := by omega
        have hw2 : IntKind.i64.wrap (n + t) = n + t := by rw [IntKind.wrap_i64]; omega
        go_enter Try.func19, Try.ntmps19
        go_wp2_with fail
        go_ret
        exact ⟨rfl, rfl⟩
      · rw [Mi.clock_high n t (by omega) (by omega) h3]
        have h4 : 1099511627776 - n < t := by omega
        go_enter Try.func19, Try.ntmps19
        go_wp2_with fail
        go_ret
        exact ⟨rfl, rfl⟩
set_option maxRecDepth 100000 in
set_option maxHeartbeats 4000000 in
theorem rsum_any (a b : Int) (_ha : -9223372036854775808 ≤ a ∧ a ≤ 9223372036854775807) (_hb : -9223372036854775808 ≤ b ∧ b ≤ 9223372036854775807) (w : World) :
    Calls Try.prog 15 #[.int .i64 a, .int .i64 b] w fun e w' => e = .returned (.int .i64 (sumI a b)) ∧ w = w' := by
  obtain ⟨B, hBe⟩ : ∃ B : Nat, (min b 1000000).toNat = B := ⟨_, rfl⟩
  by_cases h1 : a < 1
  · have hAe : (max a 1).toNat = 1 := by omega
    by_cases h2 : b > 1000000
    · have hBv : B = 1000000 := by omega
      subst hBv
      obtain ⟨r, hr⟩ : ∃ r, Rt.sum 1 1000000 = r := ⟨_, rfl⟩
      have HR := Lib.hid hr
      have hs : sumI a b = (r : Int) := by unfold sumI; rw [hAe, hBe, hr]
      rw [hs]
      have HA1 : Hid (1 ≤ 1) := Lib.hid (by omega)
      clear hr hs hAe hBe
      go_enter Try.func15, Try.ntmps15
      go_wp2_with fail
      go_loop [5, 6] (fun v i => ∃ k m : Nat, v = .int .i64 (m : Int) ∧ i = .int .i64 (k : Int) ∧ 1 ≤ k ∧ 1 ≤ k ∧ k ≤ max 1 (1000000 + 1) ∧ m = Rt.sum 1 (k - 1)) (fun _ i => 1000000 + 1 - (intOf i).toNat)
      case atStart => exact ⟨1, 0, rfl, rfl, HA1.out, Nat.le_refl _, by omega, (Rt.sum_none _ _ (by have := HA1.out; omega)).symm⟩
      case round =>
        obtain ⟨k, m, rfl, rfl, hk1, hka, hkb, hm⟩ := hrel
        have hmb := sum_le 1 (k - 1)
        rw [← hm] at hmb
        by_cases c1 : k ≤ 1000000
        · have hc1 : (k : Int) ≤ 1000000 := by omega
          have HD := Lib.hid (fun W => rdelay_any (k : Int) (by omega) W)
          have hdk : dlI (k : Int) = (Rt.dl k : Int) := by unfold dlI; rw [Int.toNat_natCast]
          rw [hdk] at HD
          have hst := Rt.sum_step 1 (k - 1) HA1.out (by omega)
          rw [show k - 1 + 1 = k by omega, ← hm] at hst
          have hdb := Rt.dl_le k
          obtain ⟨d, hd⟩ : ∃ d, Rt.dl k = d := ⟨_, rfl⟩
          rw [hd] at HD hst hdb
          have HST := Lib.hid hst
          clear hm hst hd hdk
          go_wp2_with fail
          refine (HD.out _).mono ?_
          rintro e w1 ⟨rfl, rfl⟩
          go_wp2_with fail
          go_round
          case rel => exact ⟨k + 1, m + d, by go_num, by go_num, by omega, by omega, by omega, by rw [Nat.add_sub_cancel]; exact HST.out.symm⟩
          case measure => simp [intOf]; omega
        · have hc1 : ¬ (k : Int) ≤ 1000000 := by omega
          have HX : Hid ((m : Int) = (r : Int)) := Lib.hid (by
            rw [hm, ← HR.out]
            by_cases hab : 1 ≤ 1000000
            · rw [show k - 1 = 1000000 by omega]
            · rw [Rt.sum_none 1 (k - 1) (by omega), Rt.sum_none 1 1000000 (by omega)])
          clear hm hmb
          go_wp2_with fail
          go_ret
          exact ⟨congrArg (fun z : Int => Ending.returned (.int .i64 z)) HX.out, rfl⟩
    · have hBv : B = b.toNat := by omega
      obtain ⟨r, hr⟩ : ∃ r, Rt.sum 1 B = r := ⟨_, rfl⟩
      have HR := Lib.hid hr
      have hs : sumI a b = (r : Int) := by unfold sumI; rw [hAe, hBe, hr]
      rw [hs]
      have HA1 : Hid (1 ≤ 1) := Lib.hid (by omega)
      clear hr hs hAe hBe
      go_enter Try.func15, Try.ntmps15
      go_wp2_with fail
      go_loop [5, 6] (fun v i => ∃ k m : Nat, v = .int .i64 (m : Int) ∧ i = .int .i64 (k : Int) ∧ 1 ≤ k ∧ 1 ≤ k ∧ k ≤ max 1 (B + 1) ∧ m = Rt.sum 1 (k - 1)) (fun _ i => B + 1 - (intOf i).toNat)
      case atStart => exact ⟨1, 0, rfl, rfl, HA1.out, Nat.le_refl _, by omega, (Rt.sum_none _ _ (by have := HA1.out; omega)).symm⟩
      case round =>
        obtain ⟨k, m, rfl, rfl, hk1, hka, hkb, hm⟩ := hrel
        have hmb := sum_le 1 (k - 1)
        rw [← hm] at hmb
        by_cases c1 : k ≤ B
        · have hc1 : (k : Int) ≤ b := by omega
          have HD := Lib.hid (fun W => rdelay_any (k : Int) (by omega) W)
          have hdk : dlI (k : Int) = (Rt.dl k : Int) := by unfold dlI; rw [Int.toNat_natCast]
          rw [hdk] at HD
          have hst := Rt.sum_step 1 (k - 1) HA1.out (by omega)
          rw [show k - 1 + 1 = k by omega, ← hm] at hst
          have hdb := Rt.dl_le k
          obtain ⟨d, hd⟩ : ∃ d, Rt.dl k = d := ⟨_, rfl⟩
          rw [hd] at HD hst hdb
          have HST := Lib.hid hst
          clear hm hst hd hdk
          go_wp2_with fail
          refine (HD.out _).mono ?_
          rintro e w1 ⟨rfl, rfl⟩
          go_wp2_with fail
          go_round
          case rel => exact ⟨k + 1, m + d, by go_num, by go_num, by omega, by omega, by omega, by rw [Nat.add_sub_cancel]; exact HST.out.symm⟩
          case measure => simp [intOf]; omega
        · have hc1 : ¬ (k : Int) ≤ b := by omega
          have HX : Hid ((m : Int) = (r : Int)) := Lib.hid (by
            rw [hm, ← HR.out]
            by_cases hab : 1 ≤ B
            · rw [show k - 1 = B by omega]
            · rw [Rt.sum_none 1 (k - 1) (by omega), Rt.sum_none 1 B (by omega)])
          clear hm hmb
          go_wp2_with fail
          go_ret
          exact ⟨congrArg (fun z : Int => Ending.returned (.int .i64 z)) HX.out, rfl⟩
  · obtain ⟨A, rfl⟩ : ∃ A : Nat, a = (A : Int) := ⟨a.toNat, by omega⟩
    have hAe : (max (A : Int) 1).toNat = A := by omega
    by_cases h2 : b > 1000000
    · have hBv : B = 1000000 := by omega
      subst hBv
      obtain ⟨r, hr⟩ : ∃ r, Rt.sum A 1000000 = r := ⟨_, rfl⟩
      have HR := Lib.hid hr
      have hs : sumI (A : Int) b = (r : Int) := by unfold sumI; rw [hAe, hBe, hr]
      rw [hs]
      have HA1 : Hid (1 ≤ A) := Lib.hid (by omega)
      clear hr hs hAe hBe
      go_enter Try.func15, Try.ntmps15
      go_wp2_with fail
      go_loop [5, 6] (fun v i => ∃ k m : Nat, v = .int .i64 (m : Int) ∧ i = .int .i64 (k : Int) ∧ 1 ≤ k ∧ A ≤ k ∧ k ≤ max A (1000000 + 1) ∧ m = Rt.sum A (k - 1)) (fun _ i => 1000000 + 1 - (intOf i).toNat)
      case atStart => exact ⟨A, 0, rfl, rfl, HA1.out, Nat.le_refl _, by omega, (Rt.sum_none _ _ (by have := HA1.out; omega)).symm⟩
      case round =>
        obtain ⟨k, m, rfl, rfl, hk1, hka, hkb, hm⟩ := hrel
        have hmb := sum_le A (k - 1)
        rw [← hm] at hmb
        by_cases c1 : k ≤ 1000000
        · have hc1 : (k : Int) ≤ 1000000 := by omega
          have HD := Lib.hid (fun W => rdelay_any (k : Int) (by omega) W)
          have hdk : dlI (k : Int) = (Rt.dl k : Int) := by unfold dlI; rw [Int.toNat_natCast]
          rw [hdk] at HD
          have hst := Rt.sum_step A (k - 1) HA1.out (by omega)
          rw [show k - 1 + 1 = k by omega, ← hm] at hst
          have hdb := Rt.dl_le k
          obtain ⟨d, hd⟩ : ∃ d, Rt.dl k = d := ⟨_, rfl⟩
          rw [hd] at HD hst hdb
          have HST := Lib.hid hst
          clear hm hst hd hdk
          go_wp2_with fail
          refine (HD.out _).mono ?_
          rintro e w1 ⟨rfl, rfl⟩
          go_wp2_with fail
          go_round
          case rel => exact ⟨k + 1, m + d, by go_num, by go_num, by omega, by omega, by omega, by rw [Nat.add_sub_cancel]; exact HST.out.symm⟩
          case measure => simp [intOf]; omega
        · have hc1 : ¬ (k : Int) ≤ 1000000 := by omega
          have HX : Hid ((m : Int) = (r : Int)) := Lib.hid (by
            rw [hm, ← HR.out]
            by_cases hab : A ≤ 1000000
            · rw [show k - 1 = 1000000 by omega]
            · rw [Rt.sum_none A (k - 1) (by omega), Rt.sum_none A 1000000 (by omega)])
          clear hm hmb
          go_wp2_with fail
          go_ret
          exact ⟨congrArg (fun z : Int => Ending.returned (.int .i64 z)) HX.out, rfl⟩
    · have hBv : B = b.toNat := by omega
      obtain ⟨r, hr⟩ : ∃ r, Rt.sum A B = r := ⟨_, rfl⟩
      have HR := Lib.hid hr
      have hs : sumI (A : Int) b = (r : Int) := by unfold sumI; rw [hAe, hBe, hr]
      rw [hs]
      have HA1 : Hid (1 ≤ A) := Lib.hid (by omega)
      clear hr hs hAe hBe
      go_enter Try.func15, Try.ntmps15
      go_wp2_with fail
      go_loop [5, 6] (fun v i => ∃ k m : Nat, v = .int .i64 (m : Int) ∧ i = .int .i64 (k : Int) ∧ 1 ≤ k ∧ A ≤ k ∧ k ≤ max A (B + 1) ∧ m = Rt.sum A (k - 1)) (fun _ i => B + 1 - (intOf i).toNat)
      case atStart => exact ⟨A, 0, rfl, rfl, HA1.out, Nat.le_refl _, by omega, (Rt.sum_none _ _ (by have := HA1.out; omega)).symm⟩
      case round =>
        obtain ⟨k, m, rfl, rfl, hk1, hka, hkb, hm⟩ := hrel
        have hmb := sum_le A (k - 1)
        rw [← hm] at hmb
        by_cases c1 : k ≤ B
        · have hc1 : (k : Int) ≤ b := by omega
          have HD := Lib.hid (fun W => rdelay_any (k : Int) (by omega) W)
          have hdk : dlI (k : Int) = (Rt.dl k : Int) := by unfold dlI; rw [Int.toNat_natCast]
          rw [hdk] at HD
          have hst := Rt.sum_step A (k - 1) HA1.out (by omega)
          rw [show k - 1 + 1 = k by omega, ← hm] at hst
          have hdb := Rt.dl_le k
          obtain ⟨d, hd⟩ : ∃ d, Rt.dl k = d := ⟨_, rfl⟩
          rw [hd] at HD hst hdb
          have HST := Lib.hid hst
          clear hm hst hd hdk
          go_wp2_with fail
          refine (HD.out _).mono ?_
          rintro e w1 ⟨rfl, rfl⟩
          go_wp2_with fail
          go_round
          case rel => exact ⟨k + 1, m + d, by go_num, by go_num, by omega, by omega, by omega, by rw [Nat.add_sub_cancel]; exact HST.out.symm⟩
          case measure => simp [intOf]; omega
        · have hc1 : ¬ (k : Int) ≤ b := by omega
          have HX : Hid ((m : Int) = (r : Int)) := Lib.hid (by
            rw [hm, ← HR.out]
            by_cases hab : A ≤ B
            · rw [show k - 1 = B by omega]
            · rw [Rt.sum_none A (k - 1) (by omega), Rt.sum_none A B (by omega)])
          clear hm hmb
          go_wp2_with fail
          go_ret
          exact ⟨congrArg (fun z : Int => Ending.returned (.int .i64 z)) HX.out, rfl⟩
set_option maxRecDepth 100000 in
set_option maxHeartbeats 4000000 in
theorem rwithin_any (t e : Int) (_ht : -9223372036854775808 ≤ t ∧ t ≤ 9223372036854775807) (_he : -9223372036854775808 ≤ e ∧ e ≤ 9223372036854775807) (w : World) :
    Calls Try.prog 17 #[.int .i64 t, .int .i64 e] w fun e2 w' => e2 = .returned (.int .i64 (withinI t e)) ∧ w = w' := by
  by_cases h1 : t < 1
  · have hv : withinI t e = 0 := by unfold withinI; rw [if_pos h1]
    rw [hv]
    go_enter Try.func17, Try.ntmps17
    go_wp2_with fail
    go_ret
    exact ⟨rfl, rfl⟩
  · by_cases h2 : t > 1000000
    · by_cases h3 : e < 1
      · have hv : withinI t e = sumI 1 (1000000 : Int) + (1000000 : Int) * ((1 : Int) - 1) := by unfold withinI; rw [if_neg h1, show min t 1000000 = (1000000 : Int) by omega, show max 1 (min e 1000000) = (1 : Int) by omega]
        rw [hv]
        have HS := Lib.hid (rsum_any 1 (1000000 : Int) (by omega) (by omega) w)
        have hsl := sumI_le 1 (1000000 : Int)
        generalize sumI 1 (1000000 : Int) = s at HS hsl ⊢
        have hle : 0 ≤ (1000000 : Int) * ((1 : Int) - 1) ∧ (1000000 : Int) * ((1 : Int) - 1) ≤ 1000000000000 := ⟨Int.mul_nonneg (by omega) (by omega), Int.le_trans (Int.mul_le_mul (show (1000000 : Int) ≤ 1000000 by omega) (show (1 : Int) - 1 ≤ 1000000 by omega) (by omega) (by omega)) (by decide)⟩
        have hw0 : IntKind.i64.wrap ((1 : Int) - 1) = (1 : Int) - 1 := by rw [IntKind.wrap_i64]; omega
        have hw1 : IntKind.i64.wrap ((1000000 : Int) * ((1 : Int) - 1)) = (1000000 : Int) * ((1 : Int) - 1) := by rw [IntKind.wrap_i64]; omega
        have hw2 : IntKind.i64.wrap (s + (1000000 : Int) * ((1 : Int) - 1)) = s + (1000000 : Int) * ((1 : Int) - 1) := by rw [IntKind.wrap_i64]; omega
        clear hv
        go_enter Try.func17, Try.ntmps17
        go_wp2_with fail
        refine HS.out.mono ?_
        rintro e w1 ⟨rfl, rfl⟩
        go_wp2_with fail
        go_ret
        exact ⟨by first | rfl | (simp only [Int.sub_self, Int.mul_zero, Int.add_zero]; rfl) | simp, rfl⟩
      · by_cases h4 : e > 1000000
        · have hv : withinI t e = sumI 1 (1000000 : Int) + (1000000 : Int) * ((1000000 : Int) - 1) := by unfold withinI; rw [if_neg h1, show min t 1000000 = (1000000 : Int) by omega, show max 1 (min e 1000000) = (1000000 : Int) by omega]
          rw [hv]
          have HS := Lib.hid (rsum_any 1 (1000000 : Int) (by omega) (by omega) w)
          have hsl := sumI_le 1 (1000000 : Int)
          generalize sumI 1 (1000000 : Int) = s at HS hsl ⊢
          have hle : 0 ≤ (1000000 : Int) * ((1000000 : Int) - 1) ∧ (1000000 : Int) * ((1000000 : Int) - 1) ≤ 1000000000000 := ⟨Int.mul_nonneg (by omega) (by omega), Int.le_trans (Int.mul_le_mul (show (1000000 : Int) ≤ 1000000 by omega) (show (1000000 : Int) - 1 ≤ 1000000 by omega) (by omega) (by omega)) (by decide)⟩
          have hw0 : IntKind.i64.wrap ((1000000 : Int) - 1) = (1000000 : Int) - 1 := by rw [IntKind.wrap_i64]; omega
          have hw1 : IntKind.i64.wrap ((1000000 : Int) * ((1000000 : Int) - 1)) = (1000000 : Int) * ((1000000 : Int) - 1) := by rw [IntKind.wrap_i64]; omega
          have hw2 : IntKind.i64.wrap (s + (1000000 : Int) * ((1000000 : Int) - 1)) = s + (1000000 : Int) * ((1000000 : Int) - 1) := by rw [IntKind.wrap_i64]; omega
          clear hv
          go_enter Try.func17, Try.ntmps17
          go_wp2_with fail
          refine HS.out.mono ?_
          rintro e w1 ⟨rfl, rfl⟩
          go_wp2_with fail
          go_ret
          exact ⟨by first | rfl | (simp only [Int.sub_self, Int.mul_zero, Int.add_zero]; rfl) | simp, rfl⟩
        · have hv : withinI t e = sumI 1 (1000000 : Int) + (1000000 : Int) * (e - 1) := by unfold withinI; rw [if_neg h1, show min t 1000000 = (1000000 : Int) by omega, show max 1 (min e 1000000) = e by omega]
          rw [hv]
          have HS := Lib.hid (rsum_any 1 (1000000 : Int) (by omega) (by omega) w)
          have hsl := sumI_le 1 (1000000 : Int)
          generalize sumI 1 (1000000 : Int) = s at HS hsl ⊢
          have hle : 0 ≤ (1000000 : Int) * (e - 1) ∧ (1000000 : Int) * (e - 1) ≤ 1000000000000 := ⟨Int.mul_nonneg (by omega) (by omega), Int.le_trans (Int.mul_le_mul (show (1000000 : Int) ≤ 1000000 by omega) (show e - 1 ≤ 1000000 by omega) (by omega) (by omega)) (by decide)⟩
          have hw0 : IntKind.i64.wrap (e - 1) = e - 1 := by rw [IntKind.wrap_i64]; omega
          have hw1 : IntKind.i64.wrap ((1000000 : Int) * (e - 1)) = (1000000 : Int) * (e - 1) := by rw [IntKind.wrap_i64]; omega
          have hw2 : IntKind.i64.wrap (s + (1000000 : Int) * (e - 1)) = s + (1000000 : Int) * (e - 1) := by rw [IntKind.wrap_i64]; omega
          clear hv
          go_enter Try.func17, Try.ntmps17
          go_wp2_with fail
          refine HS.out.mono ?_
          rintro e w1 ⟨rfl, rfl⟩
          go_wp2_with fail
          go_ret
          exact ⟨by first | rfl | (simp only [Int.sub_self, Int.mul_zero, Int.add_zero]; rfl) | simp, rfl⟩
    · by_cases h3 : e < 1
      · have hv : withinI t e = sumI 1 t + t * ((1 : Int) - 1) := by unfold withinI; rw [if_neg h1, show min t 1000000 = t by omega, show max 1 (min e 1000000) = (1 : Int) by omega]
        rw [hv]
        have HS := Lib.hid (rsum_any 1 t (by omega) (by omega) w)
        have hsl := sumI_le 1 t
        generalize sumI 1 t = s at HS hsl ⊢
        have hle : 0 ≤ t * ((1 : Int) - 1) ∧ t * ((1 : Int) - 1) ≤ 1000000000000 := ⟨Int.mul_nonneg (by omega) (by omega), Int.le_trans (Int.mul_le_mul (show t ≤ 1000000 by omega) (show (1 : Int) - 1 ≤ 1000000 by omega) (by omega) (by omega)) (by decide)⟩
        have hw0 : IntKind.i64.wrap ((1 : Int) - 1) = (1 : Int) - 1 := by rw [IntKind.wrap_i64]; omega
        have hw1 : IntKind.i64.wrap (t * ((1 : Int) - 1)) = t * ((1 : Int) - 1) := by rw [IntKind.wrap_i64]; omega
        have hw2 : IntKind.i64.wrap (s + t * ((1 : Int) - 1)) = s + t * ((1 : Int) - 1) := by rw [IntKind.wrap_i64]; omega
        clear hv
        go_enter Try.func17, Try.ntmps17
        go_wp2_with fail
        refine HS.out.mono ?_
        rintro e w1 ⟨rfl, rfl⟩
        go_wp2_with fail
        go_ret
        exact ⟨by first | rfl | (simp only [Int.sub_self, Int.mul_zero, Int.add_zero]; rfl) | simp, rfl⟩
      · by_cases h4 : e > 1000000
        · have hv : withinI t e = sumI 1 t + t * ((1000000 : Int) - 1) := by unfold withinI; rw [if_neg h1, show min t 1000000 = t by omega, show max 1 (min e 1000000) = (1000000 : Int) by omega]
          rw [hv]
          have HS := Lib.hid (rsum_any 1 t (by omega) (by omega) w)
          have hsl := sumI_le 1 t
          generalize sumI 1 t = s at HS hsl ⊢
          have hle : 0 ≤ t * ((1000000 : Int) - 1) ∧ t * ((1000000 : Int) - 1) ≤ 1000000000000 := ⟨Int.mul_nonneg (by omega) (by omega), Int.le_trans (Int.mul_le_mul (show t ≤ 1000000 by omega) (show (1000000 : Int) - 1 ≤ 1000000 by omega) (by omega) (by omega)) (by decide)⟩
          have hw0 : IntKind.i64.wrap ((1000000 : Int) - 1) = (1000000 : Int) - 1 := by rw [IntKind.wrap_i64]; omega
          have hw1 : IntKind.i64.wrap (t * ((1000000 : Int) - 1)) = t * ((1000000 : Int) - 1) := by rw [IntKind.wrap_i64]; omega
          have hw2 : IntKind.i64.wrap (s + t * ((1000000 : Int) - 1)) = s + t * ((1000000 : Int) - 1) := by rw [IntKind.wrap_i64]; omega
          clear hv
          go_enter Try.func17, Try.ntmps17
          go_wp2_with fail
          refine HS.out.mono ?_
          rintro e w1 ⟨rfl, rfl⟩
          go_wp2_with fail
          go_ret
          exact ⟨by first | rfl | (simp only [Int.sub_self, Int.mul_zero, Int.add_zero]; rfl) | simp, rfl⟩
        · have hv : withinI t e = sumI 1 t + t * (e - 1) := by unfold withinI; rw [if_neg h1, show min t 1000000 = t by omega, show max 1 (min e 1000000) = e by omega]
          rw [hv]
          have HS := Lib.hid (rsum_any 1 t (by omega) (by omega) w)
          have hsl := sumI_le 1 t
          generalize sumI 1 t = s at HS hsl ⊢
          have hle : 0 ≤ t * (e - 1) ∧ t * (e - 1) ≤ 1000000000000 := ⟨Int.mul_nonneg (by omega) (by omega), Int.le_trans (Int.mul_le_mul (show t ≤ 1000000 by omega) (show e - 1 ≤ 1000000 by omega) (by omega) (by omega)) (by decide)⟩
          have hw0 : IntKind.i64.wrap (e - 1) = e - 1 := by rw [IntKind.wrap_i64]; omega
          have hw1 : IntKind.i64.wrap (t * (e - 1)) = t * (e - 1) := by rw [IntKind.wrap_i64]; omega
          have hw2 : IntKind.i64.wrap (s + t * (e - 1)) = s + t * (e - 1) := by rw [IntKind.wrap_i64]; omega
          clear hv
          go_enter Try.func17, Try.ntmps17
          go_wp2_with fail
          refine HS.out.mono ?_
          rintro e w1 ⟨rfl, rfl⟩
          go_wp2_with fail
          go_ret
          exact ⟨by first | rfl | (simp only [Int.sub_self, Int.mul_zero, Int.add_zero]; rfl) | simp, rfl⟩
end Go.Proofs.Ytdkiainmjdcfmaa
