/-
  RetryRises: delays never fall, and are at most 64; two more attempts are no sooner. No condition.
-/
import Derived.Test.YtdkiainmjdcfmaaRtC
import Derived.Test.YtdkiainmjdcfmaaTkT
namespace Go.Proofs.Ytdkiainmjdcfmaa.retryRises
open Go.ChangeShapes Go.WideShapes Go.ChangeAt Go.RowKit
open Go.ChangeMaps (open_string shut_string)


set_option maxRecDepth 100000 in
set_option maxHeartbeats 8000000 in
theorem walk (n t : Int) (hn : -9223372036854775808 ≤ n ∧ n ≤ 9223372036854775807) (w : World) :
    Calls Try.prog 4 #[.int .i64 n, .int .i64 t] w fun e w' => e = .returned (.bool true) ∧ Below w.heap.size w w' := by
  have hm := and40 t
  have hl := lo_lt t 1099511627776 (by decide)
  obtain ⟨now, hnow⟩ : ∃ x, lo t 1099511627776 = x := ⟨_, rfl⟩
  rw [hnow] at hm hl
  clear hnow
  by_cases hb : n > 4611686018427387904
  · have dg : ∀ k : Int, 7 ≤ k → dlI k = 64 := fun k h => by unfold dlI; rw [Rt.dl_great _ (by omega)]; rfl
    have H1 := Lib.hid (fun W => delay_any 4611686018427387904 (by omega) W)
    have H2 := Lib.hid (fun W => delay_any 4611686018427387905 (by omega) W)
    have H3 := Lib.hid (fun W => next_any (now : Int) 4611686018427387904 (by omega) (by omega) W)
    have H4 := Lib.hid (fun W => next_any (now : Int) 4611686018427387905 (by omega) (by omega) W)
    have H5 := Lib.hid (fun W => dead_any 4611686018427387904 (by omega) W)
    have H6 := Lib.hid (fun W => dead_any 4611686018427387905 (by omega) W)
    rw [dg _ (by decide)] at H1 H2 H3 H4
    rw [decide_eq_true (show (8 : Int) ≤ 4611686018427387904 by decide)] at H5
    rw [decide_eq_true (show (8 : Int) ≤ 4611686018427387905 by decide)] at H6
    obtain ⟨x, hx⟩ : ∃ x, Mi.clock (now : Int) 64 = x := ⟨_, rfl⟩
    have g4 : x ≥ (now : Int) := by rw [← hx]; unfold Mi.clock; rw [if_neg (by omega)]; split <;> omega
    rw [hx] at H3 H4
    have HB0 := Lib.hid (Below.refl w.heap.size w)
    clear hx dg
    go_enter Try.func4, Try.ntmps4
    go_wp2_with fail
    refine (awake_any _).mono ?_
    rintro e w1 ⟨rfl, hb1⟩
    have HB1 := Lib.hid (HB0.out.trans (hb1.mono HB0.out.size))
    clear hb1
    go_wp2_with fail
    refine (H1.out _).mono ?_
    rintro e w2 ⟨rfl, hb2⟩
    have HB2 := Lib.hid (HB1.out.trans (hb2.mono HB1.out.size))
    clear hb2
    go_wp2_with fail
    refine (H2.out _).mono ?_
    rintro e w3 ⟨rfl, hb3⟩
    have HB3 := Lib.hid (HB2.out.trans (hb3.mono HB2.out.size))
    clear hb3
    go_wp2_with fail
    refine (H3.out _).mono ?_
    rintro e w4 ⟨rfl, hb4⟩
    have HB4 := Lib.hid (HB3.out.trans (hb4.mono HB3.out.size))
    clear hb4
    go_wp2_with fail
    refine (H3.out _).mono ?_
    rintro e w5 ⟨rfl, hb5⟩
    have HB5 := Lib.hid (HB4.out.trans (hb5.mono HB4.out.size))
    clear hb5
    go_wp2_with fail
    refine (H4.out _).mono ?_
    rintro e w6 ⟨rfl, hb6⟩
    have HB6 := Lib.hid (HB5.out.trans (hb6.mono HB5.out.size))
    clear hb6
    go_wp2_with fail
    refine (H5.out _).mono ?_
    rintro e w7 ⟨rfl, hb7⟩
    have HB7 := Lib.hid (HB6.out.trans (hb7.mono HB6.out.size))
    clear hb7
    go_wp2_with fail
    refine (H6.out _).mono ?_
    rintro e w8 ⟨rfl, hb8⟩
    have HB8 := Lib.hid (HB7.out.trans (hb8.mono HB7.out.size))
    clear hb8
    go_wp2_with fail
    go_ret
    exact ⟨rfl, HB8.out⟩
  · obtain ⟨x, hx⟩ : ∃ x, Mi.clock (now : Int) (dlI n) = x := ⟨_, rfl⟩
    obtain ⟨y, hy⟩ : ∃ y, Mi.clock (now : Int) (dlI (n + 1)) = y := ⟨_, rfl⟩
    have r1 := dlI_le n
    have r2 := dlI_le (n + 1)
    have r3 : dlI n ≤ dlI (n + 1) := by unfold dlI; have := dl_mono (show (n).toNat ≤ (n + 1).toNat by omega); omega
    have r4 : 1 ≤ n → 1 ≤ dlI n := fun h => by unfold dlI; have := Rt.dl_pos (n).toNat (by omega); omega
    have c1 : x = min ((now : Int) + dlI n) 1099511627776 := by rw [← hx]; unfold Mi.clock; rw [if_neg (by omega)]; split <;> omega
    have c2 : y = min ((now : Int) + dlI (n + 1)) 1099511627776 := by rw [← hy]; unfold Mi.clock; rw [if_neg (by omega)]; split <;> omega
    have H1 := Lib.hid (fun W => delay_any n (by omega) W)
    have H2 := Lib.hid (fun W => delay_any (n + 1) (by omega) W)
    have H3 := Lib.hid (fun W => next_any (now : Int) n (by omega) (by omega) W)
    have H4 := Lib.hid (fun W => next_any (now : Int) (n + 1) (by omega) (by omega) W)
    have H5 := Lib.hid (fun W => dead_any n (by omega) W)
    have H6 := Lib.hid (fun W => dead_any (n + 1) (by omega) W)
    rw [hx] at H3
    rw [hy] at H4
    generalize dlI n = a at H1 r1 r3 r4 c1
    generalize dlI (n + 1) = b at H2 r2 r3 c2
    have g1 : a ≥ 0 := by omega
    have g2 : a ≤ b := by omega
    have g3 : b ≤ 64 := by omega
    have g4 : x ≥ (now : Int) := by omega
    have g5 : x ≤ y := by omega
    have hwk : IntKind.i64.wrap (n + 1) = n + 1 := by rw [IntKind.wrap_i64]; omega
    have HB0 := Lib.hid (Below.refl w.heap.size w)
    clear hx hy c1 c2 r1 r2 r3
    by_cases hk : n < 1
    · have hd : decide (8 ≤ n) = false := decide_eq_false (by omega)
      rw [hd] at H5
      clear r4
      go_enter Try.func4, Try.ntmps4
      go_wp2_with fail
      refine (awake_any _).mono ?_
      rintro e w1 ⟨rfl, hb1⟩
      have HB1 := Lib.hid (HB0.out.trans (hb1.mono HB0.out.size))
      clear hb1
      go_wp2_with fail
      refine (H1.out _).mono ?_
      rintro e w2 ⟨rfl, hb2⟩
      have HB2 := Lib.hid (HB1.out.trans (hb2.mono HB1.out.size))
      clear hb2
      go_wp2_with fail
      refine (H2.out _).mono ?_
      rintro e w3 ⟨rfl, hb3⟩
      have HB3 := Lib.hid (HB2.out.trans (hb3.mono HB2.out.size))
      clear hb3
      go_wp2_with fail
      refine (H3.out _).mono ?_
      rintro e w4 ⟨rfl, hb4⟩
      have HB4 := Lib.hid (HB3.out.trans (hb4.mono HB3.out.size))
      clear hb4
      go_wp2_with fail
      refine (H3.out _).mono ?_
      rintro e w5 ⟨rfl, hb5⟩
      have HB5 := Lib.hid (HB4.out.trans (hb5.mono HB4.out.size))
      clear hb5
      go_wp2_with fail
      refine (H4.out _).mono ?_
      rintro e w6 ⟨rfl, hb6⟩
      have HB6 := Lib.hid (HB5.out.trans (hb6.mono HB5.out.size))
      clear hb6
      go_wp2_with fail
      refine (H5.out _).mono ?_
      rintro e w7 ⟨rfl, hb7⟩
      have HB7 := Lib.hid (HB6.out.trans (hb7.mono HB6.out.size))
      clear hb7
      go_wp2_with fail
      go_ret
      exact ⟨rfl, HB7.out⟩
    · have g6 : a ≥ 1 := r4 (by omega)
      clear r4
      by_cases h8 : 8 ≤ n
      · have hd : decide (8 ≤ n) = true := decide_eq_true h8
        have hd2 : decide (8 ≤ n + 1) = true := decide_eq_true (by omega)
        rw [hd] at H5
        rw [hd2] at H6
        go_enter Try.func4, Try.ntmps4
        go_wp2_with fail
        refine (awake_any _).mono ?_
        rintro e w1 ⟨rfl, hb1⟩
        have HB1 := Lib.hid (HB0.out.trans (hb1.mono HB0.out.size))
        clear hb1
        go_wp2_with fail
        refine (H1.out _).mono ?_
        rintro e w2 ⟨rfl, hb2⟩
        have HB2 := Lib.hid (HB1.out.trans (hb2.mono HB1.out.size))
        clear hb2
        go_wp2_with fail
        refine (H2.out _).mono ?_
        rintro e w3 ⟨rfl, hb3⟩
        have HB3 := Lib.hid (HB2.out.trans (hb3.mono HB2.out.size))
        clear hb3
        go_wp2_with fail
        refine (H3.out _).mono ?_
        rintro e w4 ⟨rfl, hb4⟩
        have HB4 := Lib.hid (HB3.out.trans (hb4.mono HB3.out.size))
        clear hb4
        go_wp2_with fail
        refine (H3.out _).mono ?_
        rintro e w5 ⟨rfl, hb5⟩
        have HB5 := Lib.hid (HB4.out.trans (hb5.mono HB4.out.size))
        clear hb5
        go_wp2_with fail
        refine (H4.out _).mono ?_
        rintro e w6 ⟨rfl, hb6⟩
        have HB6 := Lib.hid (HB5.out.trans (hb6.mono HB5.out.size))
        clear hb6
        go_wp2_with fail
        refine (H5.out _).mono ?_
        rintro e w7 ⟨rfl, hb7⟩
        have HB7 := Lib.hid (HB6.out.trans (hb7.mono HB6.out.size))
        clear hb7
        go_wp2_with fail
        refine (H6.out _).mono ?_
        rintro e w8 ⟨rfl, hb8⟩
        have HB8 := Lib.hid (HB7.out.trans (hb8.mono HB7.out.size))
        clear hb8
        go_wp2_with fail
        go_ret
        exact ⟨rfl, HB8.out⟩
      · have hd : decide (8 ≤ n) = false := decide_eq_false h8
        rw [hd] at H5
        go_enter Try.func4, Try.ntmps4
        go_wp2_with fail
        refine (awake_any _).mono ?_
        rintro e w1 ⟨rfl, hb1⟩
        have HB1 := Lib.hid (HB0.out.trans (hb1.mono HB0.out.size))
        clear hb1
        go_wp2_with fail
        refine (H1.out _).mono ?_
        rintro e w2 ⟨rfl, hb2⟩
        have HB2 := Lib.hid (HB1.out.trans (hb2.mono HB1.out.size))
        clear hb2
        go_wp2_with fail
        refine (H2.out _).mono ?_
        rintro e w3 ⟨rfl, hb3⟩
        have HB3 := Lib.hid (HB2.out.trans (hb3.mono HB2.out.size))
        clear hb3
        go_wp2_with fail
        refine (H3.out _).mono ?_
        rintro e w4 ⟨rfl, hb4⟩
        have HB4 := Lib.hid (HB3.out.trans (hb4.mono HB3.out.size))
        clear hb4
        go_wp2_with fail
        refine (H3.out _).mono ?_
        rintro e w5 ⟨rfl, hb5⟩
        have HB5 := Lib.hid (HB4.out.trans (hb5.mono HB4.out.size))
        clear hb5
        go_wp2_with fail
        refine (H4.out _).mono ?_
        rintro e w6 ⟨rfl, hb6⟩
        have HB6 := Lib.hid (HB5.out.trans (hb6.mono HB5.out.size))
        clear hb6
        go_wp2_with fail
        refine (H5.out _).mono ?_
        rintro e w7 ⟨rfl, hb7⟩
        have HB7 := Lib.hid (HB6.out.trans (hb7.mono HB6.out.size))
        clear hb7
        go_wp2_with fail
        go_ret
        exact ⟨rfl, HB7.out⟩


/-! ### The row -/
theorem contract (H : Type) (enc : TypeId × Value → H) (W : World) (base : Nat) (args : Array Value) (ds gs : List (DataW H)) (before : List MemPlace)
    (hval : ∀ (j : Nat) t v, Try.f4.params[j]? = some t → args[j]? = some v → Value.okWide Try.prog W .any base t v)
    (hW : DataW.Whole enc Try.prog Try.f4.params.toList Rows.retryRisesSpec.vars false W args.toList ds gs before) :
    Calls Try.prog 4 args W fun e W' => ∃ v, e = .returned v ∧ Rows.retryRisesSpec.post enc Try.prog Try.f4 false true false false W args v W' := by
  have hW' := hW
  obtain ⟨p, q, hA0, hV, rfl, hfz, hnd⟩ := hW
  have hA : DataW.TrodAll enc Try.prog W 0 (fun _ => true) true Try.f4.params.toList args.toList ds p := hA0
  rw [Try.params4] at hA hval
  obtain ⟨v0, vs0, d0, ds0, p0, q0, hargs, rfl, rfl, h0, r0⟩ := trodAll_cons hA
  obtain ⟨v1, vs1, d1, ds1, p1, q1, rfl, rfl, rfl, h1, r1⟩ := trodAll_cons r0
  obtain ⟨rfl, rfl, rfl⟩ := trodAll_nil r1
  obtain rfl : args = #[v0, v1] := by cases args; simp_all
  obtain ⟨rfl, rfl⟩ := trodVars_none hV
  refine law_contract (tb := 4) laidOut (by kernel_rfl) rfl (by kernel_rfl) Try.underlying4 rfl hW' ?_
  clear hA0 hW' hA
  obtain ⟨a0, rfl, rfl, rfl, w0⟩ := open_int Try.underlying3 (hval 0 3 v0 rfl rfl) h0
  obtain ⟨a1, rfl, rfl, rfl, w1⟩ := open_int Try.underlying2 (hval 1 2 v1 rfl rfl) h1
  exact walk a0 a1 (bounds_int w0) W

set_option maxRecDepth 100000 in
theorem lifted (os : Os) (started : os.Started) (H : Type) (enc : TypeId × Value → H) :
    ReturnsInHanded {} Try.checked os 4 .any (Rows.retryRisesSpec.pre6 enc Try.prog Try.f4 Rows.retryRisesRow.domain false) (Rows.retryRisesSpec.post enc Try.prog Try.f4 false true false false) := by
  refine returnsInHanded_of_change (C := Try.checked) own started (by kernel_rfl) Try.func4
    (ChangeSpec.witness6 (enc := enc) (C := Try.checked) false ⟨#[], #[.int .i64 0, .int .i64 0], []⟩ 8 (by kernel_rfl) (by kernel_rfl) (by kernel_rfl) (by kernel_rfl)) ?_
  intro W base args ds gs before hval hW _ _
  exact contract H enc W base args ds gs before hval hW

/-- THE STATEMENT. -/
theorem said : Rows.RetryRisesSaid :=
  OpenClaim.holds_of_wide 4 Try.f4 rfl rfl rfl rfl rfl rfl rfl ⟨rfl, rfl, rfl, rfl, rfl⟩ rfl rfl rfl rfl rfl (by kernel_rfl) Try.func4 (by kernel_rfl)
    (of_decide_eq_true (by kernel_rfl)) (by unfold Func.isWrapper; first | (rw [if_pos (by decide +kernel)]; kernel_rfl) | (rw [if_neg (by decide +kernel)]; exact ⟨rfl, rfl⟩))
    (fun os started H enc _ => lifted os started H enc)
#print axioms said
end Go.Proofs.Ytdkiainmjdcfmaa.retryRises
