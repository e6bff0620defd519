/-
  RetryTells: delays and sums are told as the document says. No condition.
-/
import Derived.Test.YtdkiainmjdcfmaaRtC
import Derived.Test.YtdkiainmjdcfmaaTkT
namespace Go.Proofs.Ytdkiainmjdcfmaa.retryTells
open Go.ChangeShapes Go.WideShapes Go.ChangeAt Go.RowKit
open Go.ChangeMaps (open_string shut_string)


set_option maxRecDepth 100000 in
set_option maxHeartbeats 8000000 in
theorem walk (n t a b : Int) (hn : -9223372036854775808 ≤ n ∧ n ≤ 9223372036854775807) (ht : -9223372036854775808 ≤ t ∧ t ≤ 9223372036854775807) (ha : -9223372036854775808 ≤ a ∧ a ≤ 9223372036854775807) (hb : -9223372036854775808 ≤ b ∧ b ≤ 9223372036854775807) (w : World) :
    Calls Try.prog 3 #[.int .i64 n, .int .i64 t, .agg #[.int .i64 a, .int .i64 b]] w fun e w' => e = .returned (.bool true) ∧ Below w.heap.size w w' := by
  have hb0 : Below w.heap.size w (w.alloc (.cells #[.int .i64 a, .int .i64 b] 22)) := (Below.refl _ w).alloc (Nat.le_refl _) _
  have HBX := Lib.hid (Blk.new w 22 #[.int .i64 a, .int .i64 b])
  have HB0 := Lib.hid hb0
  clear hb0
  by_cases h1 : 1 ≤ b
  · have hc1 : b ≥ 1 := h1
    by_cases h2 : a ≤ 1000000
    · have hra := rem_le a
      have hrb := rem_le b
      obtain ⟨ra, hra2⟩ : ∃ r, a.tmod 2000 = r := ⟨_, rfl⟩
      have hbe : b.tmod 2000 = b % 2000 := Int.tmod_eq_emod_of_nonneg (by omega)
      obtain ⟨rb, hrb2⟩ : ∃ r, b % 2000 = r := ⟨_, rfl⟩
      rw [hrb2] at hbe
      have hrb3 : rb.tmod 2000 = rb := by rw [Int.tmod_eq_emod_of_nonneg (by omega)]; omega
      have hrb4 : rb % 2000 = rb := by omega
      rw [hra2] at hra
      have hw1 : IntKind.i64.wrap ra = ra := by rw [IntKind.wrap_i64]; omega
      have hA : -9223372036854775808 ≤ ra ∧ ra ≤ 9223372036854775807 := by omega
      have hB : -9223372036854775808 ≤ rb ∧ rb ≤ 9223372036854775807 := by omega
      have H1 := Lib.hid (fun W => delay_any n hn W)
      have H2 := Lib.hid (fun W => rdelay_any n hn W)
      have H3 := Lib.hid (fun W => next_any t n ht hn W)
      have H4 := Lib.hid (fun W => rnext_any t n ht hn W)
      have H5 := Lib.hid (fun W => dead_any n hn W)
      have H6 := Lib.hid (fun W => sum_any ra rb hA hB W)
      have H7 := Lib.hid (fun W => rsum_any ra rb hA hB W)
      have hwr : IntKind.i64.wrap rb = rb := by rw [IntKind.wrap_i64]; omega
      have H8 := Lib.hid (fun W => within_any rb t (by omega) ht W)
      have H9 := Lib.hid (fun W => rwithin_any rb t (by omega) ht W)
      generalize Mi.clock t (dlI n) = nx at H3 H4
      generalize dlI n = dn at H1 H2
      generalize sumI ra rb = sn at H6 H7
      generalize withinI rb t = wn at H8 H9
      clear hA hB
      go_enter Try.func3, Try.ntmps3
      go_wp2_with fail
      refine (awake_any _).mono ?_
      rintro e w1 ⟨rfl, hb1⟩
      have HB1 := Lib.hid (HB0.out.trans (hb1.mono HB0.out.size))
      have hx := HBX.out.of (hb1.block _ HBX.out.lt)
      have x0 := (hx.cell 0).trans rfl
      have x1 := (hx.cell 1).trans rfl
      clear hx
      clear hb1
      go_wp2_with fail
      refine (H1.out _).mono ?_
      rintro e w2 ⟨rfl, hb2⟩
      have HB2 := Lib.hid (HB1.out.trans (hb2.mono HB1.out.size))
      clear hb2
      go_wp2_with fail
      refine (H2.out _).mono ?_
      rintro e wx ⟨rfl, rfl⟩
      go_wp2_with fail
      refine (H3.out _).mono ?_
      rintro e w3 ⟨rfl, hb3⟩
      have HB3 := Lib.hid (HB2.out.trans (hb3.mono HB2.out.size))
      clear hb3
      go_wp2_with fail
      refine (H4.out _).mono ?_
      rintro e wx ⟨rfl, rfl⟩
      go_wp2_with fail
      refine (H5.out _).mono ?_
      rintro e w4 ⟨rfl, hb4⟩
      have HB4 := Lib.hid (HB3.out.trans (hb4.mono HB3.out.size))
      clear hb4
      go_wp2_with fail
      refine (H6.out _).mono ?_
      rintro e w5 ⟨rfl, hb5⟩
      have HB5 := Lib.hid (HB4.out.trans (hb5.mono HB4.out.size))
      clear hb5
      go_wp2_with fail
      refine (H7.out _).mono ?_
      rintro e wx ⟨rfl, rfl⟩
      go_wp2_with fail
      refine (H8.out _).mono ?_
      rintro e w6 ⟨rfl, hb6⟩
      have HB6 := Lib.hid (HB5.out.trans (hb6.mono HB5.out.size))
      clear hb6
      go_wp2_with fail
      refine (H9.out _).mono ?_
      rintro e wx ⟨rfl, rfl⟩
      go_wp2_with fail
      go_ret
      exact ⟨rfl, HB6.out⟩
    · have hA := ha
      have hB := hb
      obtain ⟨rc, hrc⟩ : ∃ r, b % 2000 = r := ⟨_, rfl⟩
      have hrc2 : b.tmod 2000 = rc := by rw [Int.tmod_eq_emod_of_nonneg (by omega)]; exact hrc
      have H1 := Lib.hid (fun W => delay_any n hn W)
      have H2 := Lib.hid (fun W => rdelay_any n hn W)
      have H3 := Lib.hid (fun W => next_any t n ht hn W)
      have H4 := Lib.hid (fun W => rnext_any t n ht hn W)
      have H5 := Lib.hid (fun W => dead_any n hn W)
      have H6 := Lib.hid (fun W => sum_any a b hA hB W)
      have H7 := Lib.hid (fun W => rsum_any a b hA hB W)
      have hwr : IntKind.i64.wrap rc = rc := by rw [IntKind.wrap_i64]; omega
      have H8 := Lib.hid (fun W => within_any rc t (by omega) ht W)
      have H9 := Lib.hid (fun W => rwithin_any rc t (by omega) ht W)
      generalize Mi.clock t (dlI n) = nx at H3 H4
      generalize dlI n = dn at H1 H2
      generalize sumI a b = sn at H6 H7
      generalize withinI rc t = wn at H8 H9
      clear hA hB
      go_enter Try.func3, Try.ntmps3
      go_wp2_with fail
      refine (awake_any _).mono ?_
      rintro e w1 ⟨rfl, hb1⟩
      have HB1 := Lib.hid (HB0.out.trans (hb1.mono HB0.out.size))
      have hx := HBX.out.of (hb1.block _ HBX.out.lt)
      have x0 := (hx.cell 0).trans rfl
      have x1 := (hx.cell 1).trans rfl
      clear hx
      clear hb1
      go_wp2_with fail
      refine (H1.out _).mono ?_
      rintro e w2 ⟨rfl, hb2⟩
      have HB2 := Lib.hid (HB1.out.trans (hb2.mono HB1.out.size))
      clear hb2
      go_wp2_with fail
      refine (H2.out _).mono ?_
      rintro e wx ⟨rfl, rfl⟩
      go_wp2_with fail
      refine (H3.out _).mono ?_
      rintro e w3 ⟨rfl, hb3⟩
      have HB3 := Lib.hid (HB2.out.trans (hb3.mono HB2.out.size))
      clear hb3
      go_wp2_with fail
      refine (H4.out _).mono ?_
      rintro e wx ⟨rfl, rfl⟩
      go_wp2_with fail
      refine (H5.out _).mono ?_
      rintro e w4 ⟨rfl, hb4⟩
      have HB4 := Lib.hid (HB3.out.trans (hb4.mono HB3.out.size))
      clear hb4
      go_wp2_with fail
      refine (H6.out _).mono ?_
      rintro e w5 ⟨rfl, hb5⟩
      have HB5 := Lib.hid (HB4.out.trans (hb5.mono HB4.out.size))
      clear hb5
      go_wp2_with fail
      refine (H7.out _).mono ?_
      rintro e wx ⟨rfl, rfl⟩
      go_wp2_with fail
      refine (H8.out _).mono ?_
      rintro e w6 ⟨rfl, hb6⟩
      have HB6 := Lib.hid (HB5.out.trans (hb6.mono HB5.out.size))
      clear hb6
      go_wp2_with fail
      refine (H9.out _).mono ?_
      rintro e wx ⟨rfl, rfl⟩
      go_wp2_with fail
      go_ret
      exact ⟨rfl, HB6.out⟩
  · have hc1 : ¬ b ≥ 1 := h1
    have hA := ha
    have hB := hb
    have hrl := rem_le b
    obtain ⟨rc, hrc⟩ : ∃ r, b.tmod 2000 = r := ⟨_, rfl⟩
    rw [hrc] at hrl
    have H1 := Lib.hid (fun W => delay_any n hn W)
    have H2 := Lib.hid (fun W => rdelay_any n hn W)
    have H3 := Lib.hid (fun W => next_any t n ht hn W)
    have H4 := Lib.hid (fun W => rnext_any t n ht hn W)
    have H5 := Lib.hid (fun W => dead_any n hn W)
    have H6 := Lib.hid (fun W => sum_any a b hA hB W)
    have H7 := Lib.hid (fun W => rsum_any a b hA hB W)
    have hwr : IntKind.i64.wrap rc = rc := by rw [IntKind.wrap_i64]; omega
    have H8 := Lib.hid (fun W => within_any rc t (by omega) ht W)
    have H9 := Lib.hid (fun W => rwithin_any rc t (by omega) ht W)
    generalize Mi.clock t (dlI n) = nx at H3 H4
    generalize dlI n = dn at H1 H2
    generalize sumI a b = sn at H6 H7
    generalize withinI rc t = wn at H8 H9
    clear hA hB
    go_enter Try.func3, Try.ntmps3
    go_wp2_with fail
    refine (awake_any _).mono ?_
    rintro e w1 ⟨rfl, hb1⟩
    have HB1 := Lib.hid (HB0.out.trans (hb1.mono HB0.out.size))
    have hx := HBX.out.of (hb1.block _ HBX.out.lt)
    have x0 := (hx.cell 0).trans rfl
    have x1 := (hx.cell 1).trans rfl
    clear hx
    clear hb1
    go_wp2_with fail
    refine (H1.out _).mono ?_
    rintro e w2 ⟨rfl, hb2⟩
    have HB2 := Lib.hid (HB1.out.trans (hb2.mono HB1.out.size))
    clear hb2
    go_wp2_with fail
    refine (H2.out _).mono ?_
    rintro e wx ⟨rfl, rfl⟩
    go_wp2_with fail
    refine (H3.out _).mono ?_
    rintro e w3 ⟨rfl, hb3⟩
    have HB3 := Lib.hid (HB2.out.trans (hb3.mono HB2.out.size))
    clear hb3
    go_wp2_with fail
    refine (H4.out _).mono ?_
    rintro e wx ⟨rfl, rfl⟩
    go_wp2_with fail
    refine (H5.out _).mono ?_
    rintro e w4 ⟨rfl, hb4⟩
    have HB4 := Lib.hid (HB3.out.trans (hb4.mono HB3.out.size))
    clear hb4
    go_wp2_with fail
    refine (H6.out _).mono ?_
    rintro e w5 ⟨rfl, hb5⟩
    have HB5 := Lib.hid (HB4.out.trans (hb5.mono HB4.out.size))
    clear hb5
    go_wp2_with fail
    refine (H7.out _).mono ?_
    rintro e wx ⟨rfl, rfl⟩
    go_wp2_with fail
    refine (H8.out _).mono ?_
    rintro e w6 ⟨rfl, hb6⟩
    have HB6 := Lib.hid (HB5.out.trans (hb6.mono HB5.out.size))
    clear hb6
    go_wp2_with fail
    refine (H9.out _).mono ?_
    rintro e wx ⟨rfl, rfl⟩
    go_wp2_with fail
    go_ret
    exact ⟨rfl, HB6.out⟩

/-! ### The row -/
theorem contract (H : Type) (enc : TypeId × Value → H) (W : World) (base : Nat) (args : Array Value) (ds gs : List (DataW H)) (before : List MemPlace)
    (hval : ∀ (j : Nat) t v, Try.f3.params[j]? = some t → args[j]? = some v → Value.okWide Try.prog W .any base t v)
    (hW : DataW.Whole enc Try.prog Try.f3.params.toList Rows.retryTellsSpec.vars false W args.toList ds gs before) :
    Calls Try.prog 3 args W fun e W' => ∃ v, e = .returned v ∧ Rows.retryTellsSpec.post enc Try.prog Try.f3 false true false false W args v W' := by
  have hW' := hW
  obtain ⟨p, q, hA0, hV, rfl, hfz, hnd⟩ := hW
  have hA : DataW.TrodAll enc Try.prog W 0 (fun _ => true) true Try.f3.params.toList args.toList ds p := hA0
  rw [Try.params3] at hA hval
  obtain ⟨v0, vs0, d0, ds0, p0, q0, hargs, rfl, rfl, h0, r0⟩ := trodAll_cons hA
  obtain ⟨v1, vs1, d1, ds1, p1, q1, rfl, rfl, rfl, h1, r1⟩ := trodAll_cons r0
  obtain ⟨v2, vs2, d2, ds2, p2, q2, rfl, rfl, rfl, h2, r2⟩ := trodAll_cons r1
  obtain ⟨rfl, rfl, rfl⟩ := trodAll_nil r2
  obtain rfl : args = #[v0, v1, v2] := by cases args; simp_all
  obtain ⟨rfl, rfl⟩ := trodVars_none hV
  refine law_contract (tb := 4) laidOut (by kernel_rfl) rfl (by kernel_rfl) Try.underlying4 rfl hW' ?_
  clear hA0 hW' hA
  obtain ⟨a0, rfl, rfl, rfl, w0⟩ := open_int Try.underlying3 (hval 0 3 v0 rfl rfl) h0
  obtain ⟨a1, rfl, rfl, rfl, w1⟩ := open_int Try.underlying2 (hval 1 2 v1 rfl rfl) h1
  obtain ⟨zs2, rfl, hz2, wz2⟩ := open_array Try.underlying22 Try.underlying3 cells_i (by kernel_rfl) (hval 2 22 v2 rfl rfl) h2
  obtain ⟨z2_0, z2_1, rfl⟩ : ∃ z2_0 z2_1, zs2 = [z2_0, z2_1] := by
    match zs2, hz2 with
    | [a0, a1], _ => exact ⟨a0, a1, rfl⟩
  exact walk a0 a1 z2_0 z2_1 (bounds_int w0) (bounds_int w1) (bounds_int (wz2 z2_0 (by simp))) (bounds_int (wz2 z2_1 (by simp))) W

set_option maxRecDepth 100000 in
theorem lifted (os : Os) (started : os.Started) (H : Type) (enc : TypeId × Value → H) :
    ReturnsInHanded {} Try.checked os 3 .any (Rows.retryTellsSpec.pre6 enc Try.prog Try.f3 Rows.retryTellsRow.domain false) (Rows.retryTellsSpec.post enc Try.prog Try.f3 false true false false) := by
  refine returnsInHanded_of_change (C := Try.checked) own started (by kernel_rfl) Try.func3
    (ChangeSpec.witness6 (enc := enc) (C := Try.checked) false ⟨#[], #[.int .i64 0, .int .i64 0, .agg #[.int .i64 0, .int .i64 0]], []⟩ 8 (by kernel_rfl) (by kernel_rfl) (by kernel_rfl) (by kernel_rfl)) ?_
  intro W base args ds gs before hval hW _ _
  exact contract H enc W base args ds gs before hval hW

/-- THE STATEMENT. -/
theorem said : Rows.RetryTellsSaid :=
  OpenClaim.holds_of_wide 3 Try.f3 rfl rfl rfl rfl rfl rfl rfl ⟨rfl, rfl, rfl, rfl, rfl⟩ rfl rfl rfl rfl rfl (by kernel_rfl) Try.func3 (by kernel_rfl)
    (of_decide_eq_true (by kernel_rfl)) (by unfold Func.isWrapper; first | (rw [if_pos (by decide +kernel)]; kernel_rfl) | (rw [if_neg (by decide +kernel)]; exact ⟨rfl, rfl⟩))
    (fun os started H enc _ => lifted os started H enc)
#print axioms said
end Go.Proofs.Ytdkiainmjdcfmaa.retryTells
