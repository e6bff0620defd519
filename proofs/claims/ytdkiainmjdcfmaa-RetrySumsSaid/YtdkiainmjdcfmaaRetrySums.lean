/-
  RetrySums: a sum is its parts'; of one attempt it is its delay. No condition.
-/
import Derived.Test.YtdkiainmjdcfmaaRtC
import Derived.Test.YtdkiainmjdcfmaaTkT
namespace Go.Proofs.Ytdkiainmjdcfmaa.retrySums
open Go.ChangeShapes Go.WideShapes Go.ChangeAt Go.RowKit
open Go.ChangeMaps (open_string shut_string)


theorem sumI_nat (a b : Nat) (ha : 1 ≤ a) (hb : b ≤ 1000000) : sumI (a : Int) (b : Int) = (Rt.sum a b : Int) := by
  unfold sumI
  rw [show (max (a : Int) 1).toNat = a by omega, show (min (b : Int) 1000000).toNat = b by omega]
theorem sumI_low (a : Int) (b : Int) (ha : a ≤ 1) : sumI a b = sumI 1 b := by
  unfold sumI
  rw [show (max a 1).toNat = (max 1 1 : Int).toNat by omega]
set_option maxRecDepth 100000 in
set_option maxHeartbeats 8000000 in
theorem walk (q0 q1 q2 : Int) (w : World) :
    Calls Try.prog 5 #[.agg #[.int .i64 q0, .int .i64 q1, .int .i64 q2]] w fun e w' => e = .returned (.bool true) ∧ Below w.heap.size w w' := by
  have hb0 : Below w.heap.size w (w.alloc (.cells #[.int .i64 q0, .int .i64 q1, .int .i64 q2] 31)) := (Below.refl _ w).alloc (Nat.le_refl _) _
  have HBX := Lib.hid (Blk.new w 31 #[.int .i64 q0, .int .i64 q1, .int .i64 q2])
  have HB0 := Lib.hid hb0
  have m0 := and255 q0
  have m1 := and127 q1
  have m2 := and127 q2
  have l0 := lo_lt q0 256 (by decide)
  have l1 := lo_lt q1 128 (by decide)
  have l2 := lo_lt q2 128 (by decide)
  obtain ⟨t0, ht0⟩ : ∃ t, lo q0 256 = t := ⟨_, rfl⟩
  obtain ⟨t1, ht1⟩ : ∃ t, lo q1 128 = t := ⟨_, rfl⟩
  obtain ⟨t2, ht2⟩ : ∃ t, lo q2 128 = t := ⟨_, rfl⟩
  rw [ht0] at m0 l0
  rw [ht1] at m1 l1
  rw [ht2] at m2 l2
  obtain ⟨a, ha⟩ : ∃ a, 1 + t0 = a := ⟨_, rfl⟩
  obtain ⟨b, hb⟩ : ∃ b, a + t1 = b := ⟨_, rfl⟩
  obtain ⟨b1, hb1⟩ : ∃ b1, b + 1 = b1 := ⟨_, rfl⟩
  obtain ⟨c, hc⟩ : ∃ c, b1 + t2 = c := ⟨_, rfl⟩
  have v0 : IntKind.i64.wrap (1 + (t0 : Int)) = (a : Int) := by rw [IntKind.wrap_i64]; omega
  have v1 : IntKind.i64.wrap ((a : Int) + (t1 : Int)) = (b : Int) := by rw [IntKind.wrap_i64]; omega
  have v2 : IntKind.i64.wrap ((b : Int) + 1) = (b1 : Int) := by rw [IntKind.wrap_i64]; omega
  have v3 : IntKind.i64.wrap ((b1 : Int) + (t2 : Int)) = (c : Int) := by rw [IntKind.wrap_i64]; omega
  have v4 : IntKind.i64.wrap (-(a : Int)) = -(a : Int) := by rw [IntKind.wrap_i64]; omega
  have e1 := Rt.sum_parts a b c (by omega) (by omega) (by omega)
  rw [hb1] at e1
  have e2 := Rt.sum_one a (by omega)
  have e3 := Rt.sum_none b1 b (by omega)
  have k1 := sum_le a b
  have k2 := sum_le b1 c
  have H1 := Lib.hid (fun W => sum_any (a : Int) (c : Int) (by omega) (by omega) W)
  have H2 := Lib.hid (fun W => sum_any (a : Int) (b : Int) (by omega) (by omega) W)
  have H3 := Lib.hid (fun W => sum_any (b1 : Int) (c : Int) (by omega) (by omega) W)
  have H4 := Lib.hid (fun W => sum_any (a : Int) (a : Int) (by omega) (by omega) W)
  have H5 := Lib.hid (fun W => delay_any (a : Int) (by omega) W)
  have H6 := Lib.hid (fun W => sum_any (b1 : Int) (b : Int) (by omega) (by omega) W)
  have H7 := Lib.hid (fun W => sum_any (-(a : Int)) (b : Int) (by omega) (by omega) W)
  have H8 := Lib.hid (fun W => sum_any 1 (b : Int) (by omega) (by omega) W)
  rw [sumI_nat a c (by omega) (by omega)] at H1
  rw [sumI_nat a b (by omega) (by omega)] at H2
  rw [sumI_nat b1 c (by omega) (by omega)] at H3
  rw [sumI_nat a a (by omega) (by omega), e2] at H4
  rw [show dlI (a : Int) = (Rt.dl a : Int) by unfold dlI; rw [Int.toNat_natCast]] at H5
  rw [sumI_nat b1 b (by omega) (by omega), e3] at H6
  rw [sumI_low (-(a : Int)) b (by omega)] at H7
  obtain ⟨s1, hs1⟩ : ∃ s, Rt.sum a c = s := ⟨_, rfl⟩
  obtain ⟨s2, hs2⟩ : ∃ s, Rt.sum a b = s := ⟨_, rfl⟩
  obtain ⟨s3, hs3⟩ : ∃ s, Rt.sum b1 c = s := ⟨_, rfl⟩
  rw [hs1] at H1 e1
  rw [hs2] at H2 e1 k1
  rw [hs3] at H3 e1 k2
  have v5 : IntKind.i64.wrap ((s2 : Int) + (s3 : Int)) = (s1 : Int) := by rw [IntKind.wrap_i64]; omega
  generalize sumI 1 (b : Int) = s4 at H7 H8
  generalize Rt.dl a = d at H4 H5
  clear hb0 ht0 ht1 ht2 ha hb hb1 hc e1 e2 e3 hs1 hs2 hs3
  go_enter Try.func5, Try.ntmps5
  go_wp2_with fail
  refine (awake_any _).mono ?_
  rintro e w1 ⟨rfl, hb1⟩
  have HB1 := Lib.hid (HB0.out.trans (hb1.mono HB0.out.size))
  have hx := HBX.out.of (hb1.block _ HBX.out.lt)
  have x0 := (hx.cell 0).trans rfl
  have x1 := (hx.cell 1).trans rfl
  have x2 := (hx.cell 2).trans rfl
  clear hx
  clear hb1
  go_wp2_with fail
  refine (H1.out _).mono ?_
  rintro e w2 ⟨rfl, hb2⟩
  have HB2 := Lib.hid (HB1.out.trans (hb2.mono HB1.out.size))
  clear hb2
  go_wp2_with fail
  refine (H2.out _).mono ?_
  rintro e w3 ⟨rfl, hb3⟩
  have HB3 := Lib.hid (HB2.out.trans (hb3.mono HB2.out.size))
  clear hb3
  go_wp2_with fail
  refine (H3.out _).mono ?_
  rintro e w4 ⟨rfl, hb4⟩
  have HB4 := Lib.hid (HB3.out.trans (hb4.mono HB3.out.size))
  clear hb4
  go_wp2_with fail
  refine (H4.out _).mono ?_
  rintro e w5 ⟨rfl, hb5⟩
  have HB5 := Lib.hid (HB4.out.trans (hb5.mono HB4.out.size))
  clear hb5
  go_wp2_with fail
  refine (H5.out _).mono ?_
  rintro e w6 ⟨rfl, hb6⟩
  have HB6 := Lib.hid (HB5.out.trans (hb6.mono HB5.out.size))
  clear hb6
  go_wp2_with fail
  refine (H6.out _).mono ?_
  rintro e w7 ⟨rfl, hb7⟩
  have HB7 := Lib.hid (HB6.out.trans (hb7.mono HB6.out.size))
  clear hb7
  go_wp2_with fail
  refine (H7.out _).mono ?_
  rintro e w8 ⟨rfl, hb8⟩
  have HB8 := Lib.hid (HB7.out.trans (hb8.mono HB7.out.size))
  clear hb8
  go_wp2_with fail
  refine (H8.out _).mono ?_
  rintro e w9 ⟨rfl, hb9⟩
  have HB9 := Lib.hid (HB8.out.trans (hb9.mono HB8.out.size))
  clear hb9
  go_wp2_with fail
  go_ret
  exact ⟨rfl, HB9.out⟩

/-! ### The row -/
theorem contract (H : Type) (enc : TypeId × Value → H) (W : World) (base : Nat) (args : Array Value) (ds gs : List (DataW H)) (before : List MemPlace)
    (hval : ∀ (j : Nat) t v, Try.f5.params[j]? = some t → args[j]? = some v → Value.okWide Try.prog W .any base t v)
    (hW : DataW.Whole enc Try.prog Try.f5.params.toList Rows.retrySumsSpec.vars false W args.toList ds gs before) :
    Calls Try.prog 5 args W fun e W' => ∃ v, e = .returned v ∧ Rows.retrySumsSpec.post enc Try.prog Try.f5 false true false false W args v W' := by
  have hW' := hW
  obtain ⟨p, q, hA0, hV, rfl, hfz, hnd⟩ := hW
  have hA : DataW.TrodAll enc Try.prog W 0 (fun _ => true) true Try.f5.params.toList args.toList ds p := hA0
  rw [Try.params5] at hA hval
  obtain ⟨v0, vs0, d0, ds0, p0, q0, hargs, rfl, rfl, h0, r0⟩ := trodAll_cons hA
  obtain ⟨rfl, rfl, rfl⟩ := trodAll_nil r0
  obtain rfl : args = #[v0] := by cases args; simp_all
  obtain ⟨rfl, rfl⟩ := trodVars_none hV
  refine law_contract (tb := 4) laidOut (by kernel_rfl) rfl (by kernel_rfl) Try.underlying4 rfl hW' ?_
  clear hA0 hW' hA
  obtain ⟨zs0, rfl, hz0, wz0⟩ := open_array Try.underlying31 Try.underlying3 cells_i (by kernel_rfl) (hval 0 31 v0 rfl rfl) h0
  obtain ⟨z0_0, z0_1, z0_2, rfl⟩ : ∃ z0_0 z0_1 z0_2, zs0 = [z0_0, z0_1, z0_2] := by
    match zs0, hz0 with
    | [a0, a1, a2], _ => exact ⟨a0, a1, a2, rfl⟩
  exact walk z0_0 z0_1 z0_2 W

set_option maxRecDepth 100000 in
theorem lifted (os : Os) (started : os.Started) (H : Type) (enc : TypeId × Value → H) :
    ReturnsInHanded {} Try.checked os 5 .any (Rows.retrySumsSpec.pre6 enc Try.prog Try.f5 Rows.retrySumsRow.domain false) (Rows.retrySumsSpec.post enc Try.prog Try.f5 false true false false) := by
  refine returnsInHanded_of_change (C := Try.checked) own started (by kernel_rfl) Try.func5
    (ChangeSpec.witness6 (enc := enc) (C := Try.checked) false ⟨#[], #[.agg #[.int .i64 0, .int .i64 0, .int .i64 0]], []⟩ 8 (by kernel_rfl) (by kernel_rfl) (by kernel_rfl) (by kernel_rfl)) ?_
  intro W base args ds gs before hval hW _ _
  exact contract H enc W base args ds gs before hval hW

/-- THE STATEMENT. -/
theorem said : Rows.RetrySumsSaid :=
  OpenClaim.holds_of_wide 5 Try.f5 rfl rfl rfl rfl rfl rfl rfl ⟨rfl, rfl, rfl, rfl, rfl⟩ rfl rfl rfl rfl rfl (by kernel_rfl) Try.func5 (by kernel_rfl)
    (of_decide_eq_true (by kernel_rfl)) (by unfold Func.isWrapper; first | (rw [if_pos (by decide +kernel)]; kernel_rfl) | (rw [if_neg (by decide +kernel)]; exact ⟨rfl, rfl⟩))
    (fun os started H enc _ => lifted os started H enc)
#print axioms said
end Go.Proofs.Ytdkiainmjdcfmaa.retrySums
