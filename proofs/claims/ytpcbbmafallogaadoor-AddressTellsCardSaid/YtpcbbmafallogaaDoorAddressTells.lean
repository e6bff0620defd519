/-
  Proves the statement of AddressTells: for every two texts and every row of integers the law returns true (addresses are told as the document's own functions tell them), and its arguments read as they did. Condition: the package-level tables first and acceptRanges of the library hold what their texts lay (they are read by no call of this law's).
-/
import Derived.Test.YtpcbbmafallogaaDoorAdP
import Derived.Test.YtpcbbmafallogaaDoorAdS
import Derived.Test.YtpcbbmafallogaaDoorCards
import Derived.Test.YtpcbbmafallogaaDoorTie
namespace Go.Proofs.YtpcbbmafallogaaDoor.addressTells
open Go.ChangeShapes Go.WideShapes Go.ChangeAt Go.RowKit
open Go.ChangeMaps (open_string shut_string)

set_option maxRecDepth 100000 in
set_option maxHeartbeats 8000000 in
theorem walk (s0 : ByteArray) (hs0 : s0.size ≤ maxLen) (A0 : Option Addr) (c0 : Nat) (l : List Int) (hl : l.length ≤ maxLen) (t0 : ByteArray) (ht0 : t0.size ≤ maxLen) (w : World) (hA : Lies (fun _ => False) w A0 (ci l)) (hm : MaxIs w) :
    Calls Tryd.prog 3 #[.string s0, .slice A0 l.length c0, .string t0] w fun e w' => e = .returned (.bool true) ∧ Below w.heap.size w w' := by
  have hcs := cut_size s0 60
  have HSs := Lib.hid (fun W => short_any s0 60 hs0 W)
  generalize cut s0 60 = s at hcs HSs
  have hct := cut_size t0 10
  have HSt := Lib.hid (fun W => short_any t0 10 ht0 W)
  generalize cut t0 10 = t at hct HSt
  have HMF := Lib.hid (fun W h => made_any A0 c0 l hl false W h)
  have HMT := Lib.hid (fun W h => made_any A0 c0 l hl true W h)
  have HO := Lib.hid (fun S hS W h => tells_any S hS W h)
  have HA := Lib.hid hA
  have HM := Lib.hid hm
  clear hA hm hs0 ht0
  go_enter Tryd.func3, Tryd.ntmps3
  go_wp2_with fail
  refine (awake_any w HM.out).mono ?_
  rintro e w1 ⟨rfl, hb⟩
  have HB1 := Lib.hid hb
  have HM1 := Lib.hid (HM.out.below hb)
  have HA1 := Lib.hid (HA.out.below hb)
  clear hb HM HA
  go_wp2_with fail
  refine (HSs.out _).mono ?_
  rintro e wx ⟨rfl, hwx⟩
  obtain rfl : w1 = wx := hwx
  go_wp2_with fail
  refine (HSt.out _).mono ?_
  rintro e wx ⟨rfl, hwx⟩
  obtain rfl : w1 = wx := hwx
  go_wp2_with fail
  refine (HMF.out _ HA1.out).mono ?_
  rintro e wm ⟨⟨a, ha, rfl⟩, hwm⟩
  obtain rfl : w1 = wm := hwm.symm
  go_wp2_with fail
  refine (HMT.out _ HA1.out).mono ?_
  rintro e wm ⟨⟨b, hb0, rfl⟩, hwm⟩
  obtain rfl : w1 = wm := hwm.symm
  clear HMF HMT HSs HSt HA1
  obtain ⟨X1, hX1⟩ : ∃ X : ByteArray, a ++ ⟨#[64]⟩ = X := ⟨_, rfl⟩
  have hzX1 : X1.size ≤ 32 := by
    rw [← hX1, ByteArray.size_append]
    have : (⟨#[64]⟩ : ByteArray).size = 1 := rfl
    omega
  obtain ⟨X2, hX2⟩ : ∃ X : ByteArray, X1 ++ t = X := ⟨_, rfl⟩
  have hzX2 : X2.size ≤ 42 := by
    rw [← hX2, ByteArray.size_append]
    omega
  obtain ⟨X3, hX3⟩ : ∃ X : ByteArray, X2 ++ ⟨#[120, 46, 111, 114, 103]⟩ = X := ⟨_, rfl⟩
  have hzX3 : X3.size ≤ 47 := by
    rw [← hX3, ByteArray.size_append]
    have : (⟨#[120, 46, 111, 114, 103]⟩ : ByteArray).size = 5 := rfl
    omega
  obtain ⟨Y1, hY1⟩ : ∃ X : ByteArray, t ++ a = X := ⟨_, rfl⟩
  have hzY1 : Y1.size ≤ 41 := by
    rw [← hY1, ByteArray.size_append]
    omega
  obtain ⟨Y2, hY2⟩ : ∃ X : ByteArray, Y1 ++ ⟨#[43]⟩ = X := ⟨_, rfl⟩
  have hzY2 : Y2.size ≤ 42 := by
    rw [← hY2, ByteArray.size_append]
    have : (⟨#[43]⟩ : ByteArray).size = 1 := rfl
    omega
  obtain ⟨Y3, hY3⟩ : ∃ X : ByteArray, Y2 ++ t = X := ⟨_, rfl⟩
  have hzY3 : Y3.size ≤ 52 := by
    rw [← hY3, ByteArray.size_append]
    omega
  obtain ⟨Y4, hY4⟩ : ∃ X : ByteArray, Y3 ++ ⟨#[64, 97, 45, 98, 46, 100, 101]⟩ = X := ⟨_, rfl⟩
  have hzY4 : Y4.size ≤ 59 := by
    rw [← hY4, ByteArray.size_append]
    have : (⟨#[64, 97, 45, 98, 46, 100, 101]⟩ : ByteArray).size = 7 := rfl
    omega
  obtain ⟨Z1, hZ1⟩ : ∃ X : ByteArray, ⟨#[32]⟩ ++ b = X := ⟨_, rfl⟩
  have hzZ1 : Z1.size ≤ 32 := by
    rw [← hZ1, ByteArray.size_append]
    have : (⟨#[32]⟩ : ByteArray).size = 1 := rfl
    omega
  obtain ⟨Z2, hZ2⟩ : ∃ X : ByteArray, Z1 ++ t = X := ⟨_, rfl⟩
  have hzZ2 : Z2.size ≤ 42 := by
    rw [← hZ2, ByteArray.size_append]
    omega
  go_wp2_with fail
  refine (HO.out s (by omega) _ HM1.out).mono ?_
  rintro e w2 ⟨rfl, hb⟩
  have HB2 := Lib.hid (HB1.out.trans (hb.mono HB1.out.size))
  have HM2 := Lib.hid (HM1.out.below hb)
  clear hb HM1
  go_wp2_with fail
  refine (HO.out a (by omega) _ HM2.out).mono ?_
  rintro e w3 ⟨rfl, hb⟩
  have HB3 := Lib.hid (HB2.out.trans (hb.mono HB2.out.size))
  have HM3 := Lib.hid (HM2.out.below hb)
  clear hb HM2
  go_wp2_with fail
  refine (HO.out b (by omega) _ HM3.out).mono ?_
  rintro e w4 ⟨rfl, hb⟩
  have HB4 := Lib.hid (HB3.out.trans (hb.mono HB3.out.size))
  have HM4 := Lib.hid (HM3.out.below hb)
  clear hb HM3
  go_wp2_with fail
  refine (HO.out X3 (by omega) _ HM4.out).mono ?_
  rintro e w5 ⟨rfl, hb⟩
  have HB5 := Lib.hid (HB4.out.trans (hb.mono HB4.out.size))
  have HM5 := Lib.hid (HM4.out.below hb)
  clear hb HM4
  go_wp2_with fail
  refine (HO.out Y4 (by omega) _ HM5.out).mono ?_
  rintro e w6 ⟨rfl, hb⟩
  have HB6 := Lib.hid (HB5.out.trans (hb.mono HB5.out.size))
  have HM6 := Lib.hid (HM5.out.below hb)
  clear hb HM5
  go_wp2_with fail
  refine (HO.out Z2 (by omega) _ HM6.out).mono ?_
  rintro e w7 ⟨rfl, hb⟩
  have HB7 := Lib.hid (HB6.out.trans (hb.mono HB6.out.size))
  have HM7 := Lib.hid (HM6.out.below hb)
  clear hb HM6
  go_wp2_with fail
  go_ret
  exact ⟨rfl, HB7.out⟩

/-! ### The row -/
set_option maxRecDepth 100000 in
theorem contract (H : Type) (enc : TypeId × Value → H) (W : World) (base : Nat) (args : Array Value) (ds gs : List (DataW H)) (before : List MemPlace)
    (hval : ∀ (j : Nat) t v, Tryd.f3.params[j]? = some t → args[j]? = some v → Value.okWide Tryd.prog W .any base t v)
    (hW : DataW.Whole enc Tryd.prog Tryd.f3.params.toList Rows.addressTellsSpec.vars false W args.toList ds gs before) (hS : W.ShapedOpen Tryd.prog) :
    Calls Tryd.prog 3 args W fun e W' => ∃ v, e = .returned v ∧ Rows.addressTellsSpec.post enc Tryd.prog Tryd.f3 false true false false W args v W' := by
  have hW' := hW
  obtain ⟨p, q, hA0, hV, rfl, hfz, hnd⟩ := hW
  have hA : DataW.TrodAll enc Tryd.prog W 0 (fun _ => true) true Tryd.f3.params.toList args.toList ds p := hA0
  rw [Tryd.params3] at hA hval
  obtain ⟨v0, vs0, d0, ds0, p0, q0, hargs, rfl, rfl, h0, r0⟩ := trodAll_cons hA
  obtain ⟨v1, vs1, d1, ds1, p1, q1, rfl, rfl, rfl, h1, r1⟩ := trodAll_cons r0
  obtain ⟨v2, vs2, d2, ds2, p2, q2, rfl, rfl, rfl, h2, r2⟩ := trodAll_cons r1
  obtain ⟨rfl, rfl, rfl⟩ := trodAll_nil r2
  obtain rfl : args = #[v0, v1, v2] := by cases args; simp_all
  obtain ⟨rfl, rfl⟩ := trodVars_none hV
  refine law_contract (tb := 4) laidOut (by kernel_rfl) rfl (by kernel_rfl) Tryd.underlying4 rfl hW' ?_
  clear hA0 hW' hA
  obtain ⟨a0, rfl, _, _, w0⟩ := open_string Tryd.underlying9 (hval 0 9 v0 rfl rfl) h0
  obtain ⟨A1, k1, l1, rfl, z1, s1, g1⟩ := opened_ints (open_rows Tryd.underlying22 cellsInt (by omega) (hval 1 22 v1 rfl rfl) h1) Tryd.underlying3
  obtain ⟨a2, rfl, _, _, w2⟩ := open_string Tryd.underlying9 (hval 2 9 v2 rfl rfl) h2
  exact walk a0 w0 A1 k1 l1 z1 a2 w2 W g1 (max_of_shaped hS)

theorem laid_met (os : Os) : laidMet Tryd.prog Rows.addressTellsRow.laid ((laidWorld os).forCall (fun _ _ => 0) ⟨#[], #[.string ⟨#[]⟩, .slice none 0 0, .string ⟨#[]⟩], []⟩).memory :=
  laidMet_of_run' 8 (by kernel_rfl) (by kernel_rfl)
theorem reads (os : Os) {H : Type} (enc : TypeId × Value → H) : ∃ places, DataW.whole enc Tryd.prog ((laidWorld os).forCall (fun _ _ => 0) ⟨#[], #[.string ⟨#[]⟩, .slice none 0 0, .string ⟨#[]⟩], []⟩).memory Tryd.f3.params.toList Rows.addressTellsSpec.vars false (#[.string ⟨#[]⟩, .slice none 0 0, .string ⟨#[]⟩] : Array Value).toList 8 = some ([.lit (.string []), .nil, .lit (.string [])], [], places) :=
  ⟨[], by kernel_rfl⟩

set_option maxRecDepth 100000 in
theorem lifted (os : Os) (started : os.Started) (H : Type) (enc : TypeId × Value → H) (F : Stop.Interp) :
    ReturnsInHanded {} Tryd.checked os 3 .any ((OpenSpec.ofChange Rows.addressTellsSpec).preRow enc Tryd.prog Tryd.f3 Rows.addressTellsRow.domain false Rows.addressTellsRow.laid) (((OpenSpec.ofChange Rows.addressTellsSpec).at F).post enc Tryd.prog Tryd.f3 false true false false) := by
  obtain ⟨places, hx⟩ := reads os enc
  refine returnsInHanded_of_row (C := Tryd.checked) (s := OpenSpec.ofChange Rows.addressTellsSpec) own started (by kernel_rfl) Tryd.func3
    (witness_row_at (enc := enc) (C := Tryd.checked) false (laidWorld os) #[.string ⟨#[]⟩, .slice none 0 0, .string ⟨#[]⟩] rfl (by kernel_rfl) (by kernel_rfl) (by kernel_rfl)
      (OpenSpec.preRow_of_cond 8 hx (by kernel_rfl) (fun k hk => by cases hk) (by kernel_rfl) (laid_met os))) ?_
  intro W base args ds gs before hval hW _ _ _ _ hS _
  exact contract H enc W base args ds gs before hval hW hS

theorem said : Rows.AddressTellsSaid :=
  OpenClaim.holds_of_cond 3 Tryd.f3 rfl rfl rfl rfl rfl rfl rfl ⟨rfl, rfl, rfl, rfl, rfl⟩ rfl rfl rfl rfl rfl (by kernel_rfl) Tryd.func3 (by kernel_rfl)
    (of_decide_eq_true (by kernel_rfl)) (by unfold Func.isWrapper; first | (rw [if_pos (by decide +kernel)]; kernel_rfl) | (rw [if_neg (by decide +kernel)]; exact ⟨rfl, rfl⟩))
    (fun os started H enc _ F => by rw [OpenClaim.pre_eq_preRow]; exact lifted os started H enc F)

theorem plain (f : FuncId) (fn : Func) (hf : Tryd.pinned.checked.prog.funcNamed "homecoming/homecominglaw09.AddressTells" = some f) (hfn : Tryd.pinned.checked.prog.funcs[f]? = some fn) :
    false = Tryd.pinned.checked.prog.looks [] ∧ ∀ (j : Nat) t, fn.params[j]? = some t → Tryd.pinned.checked.prog.wantsStandIn t = false := by
  obtain rfl : f = 3 := Option.some.inj ((show Tryd.prog.funcNamed "homecoming/homecominglaw09.AddressTells" = some 3 by kernel_rfl).symm.trans hf) |>.symm
  obtain rfl : fn = Tryd.f3 := (Option.some.inj (Tryd.func3.symm.trans hfn)).symm
  refine ⟨by kernel_rfl, fun j t ht => ?_⟩
  have hall : (Tryd.f3.params.toList.all fun u => !Tryd.prog.wantsStandIn u) = true := by kernel_rfl
  have hm : t ∈ Tryd.f3.params.toList := by simpa using Array.mem_of_getElem? ht
  exact (show Tryd.prog.wantsStandIn t = false by simpa using List.all_eq_true.1 hall t hm)

/-- THE STATEMENT. -/
theorem card : Rows.AddressTellsCardSaid :=
  Claim7.holds_tied_plain_at .later [] _ _ _ _ said (fun _ h => by cases h) (by kernel_rfl) (fun _ h => by cases h) addressTells_row_tie rfl ⟨rfl, rfl⟩ (by kernel_rfl) rfl plain (by kernel_rfl)
#print axioms card
end Go.Proofs.YtpcbbmafallogaaDoor.addressTells
