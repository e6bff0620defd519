/-
  Proves the statement of AddressSplits: for every text and every row of integers the law returns true (a mail address is its name, an at, and its host; others have no parts), and its arguments read as they did. Condition: the package-level tables first and acceptRanges of the library hold what their texts lay (they are read by no call of this law's).
-/
import Derived.Test.YtpcbbmafallogaaDoorAdM
import Derived.Test.YtpcbbmafallogaaDoorAdS
import Derived.Test.YtpcbbmafallogaaDoorCards
import Derived.Test.YtpcbbmafallogaaDoorTie
namespace Go.Proofs.YtpcbbmafallogaaDoor.addressSplits
open Go.ChangeShapes Go.WideShapes Go.ChangeAt Go.RowKit
open Go.ChangeMaps (open_string shut_string)

set_option maxRecDepth 100000 in
set_option maxHeartbeats 8000000 in
theorem walk (s0 : ByteArray) (hs0 : s0.size ≤ maxLen) (A0 : Option Addr) (c0 : Nat) (l : List Int) (hl : l.length ≤ maxLen) (w : World) (hA : Lies (fun _ => False) w A0 (ci l)) (hm : MaxIs w) :
    Calls Tryd.prog 7 #[.string s0, .slice A0 l.length c0] w fun e w' => e = .returned (.bool true) ∧ Below w.heap.size w w' := by
  have hcs := cut_size s0 60
  have HSs := Lib.hid (fun W => short_any s0 60 hs0 W)
  generalize cut s0 60 = s at hcs HSs
  have HMF := Lib.hid (fun W h => made_any A0 c0 l hl false W h)
  have HO := Lib.hid (fun S hS W h => splits_any S hS W h)
  have HA := Lib.hid hA
  have HM := Lib.hid hm
  clear hA hm hs0
  go_enter Tryd.func7, Tryd.ntmps7
  go_wp2_with fail
  refine (awake_any w HM.out).mono ?_
  rintro e w1 ⟨rfl, hb⟩
  have HB1 := Lib.hid hb
  have HM1 := Lib.hid (HM.out.below hb)
  have HA1 := Lib.hid (HA.out.below hb)
  clear hb HM HA
  go_wp2_with fail
  refine (HSs.out _).mono ?_
  rintro e w2 ⟨rfl, rfl⟩
  go_wp2_with fail
  refine (HO.out s (by omega) _ HM1.out).mono ?_
  rintro e w2 ⟨rfl, hb⟩
  have HB2 := Lib.hid (HB1.out.trans (hb.mono HB1.out.size))
  have HM2 := Lib.hid (HM1.out.below hb)
  have HA2 := Lib.hid (HA1.out.below hb)
  clear hb HM1 HA1
  go_wp2_with fail
  refine (HMF.out _ HA2.out).mono ?_
  rintro e wm ⟨⟨S1, hS1, rfl⟩, hwm⟩
  obtain rfl : w2 = wm := hwm.symm
  clear hwm
  obtain ⟨X1, hX1⟩ : ∃ X : ByteArray, ⟨#[120]⟩ ++ S1 = X := ⟨_, rfl⟩
  have hzX1 : X1.size ≤ 40 := by rw [← hX1, ByteArray.size_append]; have : (⟨#[120]⟩ : ByteArray).size = 1 := rfl; omega
  obtain ⟨X2, hX2⟩ : ∃ X : ByteArray, X1 ++ ⟨#[64, 104, 111, 115, 116, 46, 111, 114, 103]⟩ = X := ⟨_, rfl⟩
  have hzX2 : X2.size ≤ 60 := by rw [← hX2, ByteArray.size_append]; have : (⟨#[64, 104, 111, 115, 116, 46, 111, 114, 103]⟩ : ByteArray).size = 9 := rfl; omega
  go_wp2_with fail
  refine (HO.out X2 (by omega) _ HM2.out).mono ?_
  rintro e w3 ⟨rfl, hb⟩
  have HB3 := Lib.hid (HB2.out.trans (hb.mono HB2.out.size))
  have HM3 := Lib.hid (HM2.out.below hb)
  have HA3 := Lib.hid (HA2.out.below hb)
  clear hb HM2 HA2
  go_wp2_with fail
  refine (HMF.out _ HA3.out).mono ?_
  rintro e wm ⟨⟨S3, hS3, rfl⟩, hwm⟩
  obtain rfl : w3 = wm := hwm.symm
  clear hwm
  obtain ⟨XS3, hXS3⟩ : ∃ X : ByteArray, ⟨#[97, 64]⟩ ++ S3 = X := ⟨_, rfl⟩
  have hzS3 : XS3.size ≤ 60 := by rw [← hXS3, ByteArray.size_append]; have : (⟨#[97, 64]⟩ : ByteArray).size = 2 := rfl; omega
  go_wp2_with fail
  refine (HO.out XS3 (by omega) _ HM3.out).mono ?_
  rintro e w4 ⟨rfl, hb⟩
  have HB4 := Lib.hid (HB3.out.trans (hb.mono HB3.out.size))
  have HM4 := Lib.hid (HM3.out.below hb)
  have HA4 := Lib.hid (HA3.out.below hb)
  clear hb HM3 HA3
  go_wp2_with fail
  go_ret
  exact ⟨rfl, HB4.out⟩

/-! ### The row -/
set_option maxRecDepth 100000 in
theorem contract (H : Type) (enc : TypeId × Value → H) (W : World) (base : Nat) (args : Array Value) (ds gs : List (DataW H)) (before : List MemPlace)
    (hval : ∀ (j : Nat) t v, Tryd.f7.params[j]? = some t → args[j]? = some v → Value.okWide Tryd.prog W .any base t v)
    (hW : DataW.Whole enc Tryd.prog Tryd.f7.params.toList Rows.addressSplitsSpec.vars false W args.toList ds gs before) (hS : W.ShapedOpen Tryd.prog) :
    Calls Tryd.prog 7 args W fun e W' => ∃ v, e = .returned v ∧ Rows.addressSplitsSpec.post enc Tryd.prog Tryd.f7 false true false false W args v W' := by
  have hW' := hW
  obtain ⟨p, q, hA0, hV, rfl, hfz, hnd⟩ := hW
  have hA : DataW.TrodAll enc Tryd.prog W 0 (fun _ => true) true Tryd.f7.params.toList args.toList ds p := hA0
  rw [Tryd.params7] at hA hval
  obtain ⟨v0, vs0, d0, ds0, p0, q0, hargs, rfl, rfl, h0, r0⟩ := trodAll_cons hA
  obtain ⟨v1, vs1, d1, ds1, p1, q1, rfl, rfl, rfl, h1, r1⟩ := trodAll_cons r0
  obtain ⟨rfl, rfl, rfl⟩ := trodAll_nil r1
  obtain rfl : args = #[v0, v1] := by cases args; simp_all
  obtain ⟨rfl, rfl⟩ := trodVars_none hV
  refine law_contract (tb := 4) laidOut (by kernel_rfl) rfl (by kernel_rfl) Tryd.underlying4 rfl hW' ?_
  clear hA0 hW' hA
  obtain ⟨a0, rfl, _, _, w0⟩ := open_string Tryd.underlying9 (hval 0 9 v0 rfl rfl) h0
  obtain ⟨A1, k1, l1, rfl, z1, s1, g1⟩ := opened_ints (open_rows Tryd.underlying22 cellsInt (by omega) (hval 1 22 v1 rfl rfl) h1) Tryd.underlying3
  exact walk a0 w0 A1 k1 l1 z1 W g1 (max_of_shaped hS)

theorem laid_met (os : Os) : laidMet Tryd.prog Rows.addressSplitsRow.laid ((laidWorld os).forCall (fun _ _ => 0) ⟨#[], #[.string ⟨#[]⟩, .slice none 0 0], []⟩).memory :=
  laidMet_of_run' 8 (by kernel_rfl) (by kernel_rfl)
theorem reads (os : Os) {H : Type} (enc : TypeId × Value → H) : ∃ places, DataW.whole enc Tryd.prog ((laidWorld os).forCall (fun _ _ => 0) ⟨#[], #[.string ⟨#[]⟩, .slice none 0 0], []⟩).memory Tryd.f7.params.toList Rows.addressSplitsSpec.vars false (#[.string ⟨#[]⟩, .slice none 0 0] : Array Value).toList 8 = some ([.lit (.string []), .nil], [], places) :=
  ⟨[], by kernel_rfl⟩

set_option maxRecDepth 100000 in
theorem lifted (os : Os) (started : os.Started) (H : Type) (enc : TypeId × Value → H) (F : Stop.Interp) :
    ReturnsInHanded {} Tryd.checked os 7 .any ((OpenSpec.ofChange Rows.addressSplitsSpec).preRow enc Tryd.prog Tryd.f7 Rows.addressSplitsRow.domain false Rows.addressSplitsRow.laid) (((OpenSpec.ofChange Rows.addressSplitsSpec).at F).post enc Tryd.prog Tryd.f7 false true false false) := by
  obtain ⟨places, hx⟩ := reads os enc
  refine returnsInHanded_of_row (C := Tryd.checked) (s := OpenSpec.ofChange Rows.addressSplitsSpec) own started (by kernel_rfl) Tryd.func7
    (witness_row_at (enc := enc) (C := Tryd.checked) false (laidWorld os) #[.string ⟨#[]⟩, .slice none 0 0] rfl (by kernel_rfl) (by kernel_rfl) (by kernel_rfl)
      (OpenSpec.preRow_of_cond 8 hx (by kernel_rfl) (fun k hk => by cases hk) (by kernel_rfl) (laid_met os))) ?_
  intro W base args ds gs before hval hW _ _ _ _ hS _
  exact contract H enc W base args ds gs before hval hW hS

theorem said : Rows.AddressSplitsSaid :=
  OpenClaim.holds_of_cond 7 Tryd.f7 rfl rfl rfl rfl rfl rfl rfl ⟨rfl, rfl, rfl, rfl, rfl⟩ rfl rfl rfl rfl rfl (by kernel_rfl) Tryd.func7 (by kernel_rfl)
    (of_decide_eq_true (by kernel_rfl)) (by unfold Func.isWrapper; first | (rw [if_pos (by decide +kernel)]; kernel_rfl) | (rw [if_neg (by decide +kernel)]; exact ⟨rfl, rfl⟩))
    (fun os started H enc _ F => by rw [OpenClaim.pre_eq_preRow]; exact lifted os started H enc F)

theorem plain (f : FuncId) (fn : Func) (hf : Tryd.pinned.checked.prog.funcNamed "homecoming/homecominglaw09.AddressSplits" = some f) (hfn : Tryd.pinned.checked.prog.funcs[f]? = some fn) :
    false = Tryd.pinned.checked.prog.looks [] ∧ ∀ (j : Nat) t, fn.params[j]? = some t → Tryd.pinned.checked.prog.wantsStandIn t = false := by
  obtain rfl : f = 7 := Option.some.inj ((show Tryd.prog.funcNamed "homecoming/homecominglaw09.AddressSplits" = some 7 by kernel_rfl).symm.trans hf) |>.symm
  obtain rfl : fn = Tryd.f7 := (Option.some.inj (Tryd.func7.symm.trans hfn)).symm
  refine ⟨by kernel_rfl, fun j t ht => ?_⟩
  have hall : (Tryd.f7.params.toList.all fun u => !Tryd.prog.wantsStandIn u) = true := by kernel_rfl
  have hm : t ∈ Tryd.f7.params.toList := by simpa using Array.mem_of_getElem? ht
  exact (show Tryd.prog.wantsStandIn t = false by simpa using List.all_eq_true.1 hall t hm)

/-- THE STATEMENT. -/
theorem card : Rows.AddressSplitsCardSaid :=
  Claim7.holds_tied_plain_at .later [] _ _ _ _ said (fun _ h => by cases h) (by kernel_rfl) (fun _ h => by cases h) addressSplits_row_tie rfl ⟨rfl, rfl⟩ (by kernel_rfl) rfl plain (by kernel_rfl)
#print axioms card
end Go.Proofs.YtpcbbmafallogaaDoor.addressSplits
