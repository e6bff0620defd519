/-
  Proves the statement of MacSteps: for every secret, salt and number of rounds the law returns true (with one round more a derived digest is turned by one keyed digest more), and its arguments read as they did. Condition: the package-level tables cubeRoots and squareRoots hold what their texts lay.
-/
import Derived.Test.YthaejfbbefpojaaDoorShort07
import Derived.Test.YthaejfbbefpojaaDoorShR
import Derived.Test.YthaejfbbefpojaaDoorMacF
import Derived.Test.YthaejfbbefpojaaDoorShS
import Derived.Test.YthaejfbbefpojaaDoorCards
import Derived.Test.YthaejfbbefpojaaDoorTie
namespace Go.Proofs.YthaejfbbefpojaaDoor.macSteps
open Go.ChangeShapes Go.WideShapes Go.ChangeAt Go.RowKit
open Go.ChangeMaps (open_string shut_string)

theorem mod_nat (q : Int) (M : Nat) (h0 : 0 < M) (hM : M ≤ 1000000) : ∃ m : Nat, m < M ∧ (wrap64 (q.tmod (M : Int) + (M : Int))).tmod (M : Int) = (m : Int) := by
  have h1 := Int.tmod_lt_of_pos q (show (0 : Int) < (M : Int) by omega)
  have h2 : -(M : Int) < q.tmod (M : Int) := by
    have := Int.tmod_lt_of_pos (-q) (show (0 : Int) < (M : Int) by omega)
    rw [Int.neg_tmod] at this
    omega
  generalize q.tmod (M : Int) = t at h1 h2 ⊢
  have h3 : wrap64 (t + (M : Int)) = t + (M : Int) := by
    simp only [wrap64]
    omega
  rw [h3]
  have h5 := Int.tmod_lt_of_pos (t + (M : Int)) (show (0 : Int) < (M : Int) by omega)
  have h4 : 0 ≤ (t + (M : Int)).tmod (M : Int) := Int.tmod_nonneg _ (by omega)
  exact ⟨((t + (M : Int)).tmod (M : Int)).toNat, by omega, by omega⟩
theorem mod5 (q : Int) : ∃ m : Nat, m < 5 ∧ (wrap64 (q.tmod 5 + 5)).tmod 5 = (m : Int) := mod_nat q 5 (by decide) (by decide)
theorem turn_back (a b : UInt8) : a ^^^ (a ^^^ b) = b := by rw [← UInt8.xor_assoc, UInt8.xor_self, UInt8.zero_xor]
set_option maxRecDepth 100000 in
set_option maxHeartbeats 4000000 in
theorem walk (k0 a0 : ByteArray) (z : Int) (hk : k0.size ≤ maxLen) (ha : a0.size ≤ maxLen) (w : World) (ht : Tab w) :
    Calls Tryd.prog 13 #[.string k0, .string a0, .int .i64 z] w fun e w' => e = .returned (.bool true) ∧ Below w.heap.size w w' := by
  have hck := cut_size k0 80
  have hca := cut_size a0 40
  have HSk := Lib.hid (fun W => short_any k0 80 hk W)
  have HSa := Lib.hid (fun W => short_any a0 40 ha W)
  generalize cut k0 80 = k at hck HSk
  generalize cut a0 40 = s at hca HSa
  obtain ⟨m, hm, ez⟩ := mod5 z
  have hs4 : (s ++ (⟨#[0, 0, 0, 1]⟩ : ByteArray)).size = s.size + 4 := by rw [ByteArray.size_append]; rfl
  have HR0 := Lib.hid (fun W => ref_mac_of k (s ++ ⟨#[0, 0, 0, 1]⟩) (by omega) (by omega) W)
  rw [show (s ++ (⟨#[0, 0, 0, 1]⟩ : ByteArray)).data.toList = s.data.toList ++ [0, 0, 0, 1] by simp] at HR0
  have HA := Lib.hid (fun W (h : Tab W) => derive_any Mt.nil k (by omega) s (by omega) (m + 1) (by omega) (by omega) 0 (by omega) W trivial h)
  have HB := Lib.hid (fun W (h : Tab W) => derive_any Mt.nil k (by omega) s (by omega) (m + 2) (by omega) (by omega) 0 (by omega) W trivial h)
  generalize s.data.toList ++ [0, 0, 0, 1] = s1 at HR0 HA HB
  rw [show hmac k.data.toList s1 = us k.data.toList s1 0 from rfl] at HR0
  have HR := Lib.hid (fun n W => ref_mac_of k (ba (us k.data.toList s1 n)) (by omega) (by rw [ba_size, us_length]; decide) W)
  simp only [ba_list, us_succ] at HR
  rw [show ((m + 1 : Nat) : Int) = 1 + (m : Int) by omega, show m + 1 - 1 = m by omega] at HA
  rw [show ((m + 2 : Nat) : Int) = 1 + (m : Int) + 1 by omega, show m + 2 - 1 = m + 1 by omega] at HB
  have HUL := Lib.hid (us_length k.data.toList s1)
  have HDL := Lib.hid (dv_length k.data.toList s1)
  have HDS := Lib.hid (dv_succ k.data.toList s1)
  generalize us k.data.toList s1 = U at HR0 HR HUL HDS
  generalize dv k.data.toList s1 = D at HDL HDS HA HB
  have HT := Lib.hid ht
  clear ht ha hk hs4
  go_enter Tryd.func13, Tryd.ntmps13
  go_wp2_with fail
  refine (awake7 _ (by exact HT.out)).mono ?_
  rintro e w1 ⟨rfl, hb1⟩
  have HB1 := Lib.hid hb1
  have HT1 := Lib.hid (HT.out.next hb1)
  clear hb1
  go_wp2_with fail
  refine (HSk.out _).mono ?_
  rintro e w2 ⟨rfl, rfl⟩
  go_wp2_with fail
  refine (HSa.out _).mono ?_
  rintro e w2 ⟨rfl, rfl⟩
  go_wp2_with fail
  refine (HR0.out _).mono ?_
  rintro e w2 ⟨rfl, hb2⟩
  have HB2 := Lib.hid (HB1.out.trans (hb2.mono HB1.out.size))
  have HT2 := Lib.hid (HT1.out.next hb2)
  clear hb2
  go_wp2_with fail
  go_loopw [9, 10] (fun u i wr => ∃ j : Nat, i = .int .i64 (j : Int) ∧ j ≤ m + 1 ∧ u = .string (ba (U j)) ∧ Below w.heap.size w wr ∧ Tab wr) (fun _ i _ => m + 1 - (intOf i).toNat)
  case atStart => exact ⟨0, rfl, by omega, rfl, HB2.out, HT2.out⟩
  case round =>
    clear HB1 HB2 HT1 HT2 HT HR0
    obtain ⟨j, rfl, hj, rfl, hb, ht⟩ := hrel
    have HBr := Lib.hid hb
    have HTr := Lib.hid ht
    clear hb ht
    by_cases hlt : j < m + 1
    · have hlti : (j : Int) < 1 + (m : Int) := by omega
      go_wp2_with fail
      refine (HR.out j _).mono ?_
      rintro e w3 ⟨rfl, hb3⟩
      have HB3 := Lib.hid (HBr.out.trans (hb3.mono HBr.out.size))
      have HT3 := Lib.hid (HTr.out.next hb3)
      clear hb3
      go_wp2_with fail
      go_roundw
      case rel => exact ⟨j + 1, by go_num, by omega, rfl, HB3.out, HT3.out⟩
      case measure => simp [intOf]; omega
    · obtain rfl : j = m + 1 := by omega
      have hlti : ¬ (((m + 1 : Nat) : Int) < 1 + (m : Int)) := by omega
      go_wp2_with fail
      refine (HA.out _ HTr.out).mono ?_
      rintro e w3 ⟨rfl, -, hk3⟩
      have HB3 := Lib.hid (Kept.below HBr.out hk3 (fun b hb => hb.elim) HBr.out.size)
      have HT3 := Lib.hid (Mt.nil.tab HTr.out hk3)
      clear hk3
      go_wp2_with fail
      refine (HB.out _ HT3.out).mono ?_
      rintro e w4 ⟨rfl, -, hk4⟩
      have HB4 := Lib.hid (Kept.below HB3.out hk4 (fun b hb => hb.elim) HB3.out.size)
      clear hk4
      have hul := HUL.out (m + 1)
      have hdl := HDL.out m
      have hX := HDS.out m
      have hXl := xx_length (D m) (U (m + 1)) (by rw [hul, hdl])
      have HXA := Lib.hid (xx_at (D m) (U (m + 1)))
      rw [hX] at hXl HXA
      rw [hul] at hXl
      have HYa := Lib.hid (fun i (h : i < (D m).length) W => byte_in (ba (D m)) i (by rw [ba_size]; exact h) W)
      have HYb := Lib.hid (fun i (h : i < (D (m + 1)).length) W => byte_in (ba (D (m + 1))) i (by rw [ba_size]; exact h) W)
      have HYu := Lib.hid (fun i (h : i < (U (m + 1)).length) W => byte_in (ba (U (m + 1))) i (by rw [ba_size]; exact h) W)
      rw [ba_list] at HYa HYb HYu
      have hsa : (ba (D m)).size = 32 := by rw [ba_size, hdl]
      have hsb : (ba (D (m + 1))).size = 32 := by rw [ba_size, hXl]
      have hsu : (ba (U (m + 1))).size = 32 := by rw [ba_size, hul]
      have HLa := Lib.hid hdl
      have HLb := Lib.hid hXl
      have HLu := Lib.hid hul
      clear hul hdl hX hXl hlti
      generalize D m = a at HYa HXA HLa hsa ⊢
      generalize D (m + 1) = b at HYb HXA HLb hsb ⊢
      generalize U (m + 1) = u at HYu HXA HLu hsu ⊢
      generalize ba a = sa at HYa hsa ⊢
      generalize ba b = sb at HYb hsb ⊢
      generalize ba u = su at HYu hsu ⊢
      go_wp2_with fail
      go_loopw [13] (fun i wr => ∃ (j q : Nat), i = .int .i64 (j : Int) ∧ j ≤ 32 ∧ wr = w4.drewN q) (fun i _ => 32 - (intOf i).toNat)
      case atStart => exact ⟨0, 0, rfl, by omega, rfl⟩
      case round =>
        obtain ⟨j, q, rfl, hj, rfl⟩ := hrel
        by_cases hlt : j < 32
        · have hji : (j : Int) < 32 := by omega
          have h1 := HYa.out j (by rw [HLa.out]; omega)
          have h2 := HYb.out j (by rw [HLb.out]; omega)
          have h3 := HYu.out j (by rw [HLu.out]; omega)
          have e1 : a.getD j 0 = a[j]'(by rw [HLa.out]; omega) := by rw [List.getD_eq_getElem?_getD, List.getElem?_eq_getElem (by rw [HLa.out]; omega)]; rfl
          have e2 : b.getD j 0 = b[j]'(by rw [HLb.out]; omega) := by rw [List.getD_eq_getElem?_getD, List.getElem?_eq_getElem (by rw [HLb.out]; omega)]; rfl
          have e3 : u.getD j 0 = u[j]'(by rw [HLu.out]; omega) := by rw [List.getD_eq_getElem?_getD, List.getElem?_eq_getElem (by rw [HLu.out]; omega)]; rfl
          rw [e1] at h1
          rw [e2, HXA.out j (by rw [HLb.out]; omega) (by rw [HLa.out]; omega) (by rw [HLu.out]; omega)] at h2
          rw [e3] at h3
          generalize a[j]'(by rw [HLa.out]; omega) = x at h1 h2
          generalize u[j]'(by rw [HLu.out]; omega) = y at h3 h2
          have hxr := xor_byte x (x ^^^ y)
          rw [turn_back] at hxr
          generalize x ^^^ y = v at h2 hxr
          have hyy : ((y.toNat : Int) != (y.toNat : Int)) = false := by simp
          clear e1 e2 e3
          go_wp2_with fail
          go_quiet (fail)
          go_wp2_with fail
          go_roundw
          case rel => exact ⟨j + 1, _, by go_num, by omega, rfl⟩
          case measure => simp [intOf]; omega
        · obtain rfl : j = 32 := by omega
          go_wp2_with fail
          go_ret
          exact ⟨rfl, below_drewN HB4.out _⟩

/-! ### The row -/
set_option maxRecDepth 100000 in
theorem contract (H : Type) (enc : TypeId × Value → H) (W : World) (base : Nat) (args : Array Value) (ds gs : List (DataW H)) (before : List MemPlace)
    (hval : ∀ (j : Nat) t v, Tryd.f13.params[j]? = some t → args[j]? = some v → Value.okWide Tryd.prog W .any base t v)
    (hW : DataW.Whole enc Tryd.prog Tryd.f13.params.toList Rows.macStepsSpec.vars false W args.toList ds gs before) (hL : laidMetH Tryd.prog Rows.macStepsRow.laid W) :
    Calls Tryd.prog 13 args W fun e W' => ∃ v, e = .returned v ∧ Rows.macStepsSpec.post enc Tryd.prog Tryd.f13 false true false false W args v W' := by
  have hW' := hW
  obtain ⟨p, q, hA0, hV, rfl, hfz, hnd⟩ := hW
  have hA : DataW.TrodAll enc Tryd.prog W 0 (fun _ => true) true Tryd.f13.params.toList args.toList ds p := hA0
  rw [Tryd.params13] at hA hval
  obtain ⟨v0, vs0, d0, ds0, p0, q0, hargs, rfl, rfl, h0, r0⟩ := trodAll_cons hA
  obtain ⟨v1, vs1, d1, ds1, p1, q1, rfl, rfl, rfl, h1, r1⟩ := trodAll_cons r0
  obtain ⟨v2, vs2, d2, ds2, p2, q2, rfl, rfl, rfl, h2, r2⟩ := trodAll_cons r1
  obtain ⟨rfl, rfl, rfl⟩ := trodAll_nil r2
  obtain rfl : args = #[v0, v1, v2] := by cases args; simp_all
  obtain ⟨rfl, rfl⟩ := trodVars_none hV
  refine law_contract (tb := 4) laidOut (by kernel_rfl) rfl (by kernel_rfl) Tryd.underlying4 rfl hW' ?_
  clear hA0 hW' hA
  obtain ⟨a0, rfl, _, _, w0⟩ := open_string Tryd.underlying9 (hval 0 9 v0 rfl rfl) h0
  obtain ⟨a1, rfl, _, _, w1⟩ := open_string Tryd.underlying9 (hval 1 9 v1 rfl rfl) h1
  obtain ⟨a2, rfl, rfl, rfl, w2⟩ := open_int Tryd.underlying3 (hval 2 3 v2 rfl rfl) h2
  exact walk a0 a1 a2 w0 w1 W (tab_of_laid hL)

theorem laid_met (os : Os) : laidMet Tryd.prog Rows.macStepsRow.laid ((laidWorld os).forCall (fun _ _ => 0) ⟨#[], #[.string ⟨#[]⟩, .string ⟨#[]⟩, .int .i64 0], []⟩).memory :=
  laidMet_of_run' 8 (by kernel_rfl) (by kernel_rfl)
theorem reads (os : Os) {H : Type} (enc : TypeId × Value → H) : ∃ places, DataW.whole enc Tryd.prog ((laidWorld os).forCall (fun _ _ => 0) ⟨#[], #[.string ⟨#[]⟩, .string ⟨#[]⟩, .int .i64 0], []⟩).memory Tryd.f13.params.toList Rows.macStepsSpec.vars false (#[.string ⟨#[]⟩, .string ⟨#[]⟩, .int .i64 0] : Array Value).toList 8 = some ([.lit (.string []), .lit (.string []), .lit (.int .i64 0)], [], places) :=
  ⟨[], by kernel_rfl⟩

set_option maxRecDepth 100000 in
theorem lifted (os : Os) (started : os.Started) (H : Type) (enc : TypeId × Value → H) (F : Stop.Interp) :
    ReturnsInHanded {} Tryd.checked os 13 .any ((OpenSpec.ofChange Rows.macStepsSpec).preRow enc Tryd.prog Tryd.f13 Rows.macStepsRow.domain false Rows.macStepsRow.laid) (((OpenSpec.ofChange Rows.macStepsSpec).at F).post enc Tryd.prog Tryd.f13 false true false false) := by
  obtain ⟨places, hx⟩ := reads os enc
  refine returnsInHanded_of_row (C := Tryd.checked) (s := OpenSpec.ofChange Rows.macStepsSpec) own started (by kernel_rfl) Tryd.func13
    (witness_row_at (enc := enc) (C := Tryd.checked) false (laidWorld os) #[.string ⟨#[]⟩, .string ⟨#[]⟩, .int .i64 0] rfl (by kernel_rfl) (by kernel_rfl) (by kernel_rfl)
      (OpenSpec.preRow_of_cond 8 hx (by kernel_rfl) (fun k hk => by cases hk) (by kernel_rfl) (laid_met os))) ?_
  intro W base args ds gs before hval hW _ _ _ hL _ _
  exact contract H enc W base args ds gs before hval hW hL

theorem said : Rows.MacStepsSaid :=
  OpenClaim.holds_of_cond 13 Tryd.f13 rfl rfl rfl rfl rfl rfl rfl ⟨rfl, rfl, rfl, rfl, rfl⟩ rfl rfl rfl rfl rfl (by kernel_rfl) Tryd.func13 (by kernel_rfl)
    (of_decide_eq_true (by kernel_rfl)) (by unfold Func.isWrapper; first | (rw [if_pos (by decide +kernel)]; kernel_rfl) | (rw [if_neg (by decide +kernel)]; exact ⟨rfl, rfl⟩))
    (fun os started H enc _ F => by rw [OpenClaim.pre_eq_preRow]; exact lifted os started H enc F)

theorem plain (f : FuncId) (fn : Func) (hf : Tryd.pinned.checked.prog.funcNamed "homecoming/homecominglaw07.MacSteps" = some f) (hfn : Tryd.pinned.checked.prog.funcs[f]? = some fn) :
    false = Tryd.pinned.checked.prog.looks [] ∧ ∀ (j : Nat) t, fn.params[j]? = some t → Tryd.pinned.checked.prog.wantsStandIn t = false := by
  obtain rfl : f = 13 := Option.some.inj ((show Tryd.prog.funcNamed "homecoming/homecominglaw07.MacSteps" = some 13 by kernel_rfl).symm.trans hf) |>.symm
  obtain rfl : fn = Tryd.f13 := (Option.some.inj (Tryd.func13.symm.trans hfn)).symm
  refine ⟨by kernel_rfl, fun j t ht => ?_⟩
  have hall : (Tryd.f13.params.toList.all fun u => !Tryd.prog.wantsStandIn u) = true := by kernel_rfl
  have hm : t ∈ Tryd.f13.params.toList := by simpa using Array.mem_of_getElem? ht
  exact (show Tryd.prog.wantsStandIn t = false by simpa using List.all_eq_true.1 hall t hm)

/-- THE STATEMENT. -/
theorem card : Rows.MacStepsCardSaid :=
  Claim7.holds_tied_plain_at .later [] _ _ _ _ said (fun _ h => by cases h) (by kernel_rfl) (fun _ h => by cases h) macSteps_row_tie rfl ⟨rfl, rfl⟩ (by kernel_rfl) rfl plain (by kernel_rfl)
#print axioms card
end Go.Proofs.YthaejfbbefpojaaDoor.macSteps
