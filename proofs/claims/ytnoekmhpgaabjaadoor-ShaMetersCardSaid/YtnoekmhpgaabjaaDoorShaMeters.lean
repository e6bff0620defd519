/-
  Proves the statement of ShaMeters: for every list of texts the law returns true (a meter counts each digest, and tells the same ones), and its argument reads as it did. Condition: the package-level tables cubeRoots and squareRoots hold what their texts lay.
-/
import Derived.Test.YtnoekmhpgaabjaaDoorShort06
import Derived.Test.YtnoekmhpgaabjaaDoorShN
import Derived.Test.YtnoekmhpgaabjaaDoorShS
import Derived.Test.YtnoekmhpgaabjaaDoorCards
import Derived.Test.YtnoekmhpgaabjaaDoorTie
namespace Go.Proofs.YtnoekmhpgaabjaaDoor.shaMeters
open Go.ChangeShapes Go.WideShapes Go.ChangeAt Go.RowKit
open Go.ChangeMaps (open_string shut_string)

set_option maxRecDepth 100000 in
set_option maxHeartbeats 4000000 in
theorem walk (A : Option Addr) (c : Nat) (l : List ByteArray) (hl : l.length ≤ maxLen) (hs : ∀ s ∈ l, s.size ≤ maxLen) (w : World) (hA : Lies (fun _ => False) w A (cs l)) (ht : Tab w) :
    Calls Tryd.prog 6 #[.slice A l.length c] w fun e w' => e = .returned (.bool true) ∧ Below w.heap.size w w' := by
  unfold maxLen at hl
  have HT := Lib.hid ht
  have HA := Lib.hid hA
  clear ht hA
  go_enter Tryd.func6, Tryd.ntmps6
  go_wp2_with fail
  refine (awake_any _ (by exact HT.out)).mono ?_
  rintro e w1 ⟨rfl, hb1⟩
  have HB1 := Lib.hid hb1
  have hz1 := hb1.size
  clear hb1
  go_wp2_with fail
  go_loopw [6, 7, 8] (fun n i _ wr => ∃ k : Nat, i = .int .i64 k ∧ k ≤ l.length ∧ k ≤ 20 ∧ n = .int .i64 k ∧ Met wr w1.heap.size k ∧ Lies (fun b => b = w1.heap.size) wr A (cs l) ∧ Below w.heap.size w wr) (fun _ i _ _ => 20 - (intOf i).toNat)
  case atStart =>
    have hb2 := HB1.out.alloc hz1 (.cells #[.int .i64 0] 38)
    exact ⟨0, rfl, by omega, by omega, rfl, Blk.new w1 _ _, lies_off HA.out hb2 (fun k h => by omega), hb2⟩
  case round =>
    obtain ⟨k, rfl, hk, hk20, rfl, hM, hA, hb⟩ := hrel
    have HM := Lib.hid hM
    have HA2 := Lib.hid hA
    have HB := Lib.hid hb
    have hgl := hM.lt
    have ht2 := HT.out.below hb HT.out.ltK HT.out.ltH
    have hgg : w1.heap.size ≠ 1 ∧ w1.heap.size ≠ 0 := by
      have h1 := HT.out.ltK
      have h2 := HT.out.ltH
      omega
    have HG := Lib.hid hgg
    have HT2 := Lib.hid ht2
    by_cases hlt : k < l.length ∧ k < 20
    · obtain ⟨a, hAa, _, _, ha3⟩ := hA k _ (cs_get l k hlt.1)
      subst hAa
      have hsz := hs l[k] (List.getElem_mem _)
      generalize l[k] = s at ha3 hsz
      have HSh := Lib.hid (fun W => short_any s 100 hsz W)
      have hcz := cut_size s 100
      generalize cut s 100 = t at HSh hcz
      have h1 : (k : Int) < (l.length : Int) := by omega
      have h2 : (k : Int) < 20 := by omega
      have hl1 : len [t] ≤ 100000 := by simp [len]; omega
      have hl2 : len [t, ⟨#[120]⟩] ≤ 100000 := by simp [len]; show t.size + 1 ≤ _; omega
      have HS1 := Lib.hid (fun W (h : Tab W) => sum_new [t] (by simp) hl1 W h)
      have HS2 := Lib.hid (fun W (h : Tab W) => sum_new [t, ⟨#[120]⟩] (by simp) hl2 W h)
      have HN2 := Lib.hid (fun W (h : Tab W) => msum_nil_new [t, ⟨#[120]⟩] (by simp) hl2 W h)
      have HM1 := Lib.hid (msum_new [t] (by simp) hl1 w1.heap.size k (by omega) wr hM hgg ht2)
      generalize ba (dig (tx [t]).flatten) = D1 at HS1 HM1
      generalize ba (dig (tx [t, ⟨#[120]⟩]).flatten) = D2 at HS2 HN2
      have hd1 : (D1.toList == D1.toList) = true := by rw [str_beq]; simp
      have hd2 : (D2.toList == D2.toList) = true := by rw [str_beq]; simp
      clear hM hA hb ht2 hgg hsz
      go_wp2_with fail
      refine (HSh.out _).mono ?_
      rintro e w2 ⟨rfl, rfl⟩
      go_wp2_with fail
      refine HM1.out.mono ?_
      rintro e w2 ⟨rfl, hM2, hK2⟩
      have B2 := Lib.hid (Kept.below HB.out hK2 (fun x hx => by omega) HB.out.size)
      have M2 := Lib.hid hM2
      have L2 := Lib.hid (HA2.out.kept hK2)
      have T2 := Lib.hid (HT.out.below B2.out HT.out.ltK HT.out.ltH)
      clear hM2 hK2 HM1
      go_wp2_with fail
      refine (HS1.out _ (by exact T2.out)).mono ?_
      rintro e w3 ⟨rfl, hb3⟩
      have B3 := Lib.hid (B2.out.trans (hb3.mono B2.out.size))
      have M3 := Lib.hid (M2.out.of (hb3.block _ M2.out.lt))
      have L3 := Lib.hid (L2.out.below hb3)
      have T3 := Lib.hid (T2.out.next hb3)
      clear hb3 HS1
      go_wp2_with fail
      refine (HN2.out _ (by exact T3.out)).mono ?_
      rintro e w4 ⟨rfl, hb4⟩
      have B4 := Lib.hid (B3.out.trans (hb4.mono B3.out.size))
      have M4 := Lib.hid (M3.out.of (hb4.block _ M3.out.lt))
      have L4 := Lib.hid (L3.out.below hb4)
      have T4 := Lib.hid (T3.out.next hb4)
      clear hb4 HN2
      go_wp2_with fail
      refine (HS2.out _ (by exact T4.out)).mono ?_
      rintro e w5 ⟨rfl, hb5⟩
      have B5 := Lib.hid (B4.out.trans (hb5.mono B4.out.size))
      have M5 := Lib.hid (M4.out.of (hb5.block _ M4.out.lt))
      have L5 := Lib.hid (L4.out.below hb5)
      clear hb5 HS2
      go_wp2_with fail
      have hmc := mcount_any w1.heap.size (k + 1) w5 M5.out
      rw [show ((k + 1 : Nat) : Int) = (k : Int) + 1 by omega] at hmc
      refine hmc.mono ?_
      rintro e w6 ⟨rfl, rfl⟩
      clear hmc
      have hkk : ((k : Int) + 1 == (k : Int) + 1) = true := by simp
      go_wp2_with fail
      go_roundw
      case rel => exact ⟨k + 1, by go_num, by omega, by omega, by go_num, M5.out, L5.out, B5.out⟩
      case measure => simp [intOf]; omega
    · have hkk : ((k : Int) == (k : Int)) = true := by simp
      clear hM hA hb ht2 hgg
      by_cases h1 : k < l.length
      · have h2 : (k : Int) < (l.length : Int) := by omega
        have h3 : ¬ ((k : Int) < 20) := by omega
        go_wp2_with fail
        refine (mcount_any w1.heap.size k wr HM.out).mono ?_
        rintro e w6 ⟨rfl, rfl⟩
        go_wp2_with fail
        refine (mcount_nil _).mono ?_
        rintro e w7 ⟨rfl, rfl⟩
        go_wp2_with fail
        go_ret
        exact ⟨rfl, HB.out⟩
      · have h2 : ¬ ((k : Int) < (l.length : Int)) := by omega
        go_wp2_with fail
        refine (mcount_any w1.heap.size k wr HM.out).mono ?_
        rintro e w6 ⟨rfl, rfl⟩
        go_wp2_with fail
        refine (mcount_nil _).mono ?_
        rintro e w7 ⟨rfl, rfl⟩
        go_wp2_with fail
        go_ret
        exact ⟨rfl, HB.out⟩

/-! ### The row -/
set_option maxRecDepth 100000 in
theorem contract (H : Type) (enc : TypeId × Value → H) (W : World) (base : Nat) (args : Array Value) (ds gs : List (DataW H)) (before : List MemPlace)
    (hval : ∀ (j : Nat) t v, Tryd.f6.params[j]? = some t → args[j]? = some v → Value.okWide Tryd.prog W .any base t v)
    (hW : DataW.Whole enc Tryd.prog Tryd.f6.params.toList Rows.shaMetersSpec.vars false W args.toList ds gs before) (hL : laidMetH Tryd.prog Rows.shaMetersRow.laid W) :
    Calls Tryd.prog 6 args W fun e W' => ∃ v, e = .returned v ∧ Rows.shaMetersSpec.post enc Tryd.prog Tryd.f6 false true false false W args v W' := by
  have hW' := hW
  obtain ⟨p, q, hA0, hV, rfl, hfz, hnd⟩ := hW
  have hA : DataW.TrodAll enc Tryd.prog W 0 (fun _ => true) true Tryd.f6.params.toList args.toList ds p := hA0
  rw [Tryd.params6] at hA hval
  obtain ⟨v0, vs0, d0, ds0, p0, q0, hargs, rfl, rfl, h0, r0⟩ := trodAll_cons hA
  obtain ⟨rfl, rfl, rfl⟩ := trodAll_nil r0
  obtain rfl : args = #[v0] := by cases args; simp_all
  obtain ⟨rfl, rfl⟩ := trodVars_none hV
  refine law_contract (tb := 4) laidOut (by kernel_rfl) rfl (by kernel_rfl) Tryd.underlying4 rfl hW' ?_
  clear hA0 hW' hA
  obtain ⟨A0, k0, l0, rfl, z0, s0, g0⟩ := opened_texts (open_texts Tryd.underlying30 Tryd.underlying9 cellsStr (hval 0 30 v0 rfl rfl) h0)
  exact walk A0 k0 l0 z0 s0 W g0 (tab_of_laid hL)

theorem laid_met (os : Os) : laidMet Tryd.prog Rows.shaMetersRow.laid ((laidWorld os).forCall (fun _ _ => 0) ⟨#[], #[.slice none 0 0], []⟩).memory :=
  laidMet_of_run' 8 (by kernel_rfl) (by kernel_rfl)
theorem reads (os : Os) {H : Type} (enc : TypeId × Value → H) : ∃ places, DataW.whole enc Tryd.prog ((laidWorld os).forCall (fun _ _ => 0) ⟨#[], #[.slice none 0 0], []⟩).memory Tryd.f6.params.toList Rows.shaMetersSpec.vars false (#[.slice none 0 0] : Array Value).toList 8 = some ([.nil], [], places) :=
  ⟨[], by kernel_rfl⟩

set_option maxRecDepth 100000 in
theorem lifted (os : Os) (started : os.Started) (H : Type) (enc : TypeId × Value → H) (F : Stop.Interp) :
    ReturnsInHanded {} Tryd.checked os 6 .any ((OpenSpec.ofChange Rows.shaMetersSpec).preRow enc Tryd.prog Tryd.f6 Rows.shaMetersRow.domain false Rows.shaMetersRow.laid) (((OpenSpec.ofChange Rows.shaMetersSpec).at F).post enc Tryd.prog Tryd.f6 false true false false) := by
  obtain ⟨places, hx⟩ := reads os enc
  refine returnsInHanded_of_row (C := Tryd.checked) (s := OpenSpec.ofChange Rows.shaMetersSpec) own started (by kernel_rfl) Tryd.func6
    (witness_row_at (enc := enc) (C := Tryd.checked) false (laidWorld os) #[.slice none 0 0] rfl (by kernel_rfl) (by kernel_rfl) (by kernel_rfl)
      (OpenSpec.preRow_of_cond 8 hx (by kernel_rfl) (fun k hk => by cases hk) (by kernel_rfl) (laid_met os))) ?_
  intro W base args ds gs before hval hW _ _ _ hL _ _
  exact contract H enc W base args ds gs before hval hW hL

theorem said : Rows.ShaMetersSaid :=
  OpenClaim.holds_of_cond 6 Tryd.f6 rfl rfl rfl rfl rfl rfl rfl ⟨rfl, rfl, rfl, rfl, rfl⟩ rfl rfl rfl rfl rfl (by kernel_rfl) Tryd.func6 (by kernel_rfl)
    (of_decide_eq_true (by kernel_rfl)) (by unfold Func.isWrapper; first | (rw [if_pos (by decide +kernel)]; kernel_rfl) | (rw [if_neg (by decide +kernel)]; exact ⟨rfl, rfl⟩))
    (fun os started H enc _ F => by rw [OpenClaim.pre_eq_preRow]; exact lifted os started H enc F)

theorem plain (f : FuncId) (fn : Func) (hf : Tryd.pinned.checked.prog.funcNamed "homecoming/homecominglaw06.ShaMeters" = some f) (hfn : Tryd.pinned.checked.prog.funcs[f]? = some fn) :
    false = Tryd.pinned.checked.prog.looks [] ∧ ∀ (j : Nat) t, fn.params[j]? = some t → Tryd.pinned.checked.prog.wantsStandIn t = false := by
  obtain rfl : f = 6 := Option.some.inj ((show Tryd.prog.funcNamed "homecoming/homecominglaw06.ShaMeters" = some 6 by kernel_rfl).symm.trans hf) |>.symm
  obtain rfl : fn = Tryd.f6 := (Option.some.inj (Tryd.func6.symm.trans hfn)).symm
  refine ⟨by kernel_rfl, fun j t ht => ?_⟩
  have hall : (Tryd.f6.params.toList.all fun u => !Tryd.prog.wantsStandIn u) = true := by kernel_rfl
  have hm : t ∈ Tryd.f6.params.toList := by simpa using Array.mem_of_getElem? ht
  exact (show Tryd.prog.wantsStandIn t = false by simpa using List.all_eq_true.1 hall t hm)

/-- THE STATEMENT. -/
theorem card : Rows.ShaMetersCardSaid :=
  Claim7.holds_tied_plain_at .later [] _ _ _ _ said (fun _ h => by cases h) (by kernel_rfl) (fun _ h => by cases h) shaMeters_row_tie rfl ⟨rfl, rfl⟩ (by kernel_rfl) rfl plain (by kernel_rfl)
#print axioms card
end Go.Proofs.YtnoekmhpgaabjaaDoor.shaMeters
