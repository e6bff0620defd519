/-
  Proves the statement of FrameSizes: for every number the law returns true (a record is as long as it is told to be; texts too long, or empty, have none), and its argument reads as it did. Condition: the package-level table halfBytes holds what its text lays.
-/
import Derived.Test.YtgbopohbhnpceaaDoorFrameL
import Derived.Test.YtgbopohbhnpceaaDoorFrameN
import Derived.Test.YtgbopohbhnpceaaDoorCrcTable
import Derived.Test.YtgbopohbhnpceaaDoorCards
import Derived.Test.YtgbopohbhnpceaaDoorTie
namespace Go.Proofs.YtgbopohbhnpceaaDoor.frameSizes
open Go.ChangeShapes Go.WideShapes Go.ChangeAt Go.RowKit
open Go.ChangeMaps (open_string shut_string)

theorem wrap_nil : Fr.wrap [] = [] := Fr.wrap_no (by unfold Fr.ok; simp)
theorem empty_eq : ((ba (Fr.wrap (⟨#[]⟩ : ByteArray).data.toList)).toList == ([] : List UInt8)) = true := by
  show ((ba (Fr.wrap [])).toList == ([] : List UInt8)) = true
  rw [wrap_nil, ByteArray.toList_eq, ba_list]
  rfl
theorem long_eq : ((ba (Fr.wrap (ba (List.replicate 32769 0)).data.toList)).toList == ([] : List UInt8)) = true := by
  rw [ba_list, Fr.wrap_no (by unfold Fr.ok; rw [List.length_replicate]; omega), ByteArray.toList_eq, ba_list]
  rfl

set_option maxHeartbeats 1000000 in
theorem walk (n : Int) (w : World) (ht : Tab w) :
    Calls Tryd.prog 7 #[.int .i64 n] w fun e w' => e = .returned (.bool true) ∧ Below w.heap.size w w' := by
  by_cases hn : 1 ≤ n ∧ n ≤ 32768
  · obtain ⟨m, rfl⟩ : ∃ m : Nat, n = (m : Int) := ⟨n.toNat, by omega⟩
    have hm : 1 ≤ m ∧ m ≤ 32768 := by omega
    have hk : Fr.ok (List.replicate m (0 : UInt8)).length := by rw [List.length_replicate]; exact hm
    have hs : sz (m : Int) = (m : Int) + 8 := sz_ok hn.1 hn.2
    have hmk := make_bytes m (by omega)
    have hmk2 : ∀ W : World, (Instr.makeSlice 26 (.int .i64 (32769 : Int)) (.int .i64 (32769 : Int))).run Tryd.prog W = .ok (.slice (some ⟨W.heap.size, 0, none⟩) 32769 32769) (W.alloc (.cells (cb (List.replicate 32769 0)).toArray 5)) := make_bytes 32769 (by omega)
    obtain ⟨Z, hZ⟩ : ∃ Z, ba (List.replicate m 0) = Z := ⟨_, rfl⟩
    obtain ⟨Z2, hZ2⟩ : ∃ Z, ba (List.replicate 32769 0) = Z := ⟨_, rfl⟩
    have hZl : Z.data.toList = List.replicate m 0 := by rw [← hZ, ba_list]
    have hZs : Z.size ≤ 40000 := by rw [← hZ, ba_size, List.length_replicate]; omega
    have hZ2s : Z2.size ≤ 40000 := by rw [← hZ2, ba_size, List.length_replicate]; omega
    have hcv : ∀ W g, Blk W g 5 (cb (List.replicate m 0)).toArray → (convert 26 9 (.slice (some ⟨g, 0, none⟩) m m)).run Tryd.prog W = .ok (.string Z) W := by
      intro W g h
      rw [← hZ]
      exact run_blk_text (by simp) _ h
    have hcv2 : ∀ W : World, (convert 26 9 (.slice (some ⟨W.heap.size, 0, none⟩) 32769 32769)).run Tryd.prog (W.alloc (.cells (cb (List.replicate 32769 0)).toArray 5)) = .ok (.string Z2) (W.alloc (.cells (cb (List.replicate 32769 0)).toArray 5)) := by
      intro W
      rw [← hZ2]
      exact run_blk_text (by rw [List.length_replicate]) _ (Blk.new _ _ _)
    have hlong : ((ba (Fr.wrap Z2.data.toList)).toList == ([] : List UInt8)) = true := by rw [← hZ2]; exact long_eq
    obtain ⟨Y, hY⟩ : ∃ Y, ba (Fr.wrap Z.data.toList) = Y := ⟨_, rfl⟩
    have hYl : Y.data.toList = Fr.rec_ Z.data.toList := by rw [← hY, ba_list, Fr.wrap_ok (by rw [hZl]; exact hk)]
    have hYs : Y.size = m + 8 := by rw [← size_list, hYl, Fr.rec_length, hZl, List.length_replicate]
    have hN : Fr.next Y.data.toList = some Z.data.toList := by
      have := Fr.next_rec Z.data.toList [] (by rw [hZl]; exact hk)
      rw [List.append_nil] at this
      rw [hYl]; exact this
    obtain ⟨q1, q2, q3⟩ := n_some hN
    rw [ba_back] at q1
    rw [hZl, List.length_replicate] at q2
    obtain ⟨Y2, hY2⟩ : ∃ Y, ba (Fr.wrap Z2.data.toList) = Y := ⟨_, rfl⟩
    rw [hY2] at hlong
    generalize (cb (List.replicate 32769 0)).toArray = c2 at hmk2 hcv2
    generalize (cb (List.replicate m 0)).toArray = c1 at hmk hcv
    have HW := Lib.hid (fun w hw => hY ▸ wrap_any Z w hw hZs)
    have HW2 := Lib.hid (fun w hw => hY2 ▸ wrap_any Z2 w hw hZ2s)
    have HN := Lib.hid (fun w hw => q1 ▸ q2 ▸ q3 ▸ next_any' Y w (by omega) hw)
    have hZZ : (Z.toList == Z.toList) = true := by rw [str_beq]; simp
    have hyy : ((m : Int) + 8 == (m : Int) + 8) = true := by simp
    have hYs' : (Y.size : Int) = (m : Int) + 8 := by omega
    have hcw := fun W => hcv _ _ (Blk.new W 5 c1)
    have HC := Lib.hid hcv
    clear hZl hZ hZ2 hY hYl hN q1 q2 q3 hY2 hk hcv hZs hZ2s
    have h3 : ¬ (m : Int) < 1 := by omega
    have h4 : ¬ 32768 < (m : Int) := by omega
    go_enter Tryd.func7, Tryd.ntmps7
    go_wp2_with fail
    refine (awake_any _ (by exact ht)).mono ?_
    rintro e w1 ⟨rfl, hb1⟩
    have HT1 := Lib.hid (ht.below hb1 ht.lt)
    have HB1 := Lib.hid hb1
    clear hb1
    go_wp2_with fail
    refine (size_any _ _).mono ?_
    rintro e w2 ⟨rfl, rfl⟩
    rw [hs]
    go_wp2_with fail
    have HT2 := Lib.hid (HT1.out.below ((Below.refl _ w1).alloc (Nat.le_refl _) (.cells c1 5)) HT1.out.lt)
    have HB2 := Lib.hid (HB1.out.alloc HB1.out.size (.cells c1 5))
    refine (HW.out _ (by exact HT2.out)).mono ?_
    rintro e w3 ⟨rfl, hb3⟩
    have HT3 := Lib.hid (HT2.out.below hb3 HT2.out.lt)
    have HB3 := Lib.hid (HB2.out.trans (hb3.mono HB2.out.size))
    have HK3 := Lib.hid ((Blk.new w1 5 c1).below hb3 (by simp))
    clear hb3
    go_wp2_with fail
    refine (HN.out _ (by exact HT3.out)).mono ?_
    rintro e w4 ⟨rfl, hb4⟩
    have HT4 := Lib.hid (HT3.out.below hb4 HT3.out.lt)
    have HB4 := Lib.hid (HB3.out.trans (hb4.mono HB3.out.size))
    have HK4 := Lib.hid (HK3.out.below hb4 HK3.out.lt)
    clear hb4
    go_wp2_with fail
    have HT5 := Lib.hid (HT4.out.below ((Below.refl _ w4).alloc (Nat.le_refl _) (.cells c2 5)) HT4.out.lt)
    have HB5 := Lib.hid (HB4.out.alloc HB4.out.size (.cells c2 5))
    have HK5 := Lib.hid (HK4.out.alloc (.cells c2 5))
    refine (HW2.out _ (by exact HT5.out)).mono ?_
    rintro e w6 ⟨rfl, hb6⟩
    have HB6 := Lib.hid (HB5.out.trans (hb6.mono HB5.out.size))
    have hcz := HC.out _ _ (HK5.out.below hb6 HK5.out.lt)
    clear hb6
    go_wp2
    go_ret
    exact ⟨rfl, HB6.out⟩
  · have hs : sz n = 0 := sz_no hn
    have HW := Lib.hid (fun w hw => wrap_any ⟨#[]⟩ w hw (by decide))
    have hem := empty_eq
    generalize ba (Fr.wrap (⟨#[]⟩ : ByteArray).data.toList) = Z at HW hem
    by_cases h3 : n < 1
    · go_enter Tryd.func7, Tryd.ntmps7
      go_wp2_with fail
      refine (awake_any _ (by exact ht)).mono ?_
      rintro e w1 ⟨rfl, hb1⟩
      have HT1 := Lib.hid (ht.below hb1 ht.lt)
      have HB1 := Lib.hid hb1
      clear hb1
      go_wp2_with fail
      refine (size_any _ _).mono ?_
      rintro e w2 ⟨rfl, rfl⟩
      rw [hs]
      go_wp2_with (go_at_call 19; refine (HW.out _ (by exact HT1.out)).mono ?_; rintro e w3 ⟨rfl, hb3⟩)
      go_ret
      exact ⟨rfl, HB1.out.trans (hb3.mono HB1.out.size)⟩
    · have h4 : 32768 < n := by omega
      go_enter Tryd.func7, Tryd.ntmps7
      go_wp2_with fail
      refine (awake_any _ (by exact ht)).mono ?_
      rintro e w1 ⟨rfl, hb1⟩
      have HT1 := Lib.hid (ht.below hb1 ht.lt)
      have HB1 := Lib.hid hb1
      clear hb1
      go_wp2_with fail
      refine (size_any _ _).mono ?_
      rintro e w2 ⟨rfl, rfl⟩
      rw [hs]
      go_wp2_with (go_at_call 19; refine (HW.out _ (by exact HT1.out)).mono ?_; rintro e w3 ⟨rfl, hb3⟩)
      go_ret
      exact ⟨rfl, HB1.out.trans (hb3.mono HB1.out.size)⟩

/-! ### The row -/
theorem contract (H : Type) (enc : TypeId × Value → H) (W : World) (base : Nat) (args : Array Value) (ds gs : List (DataW H)) (before : List MemPlace)
    (hval : ∀ (j : Nat) t v, Tryd.f7.params[j]? = some t → args[j]? = some v → Value.okWide Tryd.prog W .any base t v)
    (hW : DataW.Whole enc Tryd.prog Tryd.f7.params.toList Rows.frameSizesSpec.vars false W args.toList ds gs before) (hL : laidMetH Tryd.prog Rows.frameSizesRow.laid W) :
    Calls Tryd.prog 7 args W fun e W' => ∃ v, e = .returned v ∧ Rows.frameSizesSpec.post enc Tryd.prog Tryd.f7 false true false false W args v W' := by
  have hW' := hW
  obtain ⟨p, q, hA0, hV, rfl, hfz, hnd⟩ := hW
  have hA : DataW.TrodAll enc Tryd.prog W 0 (fun _ => true) true Tryd.f7.params.toList args.toList ds p := hA0
  rw [Tryd.params7] at hA hval
  obtain ⟨v0, vs0, d0, ds0, p0, q0, hargs, rfl, rfl, h0, r0⟩ := trodAll_cons hA
  obtain ⟨rfl, rfl, rfl⟩ := trodAll_nil r0
  obtain rfl : args = #[v0] := by cases args; simp_all
  obtain ⟨rfl, rfl⟩ := trodVars_none hV
  refine law_contract (tb := 4) laidOut (by kernel_rfl) rfl (by kernel_rfl) Tryd.underlying4 rfl hW' ?_
  clear hA0 hW' hA
  obtain ⟨a0, rfl, rfl, rfl, w0⟩ := open_int Tryd.underlying3 (hval 0 3 v0 rfl rfl) h0
  exact walk a0 W (tab_of_laid hL)

theorem laid_met (os : Os) : laidMet Tryd.prog Rows.frameSizesRow.laid ((laidWorld os).forCall (fun _ _ => 0) ⟨#[], #[.int .i64 0], []⟩).memory :=
  laidMet_of_run' 8 (by kernel_rfl) (by kernel_rfl)
theorem reads (os : Os) {H : Type} (enc : TypeId × Value → H) : ∃ places, DataW.whole enc Tryd.prog ((laidWorld os).forCall (fun _ _ => 0) ⟨#[], #[.int .i64 0], []⟩).memory Tryd.f7.params.toList Rows.frameSizesSpec.vars false (#[.int .i64 0] : Array Value).toList 8 = some ([.lit (.int .i64 0)], [], places) :=
  ⟨[], by kernel_rfl⟩

set_option maxRecDepth 100000 in
theorem lifted (os : Os) (started : os.Started) (H : Type) (enc : TypeId × Value → H) (F : Stop.Interp) :
    ReturnsInHanded {} Tryd.checked os 7 .any ((OpenSpec.ofChange Rows.frameSizesSpec).preRow enc Tryd.prog Tryd.f7 Rows.frameSizesRow.domain false Rows.frameSizesRow.laid) (((OpenSpec.ofChange Rows.frameSizesSpec).at F).post enc Tryd.prog Tryd.f7 false true false false) := by
  obtain ⟨places, hx⟩ := reads os enc
  refine returnsInHanded_of_row (C := Tryd.checked) (s := OpenSpec.ofChange Rows.frameSizesSpec) own started (by kernel_rfl) Tryd.func7
    (witness_row_at (enc := enc) (C := Tryd.checked) false (laidWorld os) #[.int .i64 0] rfl (by kernel_rfl) (by kernel_rfl) (by kernel_rfl)
      (OpenSpec.preRow_of_cond 8 hx (by kernel_rfl) (fun k hk => by cases hk) (by kernel_rfl) (laid_met os))) ?_
  intro W base args ds gs before hval hW _ _ _ hL _ _
  exact contract H enc W base args ds gs before hval hW hL

theorem said : Rows.FrameSizesSaid :=
  OpenClaim.holds_of_cond 7 Tryd.f7 rfl rfl rfl rfl rfl rfl rfl ⟨rfl, rfl, rfl, rfl, rfl⟩ rfl rfl rfl rfl rfl (by kernel_rfl) Tryd.func7 (by kernel_rfl)
    (of_decide_eq_true (by kernel_rfl)) (by unfold Func.isWrapper; first | (rw [if_pos (by decide +kernel)]; kernel_rfl) | (rw [if_neg (by decide +kernel)]; exact ⟨rfl, rfl⟩))
    (fun os started H enc _ F => by rw [OpenClaim.pre_eq_preRow]; exact lifted os started H enc F)

theorem plain (f : FuncId) (fn : Func) (hf : Tryd.pinned.checked.prog.funcNamed "homecoming/homecominglaw04.FrameSizes" = some f) (hfn : Tryd.pinned.checked.prog.funcs[f]? = some fn) :
    false = Tryd.pinned.checked.prog.looks [] ∧ ∀ (j : Nat) t, fn.params[j]? = some t → Tryd.pinned.checked.prog.wantsStandIn t = false := by
  obtain rfl : f = 7 := Option.some.inj ((show Tryd.prog.funcNamed "homecoming/homecominglaw04.FrameSizes" = some 7 by kernel_rfl).symm.trans hf) |>.symm
  obtain rfl : fn = Tryd.f7 := (Option.some.inj (Tryd.func7.symm.trans hfn)).symm
  refine ⟨by kernel_rfl, fun j t ht => ?_⟩
  have hall : (Tryd.f7.params.toList.all fun u => !Tryd.prog.wantsStandIn u) = true := by kernel_rfl
  have hm : t ∈ Tryd.f7.params.toList := by simpa using Array.mem_of_getElem? ht
  exact (show Tryd.prog.wantsStandIn t = false by simpa using List.all_eq_true.1 hall t hm)

/-- THE STATEMENT. -/
theorem card : Rows.FrameSizesCardSaid :=
  Claim7.holds_tied_plain_at .later [] _ _ _ _ said (fun _ h => by cases h) (by kernel_rfl) (fun _ h => by cases h) frameSizes_row_tie rfl ⟨rfl, rfl⟩ (by kernel_rfl) rfl plain (by kernel_rfl)
#print axioms card
end Go.Proofs.YtgbopohbhnpceaaDoor.frameSizes
