/-
  Proves the statement of FrameTorn: for every row of texts, every text and every number the law returns true (of records whose last one was written up to any byte but the last one, with bytes 0 where the rest should be, all but that one are read), and its arguments read as they did. Condition: the package-level table halfBytes holds what its text lays.
-/
import Derived.Test.YtgbopohbhnpceaaDoorFrameW
import Derived.Test.YtgbopohbhnpceaaDoorCrcTable
import Derived.Test.YtgbopohbhnpceaaDoorCards
import Derived.Test.YtgbopohbhnpceaaDoorTie
namespace Go.Proofs.YtgbopohbhnpceaaDoor.frameTorn
open Go.ChangeShapes Go.WideShapes Go.ChangeAt Go.RowKit
open Go.ChangeMaps (open_string shut_string)

theorem torn_eq (l : List ByteArray) (t : ByteArray) (ht : Fr.ok t.data.toList.length) (k : Nat) (hk : k < t.size + 8) :
    Fr.scan (ba (Fr.all (tx (fw l))) ++ ba ((ba (Fr.wrap t.data.toList)).data.toList.take k) ++ ba (List.replicate 100 0)).data.toList = (tx (fw l), (ba (Fr.all (tx (fw l)))).size) := by
  rw [list_append, list_append, ba_list, ba_list, ba_list, ba_list, List.append_assoc, ba_size, Fr.wrap_ok ht]
  refine Fr.scan_back _ _ (fw_fr l) (Fr.next_torn _ k 100 ht ?_)
  rw [Fr.rec_length, size_list]
  exact hk
theorem whole_eq (l : List ByteArray) (t : ByteArray) (ht : Fr.ok t.data.toList.length) :
    Fr.scan (ba (Fr.all (tx (fw l))) ++ ba (Fr.wrap t.data.toList) ++ ba (List.replicate 100 0)).data.toList = (tx (fw l ++ [t]), (Fr.all (tx (fw l ++ [t]))).length) := by
  rw [list_append, list_append, ba_list, ba_list, ba_list, tx_snoc, ← Fr.all_snoc]
  refine Fr.scan_back _ _ (fun u hu => ?_) (Fr.next_zeros 100)
  rcases List.mem_append.1 hu with h | h
  · exact fw_fr l u h
  · rw [List.mem_singleton.1 h]; exact ht
theorem run_upto (s : ByteArray) (k : Nat) (hk : k ≤ s.size) (W : World) : (Instr.slice 9 (.string s) none (some (.int .i64 (k : Int))) none).run Tryd.prog W = .ok (.string (ba (s.data.toList.take k))) W := by
  rw [run_slice_string_to_if _ _ _ _ _ Tryd.underlying9, if_pos (by omega), ← ext_take]
  simp

set_option maxHeartbeats 2000000 in
theorem walk (A0 : Option Addr) (c0 : Nat) (l : List ByteArray) (hl : l.length ≤ maxLen) (hs : ∀ s ∈ l, s.size ≤ maxLen) (o : ByteArray) (ho : o.size ≤ maxLen) (n : Int) (w : World) (hA : Lies (fun _ => False) w A0 (cs l)) (ht : Tab w) :
    Calls Tryd.prog 5 #[.slice A0 l.length c0, .string o, .int .i64 n] w fun e w' => e = .returned (.bool true) ∧ Below w.heap.size w w' := by
  have HFew := Lib.hid (fun W (h : Lies (fun _ => False) W A0 (cs l)) => few_any W A0 c0 l hl hs h)
  have HOne := Lib.hid (fun W => few_one o ho W)
  have hfx := fx_ok o
  have hmk : ∀ W : World, (Instr.makeSlice 26 (.int .i64 (100 : Int)) (.int .i64 (100 : Int))).run Tryd.prog W = .ok (.slice (some ⟨W.heap.size, 0, none⟩) 100 100) (W.alloc (.cells (cb (List.replicate 100 0)).toArray 5)) := make_bytes 100 (by omega)
  have HA := Lib.hid hA
  have HT := Lib.hid ht
  clear hl hs hA ht ho
  generalize fx o = t at HOne hfx
  have hok : Fr.ok t.data.toList.length := by unfold Fr.ok; rw [size_list]; omega
  have hYs : (ba (Fr.wrap t.data.toList)).size = t.size + 8 := by rw [ba_size, Fr.wrap_ok hok, Fr.rec_length, size_list]
  obtain ⟨k, hk, ek⟩ := mod_nat n (ba (Fr.wrap t.data.toList)).size (by omega) (by omega)
  have HE1 := Lib.hid (torn_eq l t hok k (by omega))
  have HE2 := Lib.hid (whole_eq l t hok)
  have HWrap := Lib.hid (fun W (hW : Tab W) => wrap_any t W hW (by omega))
  have hsl := run_upto (ba (Fr.wrap t.data.toList)) k (by omega)
  have hQ : (ba ((ba (Fr.wrap t.data.toList)).data.toList.take k)).size ≤ 88 := by rw [ba_size, List.length_take, size_list]; omega
  have hZ : (ba (List.replicate 100 0)).size = 100 := by rw [ba_size, List.length_replicate]
  have HCv : Hid (∀ W g, Blk W g 5 (cb (List.replicate 100 0)).toArray → (convert 26 9 (.slice (some ⟨g, 0, none⟩) 100 100)).run Tryd.prog W = .ok (.string (ba (List.replicate 100 0))) W) := fun W g h => run_blk_text (by simp) _ h
  generalize ba ((ba (Fr.wrap t.data.toList)).data.toList.take k) = Q at HE1 hsl hQ
  generalize ba (Fr.wrap t.data.toList) = Y at HE2 HWrap hsl hYs hk ek
  have hY1 : 9 ≤ Y.size := by omega
  have hY2 : Y.size ≤ 88 := by omega
  have hne : ¬ ((Y.size : Int) = 0) := by omega
  have hne' : (Y.size : Int) ≠ 0 := hne
  have HLn := Lib.hid (fw_len l)
  have HOk := Lib.hid (fw_size l)
  have HSz := Lib.hid (all_fw l)
  clear hok hfx hYs
  generalize fw l = m at HFew HE1 HE2 HLn HOk HSz
  have HAll := Lib.hid (fun W A c (hW : Tab W) (h : Lies (fun _ => False) W A (cs m)) => all_any W A c m hW (by have := HLn.out; omega) HOk.out h)
  generalize ba (Fr.all (tx m)) = S at HE1 HE2 HSz HAll
  generalize ba (List.replicate 100 0) = Z at HE1 HE2 hZ HCv
  generalize (cb (List.replicate 100 0)).toArray = cz at hmk HCv
  have HS1 := Lib.hid (fun W hW => scan_at (S ++ Q ++ Z) (by rw [size_append, size_append]; have := HSz.out; omega) m S.size HE1.out W hW)
  have HS2 := Lib.hid (fun W hW => scan_at (S ++ Y ++ Z) (by rw [size_append, size_append]; have := HSz.out; omega) (m ++ [t]) _ HE2.out W hW)
  generalize (Fr.all (tx (m ++ [t]))).length = K2 at HS2
  simp only [List.length_append, List.length_singleton] at HS2
  have hS6 := HSz.out
  have hm6 := HLn.out
  have hs1 : S.size + Q.size ≤ 700 := by omega
  have hs2 : (S ++ Q).size + Z.size ≤ 800 := by rw [size_append]; omega
  have hs3 : S.size + Y.size ≤ 700 := by omega
  have hs4 : (S ++ Y).size + Z.size ≤ 800 := by rw [size_append]; omega
  clear HE1 HE2 HOk
  go_enter Tryd.func5, Tryd.ntmps5
  go_wp2_with fail
  refine (awake_any _ (by exact HT.out)).mono ?_
  rintro e w1 ⟨rfl, hb1⟩
  have HT1 := Lib.hid (HT.out.below hb1 HT.out.lt)
  have HB1 := Lib.hid hb1
  have HA1 := Lib.hid (HA.out.below hb1)
  clear hb1
  go_wp2_with fail
  refine (HFew.out _ (by exact HA1.out)).mono ?_
  rintro e w2 ⟨A2, c2, rfl, hown2, hb2⟩
  have HT2 := Lib.hid (HT1.out.below hb2 HT1.out.lt)
  have HB2 := Lib.hid (HB1.out.trans (hb2.mono HB1.out.size))
  have HM2 := Lib.hid (Lies.own (S := fun _ => False) hown2 (fun _ _ _ h => h))
  clear hb2 hown2
  go_wp2_with fail
  refine (HOne.out w2).mono ?_
  rintro e w3 ⟨g3, c3, rfl, hc3, hb3⟩
  have HT3 := Lib.hid (HT2.out.below hb3 HT2.out.lt)
  have HB3 := Lib.hid (HB2.out.trans (hb3.mono HB2.out.size))
  have HM3 := Lib.hid (HM2.out.below hb3)
  clear hb3
  go_wp2_with fail
  refine (HWrap.out _ (by exact HT3.out)).mono ?_
  rintro e w4 ⟨rfl, hb4⟩
  have HT4 := Lib.hid (HT3.out.below hb4 HT3.out.lt)
  have HB4 := Lib.hid (HB3.out.trans (hb4.mono HB3.out.size))
  have HM4 := Lib.hid (HM3.out.below hb4)
  clear hb4 hc3
  go_wp2_with fail
  have hb5 : Below w4.heap.size w4 (w4.alloc (.cells cz 5)) := (Below.refl _ w4).alloc (Nat.le_refl _) _
  have HT5 := Lib.hid (HT4.out.below hb5 HT4.out.lt)
  have HB5 := Lib.hid (HB4.out.trans (hb5.mono HB4.out.size))
  have HM5 := Lib.hid (HM4.out.below hb5)
  have HK5 := Lib.hid (Blk.new w4 5 cz)
  generalize w4.alloc (.cells cz 5) = w5 at hb5 HT5 HB5 HM5 HK5
  generalize w4.heap.size = g5 at HK5
  clear hb5 hmk
  have hcv5 := HCv.out _ _ HK5.out
  have hcv5' := HCv.out w5.drew _ HK5.out
  go_region_with (first
    | (go_at_call 16
       refine (HAll.out _ _ _ (by exact HT5.out) (by exact HM5.out)).mono ?_
       rintro e w6 ⟨rfl, hb6⟩
       have hcv6 := HCv.out _ _ (HK5.out.of (hb6.block _ HK5.out.lt)))
    | (go_at_call 17
       refine (HS1.out _ (by exact HT5.out.below (undrew hb6) HT5.out.lt)).mono ?_
       rintro e w7 ⟨A7, c7, rfl, hl7, hb7⟩))
  all_goals
    have hb6' := undrew hb6
    have HT6 := Lib.hid (HT5.out.below hb6' HT5.out.lt)
    have HT7 := Lib.hid (HT6.out.below hb7 HT6.out.lt)
    have HB7 := Lib.hid ((HB5.out.trans (hb6'.mono HB5.out.size)).trans (hb7.mono (HB5.out.trans (hb6'.mono HB5.out.size)).size))
    have HM7 := Lib.hid ((HM5.out.below hb6').below hb7)
    have HK7 := Lib.hid ((HK5.out.below hb6' HK5.out.lt).below hb7 (HK5.out.below hb6' HK5.out.lt).lt)
    have HL7 := Lib.hid hl7
    clear hb6 hb6' hb7 hl7 hcv5 hcv5' hcv6
    go_wp2_with fail
    refine (same_self _ _ _ _ _ m (by omega) (by exact HL7.out) (by exact HM7.out)).mono ?_
    rintro e w8 ⟨rfl, hb8⟩
    have HT8 := Lib.hid (HT7.out.below hb8 HT7.out.lt)
    have HB8 := Lib.hid (HB7.out.trans (hb8.mono HB7.out.size))
    have HM8 := Lib.hid (HM7.out.below hb8)
    have HK8 := Lib.hid (HK7.out.below hb8 HK7.out.lt)
    clear hb8
    go_wp2_with fail
    have hcv8 := HCv.out _ _ HK8.out
    have hcv8' := HCv.out w8.drew _ HK8.out
    go_region_with (first
      | (go_at_call 16
         refine (HAll.out _ _ _ (by exact HT8.out) (by exact HM8.out)).mono ?_
         rintro e w9 ⟨rfl, hb9⟩
         have hcv9 := HCv.out _ _ (HK8.out.of (hb9.block _ HK8.out.lt)))
      | (go_at_call 17
         refine (HS2.out _ (by exact HT8.out.below (undrew hb9) HT8.out.lt)).mono ?_
         rintro e wa ⟨Aa, ca, rfl, hla, hba⟩))
    all_goals
      have hb9' := undrew hb9
      have HT9 := Lib.hid (HT8.out.below hb9' HT8.out.lt)
      have HTa := Lib.hid (HT9.out.below hba HT9.out.lt)
      have HBa := Lib.hid ((HB8.out.trans (hb9'.mono HB8.out.size)).trans (hba.mono (HB8.out.trans (hb9'.mono HB8.out.size)).size))
      have HMa := Lib.hid ((HM8.out.below hb9').below hba)
      clear hb9 hb9' hba hla hcv8 hcv8' hcv9
      go_wp2_with fail
      refine (HAll.out _ _ _ (by exact HTa.out) (by exact HMa.out)).mono ?_
      rintro e wb ⟨rfl, hbb⟩
      have HBb := Lib.hid (HBa.out.trans (hbb.mono HBa.out.size))
      clear hbb
      go_wp2_with fail
      go_ret
      exact ⟨rfl, HBb.out⟩


/-! ### The row -/
theorem contract (H : Type) (enc : TypeId × Value → H) (W : World) (base : Nat) (args : Array Value) (ds gs : List (DataW H)) (before : List MemPlace)
    (hval : ∀ (j : Nat) t v, Tryd.f5.params[j]? = some t → args[j]? = some v → Value.okWide Tryd.prog W .any base t v)
    (hW : DataW.Whole enc Tryd.prog Tryd.f5.params.toList Rows.frameTornSpec.vars false W args.toList ds gs before) (hL : laidMetH Tryd.prog Rows.frameTornRow.laid W) :
    Calls Tryd.prog 5 args W fun e W' => ∃ v, e = .returned v ∧ Rows.frameTornSpec.post enc Tryd.prog Tryd.f5 false true false false W args v W' := by
  have hW' := hW
  obtain ⟨p, q, hA0, hV, rfl, hfz, hnd⟩ := hW
  have hA : DataW.TrodAll enc Tryd.prog W 0 (fun _ => true) true Tryd.f5.params.toList args.toList ds p := hA0
  rw [Tryd.params5] at hA hval
  obtain ⟨v0, vs0, d0, ds0, p0, q0, hargs, rfl, rfl, h0, r0⟩ := trodAll_cons hA
  obtain ⟨v1, vs1, d1, ds1, p1, q1, rfl, rfl, rfl, h1, r1⟩ := trodAll_cons r0
  obtain ⟨v2, vs2, d2, ds2, p2, q2, rfl, rfl, rfl, h2, r2⟩ := trodAll_cons r1
  obtain ⟨rfl, rfl, rfl⟩ := trodAll_nil r2
  obtain rfl : args = #[v0, v1, v2] := by cases args; simp_all
  obtain ⟨rfl, rfl⟩ := trodVars_none hV
  refine law_contract (tb := 4) laidOut (by kernel_rfl) rfl (by kernel_rfl) Tryd.underlying4 rfl hW' ?_
  clear hA0 hW' hA
  obtain ⟨A0, k0, l0, rfl, z0, s0, g0⟩ := opened_texts (open_texts Tryd.underlying22 Tryd.underlying9 cellsStr (hval 0 22 v0 rfl rfl) h0)
  obtain ⟨a1, rfl, _, _, w1⟩ := open_string Tryd.underlying9 (hval 1 9 v1 rfl rfl) h1
  obtain ⟨a2, rfl, rfl, rfl, w2⟩ := open_int Tryd.underlying3 (hval 2 3 v2 rfl rfl) h2
  exact walk A0 k0 l0 z0 s0 a1 w1 a2 W g0 (tab_of_laid hL)

theorem laid_met (os : Os) : laidMet Tryd.prog Rows.frameTornRow.laid ((laidWorld os).forCall (fun _ _ => 0) ⟨#[], #[.slice none 0 0, .string ⟨#[]⟩, .int .i64 0], []⟩).memory :=
  laidMet_of_run' 8 (by kernel_rfl) (by kernel_rfl)
theorem reads (os : Os) {H : Type} (enc : TypeId × Value → H) : ∃ places, DataW.whole enc Tryd.prog ((laidWorld os).forCall (fun _ _ => 0) ⟨#[], #[.slice none 0 0, .string ⟨#[]⟩, .int .i64 0], []⟩).memory Tryd.f5.params.toList Rows.frameTornSpec.vars false (#[.slice none 0 0, .string ⟨#[]⟩, .int .i64 0] : Array Value).toList 8 = some ([.nil, .lit (.string []), .lit (.int .i64 0)], [], places) :=
  ⟨[], by kernel_rfl⟩

set_option maxRecDepth 100000 in
theorem lifted (os : Os) (started : os.Started) (H : Type) (enc : TypeId × Value → H) (F : Stop.Interp) :
    ReturnsInHanded {} Tryd.checked os 5 .any ((OpenSpec.ofChange Rows.frameTornSpec).preRow enc Tryd.prog Tryd.f5 Rows.frameTornRow.domain false Rows.frameTornRow.laid) (((OpenSpec.ofChange Rows.frameTornSpec).at F).post enc Tryd.prog Tryd.f5 false true false false) := by
  obtain ⟨places, hx⟩ := reads os enc
  refine returnsInHanded_of_row (C := Tryd.checked) (s := OpenSpec.ofChange Rows.frameTornSpec) own started (by kernel_rfl) Tryd.func5
    (witness_row_at (enc := enc) (C := Tryd.checked) false (laidWorld os) #[.slice none 0 0, .string ⟨#[]⟩, .int .i64 0] rfl (by kernel_rfl) (by kernel_rfl) (by kernel_rfl)
      (OpenSpec.preRow_of_cond 8 hx (by kernel_rfl) (fun k hk => by cases hk) (by kernel_rfl) (laid_met os))) ?_
  intro W base args ds gs before hval hW _ _ _ hL _ _
  exact contract H enc W base args ds gs before hval hW hL

theorem said : Rows.FrameTornSaid :=
  OpenClaim.holds_of_cond 5 Tryd.f5 rfl rfl rfl rfl rfl rfl rfl ⟨rfl, rfl, rfl, rfl, rfl⟩ rfl rfl rfl rfl rfl (by kernel_rfl) Tryd.func5 (by kernel_rfl)
    (of_decide_eq_true (by kernel_rfl)) (by unfold Func.isWrapper; first | (rw [if_pos (by decide +kernel)]; kernel_rfl) | (rw [if_neg (by decide +kernel)]; exact ⟨rfl, rfl⟩))
    (fun os started H enc _ F => by rw [OpenClaim.pre_eq_preRow]; exact lifted os started H enc F)

theorem plain (f : FuncId) (fn : Func) (hf : Tryd.pinned.checked.prog.funcNamed "homecoming/homecominglaw04.FrameTorn" = some f) (hfn : Tryd.pinned.checked.prog.funcs[f]? = some fn) :
    false = Tryd.pinned.checked.prog.looks [] ∧ ∀ (j : Nat) t, fn.params[j]? = some t → Tryd.pinned.checked.prog.wantsStandIn t = false := by
  obtain rfl : f = 5 := Option.some.inj ((show Tryd.prog.funcNamed "homecoming/homecominglaw04.FrameTorn" = some 5 by kernel_rfl).symm.trans hf) |>.symm
  obtain rfl : fn = Tryd.f5 := (Option.some.inj (Tryd.func5.symm.trans hfn)).symm
  refine ⟨by kernel_rfl, fun j t ht => ?_⟩
  have hall : (Tryd.f5.params.toList.all fun u => !Tryd.prog.wantsStandIn u) = true := by kernel_rfl
  have hm : t ∈ Tryd.f5.params.toList := by simpa using Array.mem_of_getElem? ht
  exact (show Tryd.prog.wantsStandIn t = false by simpa using List.all_eq_true.1 hall t hm)

/-- THE STATEMENT. -/
theorem card : Rows.FrameTornCardSaid :=
  Claim7.holds_tied_plain_at .later [] _ _ _ _ said (fun _ h => by cases h) (by kernel_rfl) (fun _ h => by cases h) frameTorn_row_tie rfl ⟨rfl, rfl⟩ (by kernel_rfl) rfl plain (by kernel_rfl)
#print axioms card
end Go.Proofs.YtgbopohbhnpceaaDoor.frameTorn
