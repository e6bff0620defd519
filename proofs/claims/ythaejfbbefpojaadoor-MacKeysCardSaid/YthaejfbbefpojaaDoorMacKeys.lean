/-
  Proves the statement of MacKeys: for every key and every text the law returns true (a byte 0 behind a key of at most 63 bytes makes no difference; a long key is its digest), and its arguments read as they did. Condition: the package-level tables cubeRoots and squareRoots hold what their texts lay.
-/
import Derived.Test.YthaejfbbefpojaaDoorShort07
import Derived.Test.YthaejfbbefpojaaDoorShR
import Derived.Test.YthaejfbbefpojaaDoorMacE
import Derived.Test.YthaejfbbefpojaaDoorShS
import Derived.Test.YthaejfbbefpojaaDoorCards
import Derived.Test.YthaejfbbefpojaaDoorTie
namespace Go.Proofs.YthaejfbbefpojaaDoor.macKeys
open Go.ChangeShapes Go.WideShapes Go.ChangeAt Go.RowKit
open Go.ChangeMaps (open_string shut_string)

set_option maxRecDepth 100000 in
set_option maxHeartbeats 4000000 in
theorem walk (k0 a0 : ByteArray) (hk : k0.size ≤ maxLen) (ha : a0.size ≤ maxLen) (w : World) (ht : Tab w) :
    Calls Tryd.prog 12 #[.string k0, .string a0] w fun e w' => e = .returned (.bool true) ∧ Below w.heap.size w w' := by
  have hck := cut_size k0 63
  have hca := cut_size a0 60
  have HSk := Lib.hid (fun W => short_any k0 63 hk W)
  have HSa := Lib.hid (fun W => short_any a0 60 ha W)
  generalize cut k0 63 = k at hck HSk
  generalize cut a0 60 = s at hca HSa
  have hls : len [s] ≤ 40000 := by simp [len]; omega
  have hmk : ∀ W : World, (Instr.makeSlice 27 (.int .i64 (70 : Int)) (.int .i64 (70 : Int))).run Tryd.prog W = .ok (.slice (some ⟨W.heap.size, 0, none⟩) 70 70) (W.alloc (.cells (cb (List.replicate 70 0)).toArray 5)) := make_bytes 70 (by decide)
  obtain ⟨Z, hZ⟩ : ∃ Z, List.replicate 70 (0 : UInt8) = Z := ⟨_, rfl⟩
  have hZl : Z.length = 70 := by rw [← hZ, List.length_replicate]
  rw [hZ] at hmk
  have HZL := Lib.hid hZl
  have hzs : (ba Z).size = 70 := by rw [ba_size, hZl]
  obtain ⟨L, hL⟩ : ∃ L, k ++ ba Z = L := ⟨_, rfl⟩
  have HLE := Lib.hid hL
  have hLs : L.size = k.size + 70 := by rw [← hL, ByteArray.size_append, hzs]
  have h0s : (k ++ (⟨#[0]⟩ : ByteArray)).size = k.size + 1 := by rw [ByteArray.size_append]; rfl
  have hl4 : len [L] ≤ 100000 := by simp [len]; omega
  have HC1 := Lib.hid (fun W (h : Tab W) => mac_nil_new (k ++ ⟨#[0]⟩) (by omega) [s] (by simp) hls W h)
  have HC2 := Lib.hid (fun W (h : Tab W) => mac_nil_new k (by omega) [s] (by simp) hls W h)
  have HC3 := Lib.hid (fun W (h : Tab W) => mac_nil_new L (by omega) [s] (by simp) hls W h)
  have HC4 := Lib.hid (fun W (h : Tab W) => sum_new [L] (by simp) hl4 W h)
  have HC5 := Lib.hid (fun W (h : Tab W) => mac_nil_new (ba (dig L.data.toList)) (by rw [ba_size, dig_length]; omega) [s] (by simp) hls W h)
  rw [show (k ++ (⟨#[0]⟩ : ByteArray)).data.toList = k.data.toList ++ [0] by simp, hmac_zero _ _ (by simpa using hck)] at HC1
  rw [hmac_long L.data.toList _ (by have : L.data.toList.length = L.size := by simp
                                    omega)] at HC3
  rw [ba_list] at HC5
  rw [show (tx [L]).flatten = L.data.toList by simp [tx]] at HC4
  have hDs : (ba (hmac k.data.toList (tx [s]).flatten)).size = 32 := by rw [ba_size, hmac_length]
  generalize ba (hmac k.data.toList (tx [s]).flatten) = D1 at HC1 HC2 hDs
  generalize ba (hmac (dig L.data.toList) (tx [s]).flatten) = D2 at HC3 HC5
  generalize ba (dig L.data.toList) = K2 at HC4 HC5
  have hd1 := same_str D1
  have hd2 := same_str D2
  have HT := Lib.hid ht
  clear ht ha hk hls hl4 hZ hL hZl
  go_enter Tryd.func12, Tryd.ntmps12
  go_wp2_with fail
  refine (awake7 _ (by exact HT.out)).mono ?_
  rintro e w1 ⟨rfl, hb1⟩
  have HB1 := Lib.hid hb1
  have HT1 := Lib.hid (HT.out.next hb1)
  clear hb1 HT
  go_wp2_with fail
  refine (HSk.out _).mono ?_
  rintro e w2 ⟨rfl, rfl⟩
  go_wp2_with fail
  refine (HSa.out _).mono ?_
  rintro e w2 ⟨rfl, rfl⟩
  go_wp2_with (refine wpList_convert_run rfl _ 27 9 rfl _ _ rfl (run_text _ w1.heap.size 70 70 5 Z HZL.out (Blk.new _ _ _)) (Hid.out ?_))
  clear hmk
  have hb2 := (Below.refl w1.heap.size w1).alloc (Nat.le_refl _) (.cells (cb Z).toArray 5)
  have HB2 := Lib.hid (HB1.out.trans (hb2.mono HB1.out.size))
  have HT2 := Lib.hid (HT1.out.next hb2)
  clear hb2
  generalize w1.alloc (.cells (cb Z).toArray 5) = w3 at HB2 HT2 ⊢
  refine Lib.hid ?_
  go_wp2_with fail
  rw [HLE.out]
  go_wp2_with fail
  refine (HC1.out _ HT2.out).mono ?_
  rintro e wq0 ⟨rfl, hb⟩
  have HBq0 := Lib.hid (HB2.out.trans (hb.mono HB2.out.size))
  have HTq0 := Lib.hid (HT2.out.next hb)
  clear hb
  go_wp2_with fail
  refine (HC2.out _ HTq0.out).mono ?_
  rintro e wq1 ⟨rfl, hb⟩
  have HBq1 := Lib.hid (HBq0.out.trans (hb.mono HBq0.out.size))
  have HTq1 := Lib.hid (HTq0.out.next hb)
  clear hb
  go_wp2_with fail
  refine (HC3.out _ HTq1.out).mono ?_
  rintro e wq2 ⟨rfl, hb⟩
  have HBq2 := Lib.hid (HBq1.out.trans (hb.mono HBq1.out.size))
  have HTq2 := Lib.hid (HTq1.out.next hb)
  clear hb
  go_wp2_with fail
  refine (HC4.out _ HTq2.out).mono ?_
  rintro e wq3 ⟨rfl, hb⟩
  have HBq3 := Lib.hid (HBq2.out.trans (hb.mono HBq2.out.size))
  have HTq3 := Lib.hid (HTq2.out.next hb)
  clear hb
  go_wp2_with fail
  refine (HC5.out _ HTq3.out).mono ?_
  rintro e wq4 ⟨rfl, hb⟩
  have HBq4 := Lib.hid (HBq3.out.trans (hb.mono HBq3.out.size))
  have HTq4 := Lib.hid (HTq3.out.next hb)
  clear hb
  go_wp2_with fail
  refine (HC2.out _ HTq4.out).mono ?_
  rintro e wq5 ⟨rfl, hb⟩
  have HBq5 := Lib.hid (HBq4.out.trans (hb.mono HBq4.out.size))
  have HTq5 := Lib.hid (HTq4.out.next hb)
  clear hb
  go_wp2_with fail
  go_ret
  exact ⟨rfl, HBq5.out⟩

/-! ### The row -/
set_option maxRecDepth 100000 in
theorem contract (H : Type) (enc : TypeId × Value → H) (W : World) (base : Nat) (args : Array Value) (ds gs : List (DataW H)) (before : List MemPlace)
    (hval : ∀ (j : Nat) t v, Tryd.f12.params[j]? = some t → args[j]? = some v → Value.okWide Tryd.prog W .any base t v)
    (hW : DataW.Whole enc Tryd.prog Tryd.f12.params.toList Rows.macKeysSpec.vars false W args.toList ds gs before) (hL : laidMetH Tryd.prog Rows.macKeysRow.laid W) :
    Calls Tryd.prog 12 args W fun e W' => ∃ v, e = .returned v ∧ Rows.macKeysSpec.post enc Tryd.prog Tryd.f12 false true false false W args v W' := by
  have hW' := hW
  obtain ⟨p, q, hA0, hV, rfl, hfz, hnd⟩ := hW
  have hA : DataW.TrodAll enc Tryd.prog W 0 (fun _ => true) true Tryd.f12.params.toList args.toList ds p := hA0
  rw [Tryd.params12] at hA hval
  obtain ⟨v0, vs0, d0, ds0, p0, q0, hargs, rfl, rfl, h0, r0⟩ := trodAll_cons hA
  obtain ⟨v1, vs1, d1, ds1, p1, q1, rfl, rfl, rfl, h1, r1⟩ := trodAll_cons r0
  obtain ⟨rfl, rfl, rfl⟩ := trodAll_nil r1
  obtain rfl : args = #[v0, v1] := by cases args; simp_all
  obtain ⟨rfl, rfl⟩ := trodVars_none hV
  refine law_contract (tb := 4) laidOut (by kernel_rfl) rfl (by kernel_rfl) Tryd.underlying4 rfl hW' ?_
  clear hA0 hW' hA
  obtain ⟨a0, rfl, _, _, w0⟩ := open_string Tryd.underlying9 (hval 0 9 v0 rfl rfl) h0
  obtain ⟨a1, rfl, _, _, w1⟩ := open_string Tryd.underlying9 (hval 1 9 v1 rfl rfl) h1
  exact walk a0 a1 w0 w1 W (tab_of_laid hL)

theorem laid_met (os : Os) : laidMet Tryd.prog Rows.macKeysRow.laid ((laidWorld os).forCall (fun _ _ => 0) ⟨#[], #[.string ⟨#[]⟩, .string ⟨#[]⟩], []⟩).memory :=
  laidMet_of_run' 8 (by kernel_rfl) (by kernel_rfl)
theorem reads (os : Os) {H : Type} (enc : TypeId × Value → H) : ∃ places, DataW.whole enc Tryd.prog ((laidWorld os).forCall (fun _ _ => 0) ⟨#[], #[.string ⟨#[]⟩, .string ⟨#[]⟩], []⟩).memory Tryd.f12.params.toList Rows.macKeysSpec.vars false (#[.string ⟨#[]⟩, .string ⟨#[]⟩] : Array Value).toList 8 = some ([.lit (.string []), .lit (.string [])], [], places) :=
  ⟨[], by kernel_rfl⟩

set_option maxRecDepth 100000 in
theorem lifted (os : Os) (started : os.Started) (H : Type) (enc : TypeId × Value → H) (F : Stop.Interp) :
    ReturnsInHanded {} Tryd.checked os 12 .any ((OpenSpec.ofChange Rows.macKeysSpec).preRow enc Tryd.prog Tryd.f12 Rows.macKeysRow.domain false Rows.macKeysRow.laid) (((OpenSpec.ofChange Rows.macKeysSpec).at F).post enc Tryd.prog Tryd.f12 false true false false) := by
  obtain ⟨places, hx⟩ := reads os enc
  refine returnsInHanded_of_row (C := Tryd.checked) (s := OpenSpec.ofChange Rows.macKeysSpec) own started (by kernel_rfl) Tryd.func12
    (witness_row_at (enc := enc) (C := Tryd.checked) false (laidWorld os) #[.string ⟨#[]⟩, .string ⟨#[]⟩] rfl (by kernel_rfl) (by kernel_rfl) (by kernel_rfl)
      (OpenSpec.preRow_of_cond 8 hx (by kernel_rfl) (fun k hk => by cases hk) (by kernel_rfl) (laid_met os))) ?_
  intro W base args ds gs before hval hW _ _ _ hL _ _
  exact contract H enc W base args ds gs before hval hW hL

theorem said : Rows.MacKeysSaid :=
  OpenClaim.holds_of_cond 12 Tryd.f12 rfl rfl rfl rfl rfl rfl rfl ⟨rfl, rfl, rfl, rfl, rfl⟩ rfl rfl rfl rfl rfl (by kernel_rfl) Tryd.func12 (by kernel_rfl)
    (of_decide_eq_true (by kernel_rfl)) (by unfold Func.isWrapper; first | (rw [if_pos (by decide +kernel)]; kernel_rfl) | (rw [if_neg (by decide +kernel)]; exact ⟨rfl, rfl⟩))
    (fun os started H enc _ F => by rw [OpenClaim.pre_eq_preRow]; exact lifted os started H enc F)

theorem plain (f : FuncId) (fn : Func) (hf : Tryd.pinned.checked.prog.funcNamed "homecoming/homecominglaw07.MacKeys" = some f) (hfn : Tryd.pinned.checked.prog.funcs[f]? = some fn) :
    false = Tryd.pinned.checked.prog.looks [] ∧ ∀ (j : Nat) t, fn.params[j]? = some t → Tryd.pinned.checked.prog.wantsStandIn t = false := by
  obtain rfl : f = 12 := Option.some.inj ((show Tryd.prog.funcNamed "homecoming/homecominglaw07.MacKeys" = some 12 by kernel_rfl).symm.trans hf) |>.symm
  obtain rfl : fn = Tryd.f12 := (Option.some.inj (Tryd.func12.symm.trans hfn)).symm
  refine ⟨by kernel_rfl, fun j t ht => ?_⟩
  have hall : (Tryd.f12.params.toList.all fun u => !Tryd.prog.wantsStandIn u) = true := by kernel_rfl
  have hm : t ∈ Tryd.f12.params.toList := by simpa using Array.mem_of_getElem? ht
  exact (show Tryd.prog.wantsStandIn t = false by simpa using List.all_eq_true.1 hall t hm)

/-- THE STATEMENT. -/
theorem card : Rows.MacKeysCardSaid :=
  Claim7.holds_tied_plain_at .later [] _ _ _ _ said (fun _ h => by cases h) (by kernel_rfl) (fun _ h => by cases h) macKeys_row_tie rfl ⟨rfl, rfl⟩ (by kernel_rfl) rfl plain (by kernel_rfl)
#print axioms card
end Go.Proofs.YthaejfbbefpojaaDoor.macKeys
