/-
  Proves the statement of MacTells: for every key and every two texts the law returns true (keyed digests are told as the document tells them), and its arguments read as they did. Condition: the package-level tables cubeRoots and squareRoots hold what their texts lay.
-/
import Derived.Test.YthaejfbbefpojaaDoorShort07
import Derived.Test.YthaejfbbefpojaaDoorShR
import Derived.Test.YthaejfbbefpojaaDoorMacE
import Derived.Test.YthaejfbbefpojaaDoorShS
import Derived.Test.YthaejfbbefpojaaDoorCards
import Derived.Test.YthaejfbbefpojaaDoorTie
namespace Go.Proofs.YthaejfbbefpojaaDoor.macTells
open Go.ChangeShapes Go.WideShapes Go.ChangeAt Go.RowKit
open Go.ChangeMaps (open_string shut_string)

set_option maxRecDepth 100000 in
set_option maxHeartbeats 4000000 in
theorem walk (k0 a0 b0 : ByteArray) (hk : k0.size ≤ maxLen) (ha : a0.size ≤ maxLen) (hb : b0.size ≤ maxLen) (w : World) (ht : Tab w) :
    Calls Tryd.prog 9 #[.string k0, .string a0, .string b0] w fun e w' => e = .returned (.bool true) ∧ Below w.heap.size w w' := by
  have hck := cut_size k0 150
  have hca := cut_size a0 100
  have hcb := cut_size b0 100
  have HSk := Lib.hid (fun W => short_any k0 150 hk W)
  have HSa := Lib.hid (fun W => short_any a0 100 ha W)
  have HSb := Lib.hid (fun W => short_any b0 100 hb W)
  generalize cut k0 150 = k at hck HSk
  generalize cut a0 100 = a at hca HSa
  generalize cut b0 100 = b at hcb HSb
  have hl1 : len [a] ≤ 40000 := by simp [len]; omega
  have hl2 : len [a, b] ≤ 40000 := by simp [len]; omega
  have HC1 := Lib.hid (fun W (h : Tab W) => mac_nil_new k (by omega) [a] (by simp) hl1 W h)
  have HC2 := Lib.hid (fun W (h : Tab W) => mac_nil_new k (by omega) [a, b] (by simp) hl2 W h)
  have HC3 := Lib.hid (fun W (h : Tab W) => mac_nil_none k (by omega) W h)
  have HR1 := Lib.hid (fun W => ref_mac_of k a (by omega) (by omega) W)
  have HR2 := Lib.hid (fun W => ref_mac_of k (a ++ b) (by omega) (by rw [ByteArray.size_append]; omega) W)
  have HR3 := Lib.hid (fun W => ref_mac_of k ⟨#[]⟩ (by omega) (by decide) W)
  rw [show (tx [a]).flatten = a.data.toList by simp [tx]] at HC1
  rw [show (tx [a, b]).flatten = (a ++ b).data.toList by simp [tx]] at HC2
  rw [show (⟨#[]⟩ : ByteArray).data.toList = [] from rfl] at HR3
  generalize ba (hmac k.data.toList a.data.toList) = D1 at HC1 HR1
  generalize ba (hmac k.data.toList (a ++ b).data.toList) = D2 at HC2 HR2
  generalize ba (hmac k.data.toList []) = D3 at HC3 HR3
  have hd1 := same_str D1
  have hd2 := same_str D2
  have hd3 := same_str D3
  have HT := Lib.hid ht
  clear ht ha hb hk hl1 hl2
  go_enter Tryd.func9, Tryd.ntmps9
  go_wp2_with fail
  refine (awake7 _ (by exact HT.out)).mono ?_
  rintro e w1 ⟨rfl, hb1⟩
  have HB1 := Lib.hid hb1
  have HT1 := Lib.hid (HT.out.next hb1)
  clear hb1 HT
  go_wp2_with fail
  refine (HSk.out _).mono ?_
  rintro e w2 ⟨rfl, rfl⟩
  go_wp2_with fail
  refine (HSa.out _).mono ?_
  rintro e w2 ⟨rfl, rfl⟩
  go_wp2_with fail
  refine (HSb.out _).mono ?_
  rintro e w2 ⟨rfl, rfl⟩
  go_wp2_with fail
  refine (HC1.out _ HT1.out).mono ?_
  rintro e wq0 ⟨rfl, hb⟩
  have HBq0 := Lib.hid (HB1.out.trans (hb.mono HB1.out.size))
  have HTq0 := Lib.hid (HT1.out.next hb)
  clear hb
  go_wp2_with fail
  refine (HR1.out _).mono ?_
  rintro e wq1 ⟨rfl, hb⟩
  have HBq1 := Lib.hid (HBq0.out.trans (hb.mono HBq0.out.size))
  have HTq1 := Lib.hid (HTq0.out.next hb)
  clear hb
  go_wp2_with fail
  refine (HC2.out _ HTq1.out).mono ?_
  rintro e wq2 ⟨rfl, hb⟩
  have HBq2 := Lib.hid (HBq1.out.trans (hb.mono HBq1.out.size))
  have HTq2 := Lib.hid (HTq1.out.next hb)
  clear hb
  go_wp2_with fail
  refine (HR2.out _).mono ?_
  rintro e wq3 ⟨rfl, hb⟩
  have HBq3 := Lib.hid (HBq2.out.trans (hb.mono HBq2.out.size))
  have HTq3 := Lib.hid (HTq2.out.next hb)
  clear hb
  go_wp2_with fail
  refine (HC3.out _ HTq3.out).mono ?_
  rintro e wq4 ⟨rfl, hb⟩
  have HBq4 := Lib.hid (HBq3.out.trans (hb.mono HBq3.out.size))
  have HTq4 := Lib.hid (HTq3.out.next hb)
  clear hb
  go_wp2_with fail
  refine (HR3.out _).mono ?_
  rintro e wq5 ⟨rfl, hb⟩
  have HBq5 := Lib.hid (HBq4.out.trans (hb.mono HBq4.out.size))
  have HTq5 := Lib.hid (HTq4.out.next hb)
  clear hb
  go_wp2_with fail
  go_ret
  exact ⟨rfl, HBq5.out⟩

/-! ### The row -/
set_option maxRecDepth 100000 in
theorem contract (H : Type) (enc : TypeId × Value → H) (W : World) (base : Nat) (args : Array Value) (ds gs : List (DataW H)) (before : List MemPlace)
    (hval : ∀ (j : Nat) t v, Tryd.f9.params[j]? = some t → args[j]? = some v → Value.okWide Tryd.prog W .any base t v)
    (hW : DataW.Whole enc Tryd.prog Tryd.f9.params.toList Rows.macTellsSpec.vars false W args.toList ds gs before) (hL : laidMetH Tryd.prog Rows.macTellsRow.laid W) :
    Calls Tryd.prog 9 args W fun e W' => ∃ v, e = .returned v ∧ Rows.macTellsSpec.post enc Tryd.prog Tryd.f9 false true false false W args v W' := by
  have hW' := hW
  obtain ⟨p, q, hA0, hV, rfl, hfz, hnd⟩ := hW
  have hA : DataW.TrodAll enc Tryd.prog W 0 (fun _ => true) true Tryd.f9.params.toList args.toList ds p := hA0
  rw [Tryd.params9] at hA hval
  obtain ⟨v0, vs0, d0, ds0, p0, q0, hargs, rfl, rfl, h0, r0⟩ := trodAll_cons hA
  obtain ⟨v1, vs1, d1, ds1, p1, q1, rfl, rfl, rfl, h1, r1⟩ := trodAll_cons r0
  obtain ⟨v2, vs2, d2, ds2, p2, q2, rfl, rfl, rfl, h2, r2⟩ := trodAll_cons r1
  obtain ⟨rfl, rfl, rfl⟩ := trodAll_nil r2
  obtain rfl : args = #[v0, v1, v2] := by cases args; simp_all
  obtain ⟨rfl, rfl⟩ := trodVars_none hV
  refine law_contract (tb := 4) laidOut (by kernel_rfl) rfl (by kernel_rfl) Tryd.underlying4 rfl hW' ?_
  clear hA0 hW' hA
  obtain ⟨a0, rfl, _, _, w0⟩ := open_string Tryd.underlying9 (hval 0 9 v0 rfl rfl) h0
  obtain ⟨a1, rfl, _, _, w1⟩ := open_string Tryd.underlying9 (hval 1 9 v1 rfl rfl) h1
  obtain ⟨a2, rfl, _, _, w2⟩ := open_string Tryd.underlying9 (hval 2 9 v2 rfl rfl) h2
  exact walk a0 a1 a2 w0 w1 w2 W (tab_of_laid hL)

theorem laid_met (os : Os) : laidMet Tryd.prog Rows.macTellsRow.laid ((laidWorld os).forCall (fun _ _ => 0) ⟨#[], #[.string ⟨#[]⟩, .string ⟨#[]⟩, .string ⟨#[]⟩], []⟩).memory :=
  laidMet_of_run' 8 (by kernel_rfl) (by kernel_rfl)
theorem reads (os : Os) {H : Type} (enc : TypeId × Value → H) : ∃ places, DataW.whole enc Tryd.prog ((laidWorld os).forCall (fun _ _ => 0) ⟨#[], #[.string ⟨#[]⟩, .string ⟨#[]⟩, .string ⟨#[]⟩], []⟩).memory Tryd.f9.params.toList Rows.macTellsSpec.vars false (#[.string ⟨#[]⟩, .string ⟨#[]⟩, .string ⟨#[]⟩] : Array Value).toList 8 = some ([.lit (.string []), .lit (.string []), .lit (.string [])], [], places) :=
  ⟨[], by kernel_rfl⟩

set_option maxRecDepth 100000 in
theorem lifted (os : Os) (started : os.Started) (H : Type) (enc : TypeId × Value → H) (F : Stop.Interp) :
    ReturnsInHanded {} Tryd.checked os 9 .any ((OpenSpec.ofChange Rows.macTellsSpec).preRow enc Tryd.prog Tryd.f9 Rows.macTellsRow.domain false Rows.macTellsRow.laid) (((OpenSpec.ofChange Rows.macTellsSpec).at F).post enc Tryd.prog Tryd.f9 false true false false) := by
  obtain ⟨places, hx⟩ := reads os enc
  refine returnsInHanded_of_row (C := Tryd.checked) (s := OpenSpec.ofChange Rows.macTellsSpec) own started (by kernel_rfl) Tryd.func9
    (witness_row_at (enc := enc) (C := Tryd.checked) false (laidWorld os) #[.string ⟨#[]⟩, .string ⟨#[]⟩, .string ⟨#[]⟩] rfl (by kernel_rfl) (by kernel_rfl) (by kernel_rfl)
      (OpenSpec.preRow_of_cond 8 hx (by kernel_rfl) (fun k hk => by cases hk) (by kernel_rfl) (laid_met os))) ?_
  intro W base args ds gs before hval hW _ _ _ hL _ _
  exact contract H enc W base args ds gs before hval hW hL

theorem said : Rows.MacTellsSaid :=
  OpenClaim.holds_of_cond 9 Tryd.f9 rfl rfl rfl rfl rfl rfl rfl ⟨rfl, rfl, rfl, rfl, rfl⟩ rfl rfl rfl rfl rfl (by kernel_rfl) Tryd.func9 (by kernel_rfl)
    (of_decide_eq_true (by kernel_rfl)) (by unfold Func.isWrapper; first | (rw [if_pos (by decide +kernel)]; kernel_rfl) | (rw [if_neg (by decide +kernel)]; exact ⟨rfl, rfl⟩))
    (fun os started H enc _ F => by rw [OpenClaim.pre_eq_preRow]; exact lifted os started H enc F)

theorem plain (f : FuncId) (fn : Func) (hf : Tryd.pinned.checked.prog.funcNamed "homecoming/homecominglaw07.MacTells" = some f) (hfn : Tryd.pinned.checked.prog.funcs[f]? = some fn) :
    false = Tryd.pinned.checked.prog.looks [] ∧ ∀ (j : Nat) t, fn.params[j]? = some t → Tryd.pinned.checked.prog.wantsStandIn t = false := by
  obtain rfl : f = 9 := Option.some.inj ((show Tryd.prog.funcNamed "homecoming/homecominglaw07.MacTells" = some 9 by kernel_rfl).symm.trans hf) |>.symm
  obtain rfl : fn = Tryd.f9 := (Option.some.inj (Tryd.func9.symm.trans hfn)).symm
  refine ⟨by kernel_rfl, fun j t ht => ?_⟩
  have hall : (Tryd.f9.params.toList.all fun u => !Tryd.prog.wantsStandIn u) = true := by kernel_rfl
  have hm : t ∈ Tryd.f9.params.toList := by simpa using Array.mem_of_getElem? ht
  exact (show Tryd.prog.wantsStandIn t = false by simpa using List.all_eq_true.1 hall t hm)

/-- THE STATEMENT. -/
theorem card : Rows.MacTellsCardSaid :=
  Claim7.holds_tied_plain_at .later [] _ _ _ _ said (fun _ h => by cases h) (by kernel_rfl) (fun _ h => by cases h) macTells_row_tie rfl ⟨rfl, rfl⟩ (by kernel_rfl) rfl plain (by kernel_rfl)
#print axioms card
end Go.Proofs.YthaejfbbefpojaaDoor.macTells
