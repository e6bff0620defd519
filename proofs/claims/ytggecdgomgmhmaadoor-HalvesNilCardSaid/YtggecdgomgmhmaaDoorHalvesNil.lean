/-
  Proves the statement of HalvesNil: for every text the law returns true (of no disk there is no log; of no log nothing comes; a disk that nobody formatted has none), and its argument reads as it did. Condition: the package-level table halfBytes holds what its text lays.
-/
import Derived.Test.YtggecdgomgmhmaaDoorHalQ
import Derived.Test.YtggecdgomgmhmaaDoorCrcTable
import Derived.Test.YtggecdgomgmhmaaDoorCards
import Derived.Test.YtggecdgomgmhmaaDoorTie
namespace Go.Proofs.YtggecdgomgmhmaaDoor.halvesNil
open Go.ChangeShapes Go.WideShapes Go.ChangeAt Go.RowKit
open Go.ChangeMaps (open_string shut_string)

set_option maxRecDepth 100000 in
set_option maxHeartbeats 4000000 in
theorem walk (s : ByteArray) (hs : s.size ≤ maxLen) (w : World) (hT : Tab w) :
    Calls Tryd.prog 5 #[.string s] w fun e w' => e = .returned (.bool true) ∧ Below w.heap.size w w' := by
  have HT := Lib.hid hT
  have HS := Lib.hid (short_any s 30 hs w)
  generalize cut s 30 = t at HS
  clear hT
  go_enter Tryd.func5, Tryd.ntmps5
  go_wp2_with fail
  refine HS.out.mono ?_
  rintro x w' ⟨rfl, rfl⟩
  go_wp2_with fail
  refine (format_nil t w).mono ?_
  rintro x w' ⟨rfl, rfl⟩
  go_wp2_with fail
  refine (open_nil w).mono ?_
  rintro x w1 ⟨rfl, hb1⟩
  go_wp2_with fail
  have k1 := Blk.new w1 39 #[.int .u64 0, .string ⟨#[]⟩, .slice none 0 0]
  have hb1' : Below w.heap.size w (w1.alloc (.cells #[.int .u64 0, .string ⟨#[]⟩, .slice none 0 0] 39)) := hb1.alloc hb1.size _
  generalize w1.alloc (.cells #[.int .u64 0, .string ⟨#[]⟩, .slice none 0 0] 39) = v1 at k1 hb1' ⊢
  generalize w1.heap.size = q1 at k1 ⊢
  have HB1 := Lib.hid hb1'
  clear hb1 hb1'
  refine (new_any 90 v1 (by omega) (by omega)).mono ?_
  rintro x w2 ⟨F, rfl, hD, hb2, hF⟩
  have hlt := k1.lt
  have HK1 := Lib.hid (k1.of (hb2.block _ hlt))
  have HB2 := Lib.hid (HB1.out.trans (hb2.mono HB1.out.size))
  have HO := Lib.hid (open_none hD rfl (HT.out.below HB2.out HT.out.lt) (by show (90 : Nat) ≤ 80000; omega) (hf := 45) rfl (by rw [lat_nil rfl]; exact newest_zb 90 45))
  clear k1 hb2 hD hF hlt
  go_wp2_with fail
  refine HO.out.mono ?_
  rintro x w3 ⟨rfl, hb3⟩
  have hlt := HK1.out.lt
  have HK2 := Lib.hid (HK1.out.of (hb3.block _ hlt))
  have HB3 := Lib.hid (HB2.out.trans (hb3.mono HB2.out.size))
  clear hb3 hlt HO
  go_wp2_with fail
  have k3 := Blk.new w3 39 #[.int .u64 0, .string ⟨#[]⟩, .slice none 0 0]
  have hb4 : Below w.heap.size w (w3.alloc (.cells #[.int .u64 0, .string ⟨#[]⟩, .slice none 0 0] 39)) := HB3.out.alloc HB3.out.size _
  have k2 := HK2.out.alloc (.cells #[.int .u64 0, .string ⟨#[]⟩, .slice none 0 0] 39)
  generalize w3.alloc (.cells #[.int .u64 0, .string ⟨#[]⟩, .slice none 0 0] 39) = v3 at k2 k3 hb4 ⊢
  generalize w3.heap.size = q3 at k3 ⊢
  refine (awake_any v3 (HT.out.below hb4 HT.out.lt)).mono ?_
  rintro x w5 ⟨rfl, hb5⟩
  have c1 := (k2.of (hb5.block _ k2.lt)).cell 2
  have c3 := (k3.of (hb5.block _ k3.lt)).cell 2
  have HB5 := Lib.hid (hb4.trans (hb5.mono hb4.size))
  simp only [List.getElem?_toArray, List.getElem?_cons_zero, List.getElem?_cons_succ] at c1 c3
  clear k2 k3 hb4 hb5
  go_wp2_with first
    | (go_at_call 13; refine (append_nil _ _).mono ?_; rintro x w' ⟨rfl, rfl⟩)
    | (go_at_call 12; refine (snap_nil _ _).mono ?_; rintro x w' ⟨rfl, rfl⟩)
    | (go_at_call 18; refine (room_nil _).mono ?_; rintro x w' ⟨rfl, rfl⟩)
    | (go_at_call 21; refine (fits_nil _ _).mono ?_; rintro x w' ⟨rfl, rfl⟩)
    | (go_at_call 19; refine (epoch_nil _).mono ?_; rintro x w' ⟨rfl, rfl⟩)
    | (go_at_call 22; refine (lbroken_nil _).mono ?_; rintro x w' ⟨rfl, rfl⟩)
  go_ret
  exact ⟨rfl, HB5.out⟩

/-! ### The row -/
set_option maxRecDepth 100000 in
theorem contract (H : Type) (enc : TypeId × Value → H) (W : World) (base : Nat) (args : Array Value) (ds gs : List (DataW H)) (before : List MemPlace)
    (hval : ∀ (j : Nat) t v, Tryd.f5.params[j]? = some t → args[j]? = some v → Value.okWide Tryd.prog W .any base t v)
    (hW : DataW.Whole enc Tryd.prog Tryd.f5.params.toList Rows.halvesNilSpec.vars false W args.toList ds gs before) (hL : laidMetH Tryd.prog Rows.halvesNilRow.laid W) :
    Calls Tryd.prog 5 args W fun e W' => ∃ v, e = .returned v ∧ Rows.halvesNilSpec.post enc Tryd.prog Tryd.f5 false true false false W args v W' := by
  have hW' := hW
  obtain ⟨p, q, hA0, hV, rfl, hfz, hnd⟩ := hW
  have hA : DataW.TrodAll enc Tryd.prog W 0 (fun _ => true) true Tryd.f5.params.toList args.toList ds p := hA0
  rw [Tryd.params5] at hA hval
  obtain ⟨v0, vs0, d0, ds0, p0, q0, hargs, rfl, rfl, h0, r0⟩ := trodAll_cons hA
  obtain ⟨rfl, rfl, rfl⟩ := trodAll_nil r0
  obtain rfl : args = #[v0] := by cases args; simp_all
  obtain ⟨rfl, rfl⟩ := trodVars_none hV
  refine law_contract (tb := 4) laidOut (by kernel_rfl) rfl (by kernel_rfl) Tryd.underlying4 rfl hW' ?_
  clear hA0 hW' hA
  obtain ⟨a0, rfl, _, _, w0⟩ := open_string Tryd.underlying9 (hval 0 9 v0 rfl rfl) h0
  exact walk a0 w0 W (tab_of_laid hL)

theorem laid_met (os : Os) : laidMet Tryd.prog Rows.halvesNilRow.laid ((laidWorld os).forCall (fun _ _ => 0) ⟨#[], #[.string ⟨#[]⟩], []⟩).memory :=
  laidMet_of_run' 8 (by kernel_rfl) (by kernel_rfl)
theorem reads (os : Os) {H : Type} (enc : TypeId × Value → H) : ∃ places, DataW.whole enc Tryd.prog ((laidWorld os).forCall (fun _ _ => 0) ⟨#[], #[.string ⟨#[]⟩], []⟩).memory Tryd.f5.params.toList Rows.halvesNilSpec.vars false (#[.string ⟨#[]⟩] : Array Value).toList 8 = some ([.lit (.string [])], [], places) :=
  ⟨[], by kernel_rfl⟩

set_option maxRecDepth 100000 in
theorem lifted (os : Os) (started : os.Started) (H : Type) (enc : TypeId × Value → H) (F : Stop.Interp) :
    ReturnsInHanded {} Tryd.checked os 5 .any ((OpenSpec.ofChange Rows.halvesNilSpec).preRow enc Tryd.prog Tryd.f5 Rows.halvesNilRow.domain false Rows.halvesNilRow.laid) (((OpenSpec.ofChange Rows.halvesNilSpec).at F).post enc Tryd.prog Tryd.f5 false true false false) := by
  obtain ⟨places, hx⟩ := reads os enc
  refine returnsInHanded_of_row (C := Tryd.checked) (s := OpenSpec.ofChange Rows.halvesNilSpec) own started (by kernel_rfl) Tryd.func5
    (witness_row_at (enc := enc) (C := Tryd.checked) false (laidWorld os) #[.string ⟨#[]⟩] rfl (by kernel_rfl) (by kernel_rfl) (by kernel_rfl)
      (OpenSpec.preRow_of_cond 8 hx (by kernel_rfl) (fun k hk => by cases hk) (by kernel_rfl) (laid_met os))) ?_
  intro W base args ds gs before hval hW _ _ _ hL _ _
  exact contract H enc W base args ds gs before hval hW hL

theorem said : Rows.HalvesNilSaid :=
  OpenClaim.holds_of_cond 5 Tryd.f5 rfl rfl rfl rfl rfl rfl rfl ⟨rfl, rfl, rfl, rfl, rfl⟩ rfl rfl rfl rfl rfl (by kernel_rfl) Tryd.func5 (by kernel_rfl)
    (of_decide_eq_true (by kernel_rfl)) (by unfold Func.isWrapper; first | (rw [if_pos (by decide +kernel)]; kernel_rfl) | (rw [if_neg (by decide +kernel)]; exact ⟨rfl, rfl⟩))
    (fun os started H enc _ F => by rw [OpenClaim.pre_eq_preRow]; exact lifted os started H enc F)

theorem plain (f : FuncId) (fn : Func) (hf : Tryd.pinned.checked.prog.funcNamed "homecoming/homecominglaw05.HalvesNil" = some f) (hfn : Tryd.pinned.checked.prog.funcs[f]? = some fn) :
    false = Tryd.pinned.checked.prog.looks [] ∧ ∀ (j : Nat) t, fn.params[j]? = some t → Tryd.pinned.checked.prog.wantsStandIn t = false := by
  obtain rfl : f = 5 := Option.some.inj ((show Tryd.prog.funcNamed "homecoming/homecominglaw05.HalvesNil" = some 5 by kernel_rfl).symm.trans hf) |>.symm
  obtain rfl : fn = Tryd.f5 := (Option.some.inj (Tryd.func5.symm.trans hfn)).symm
  refine ⟨by kernel_rfl, fun j t ht => ?_⟩
  have hall : (Tryd.f5.params.toList.all fun u => !Tryd.prog.wantsStandIn u) = true := by kernel_rfl
  have hm : t ∈ Tryd.f5.params.toList := by simpa using Array.mem_of_getElem? ht
  exact (show Tryd.prog.wantsStandIn t = false by simpa using List.all_eq_true.1 hall t hm)

/-- THE STATEMENT. -/
theorem card : Rows.HalvesNilCardSaid :=
  Claim7.holds_tied_plain_at .later [] _ _ _ _ said (fun _ h => by cases h) (by kernel_rfl) (fun _ h => by cases h) halvesNil_row_tie rfl ⟨rfl, rfl⟩ (by kernel_rfl) rfl plain (by kernel_rfl)
#print axioms card
end Go.Proofs.YtggecdgomgmhmaaDoor.halvesNil
