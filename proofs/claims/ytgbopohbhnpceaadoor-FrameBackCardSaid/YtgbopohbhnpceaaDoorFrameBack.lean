/-
  Proves the statement of FrameBack: for every row of texts and every text the law returns true (what was written is read, in order; where it ends, too), and its arguments read as they did. Condition: the package-level table halfBytes holds what its text lays.
-/
import Derived.Test.YtgbopohbhnpceaaDoorFrameW
import Derived.Test.YtgbopohbhnpceaaDoorCrcTable
import Derived.Test.YtgbopohbhnpceaaDoorCards
import Derived.Test.YtgbopohbhnpceaaDoorTie
namespace Go.Proofs.YtgbopohbhnpceaaDoor.frameBack
open Go.ChangeShapes Go.WideShapes Go.ChangeAt Go.RowKit
open Go.ChangeMaps (open_string shut_string)

theorem back_eq (l : List ByteArray) (r : ByteArray) : Fr.scan (ba (Fr.all (tx (fw l))) ++ ⟨#[0]⟩ ++ r).data.toList = (tx (fw l), (ba (Fr.all (tx (fw l)))).size) := by
  rw [list_append, list_append, ba_list, List.append_assoc, ba_size]
  exact Fr.scan_back _ _ (fw_fr l) (Fr.next_head 0 _ (by decide))
def BackRel (w1 : World) (m : List ByteArray) (x y : Value) (wr : World) : Prop :=
  ∃ j : Nat, j ≤ m.length ∧ y = .int .i64 (j : Int) ∧ x = .int .i64 ((Fr.all (tx (m.take j))).length : Int) ∧ w1 = wr

set_option maxHeartbeats 1000000 in
theorem walk (A0 : Option Addr) (c0 : Nat) (l : List ByteArray) (hl : l.length ≤ maxLen) (hs : ∀ s ∈ l, s.size ≤ maxLen) (r : ByteArray) (hr : r.size ≤ maxLen) (w : World) (hA : Lies (fun _ => False) w A0 (cs l)) (ht : Tab w) :
    Calls Tryd.prog 4 #[.slice A0 l.length c0, .string r] w fun e w' => e = .returned (.bool true) ∧ Below w.heap.size w w' := by
  have HFew := Lib.hid (fun W (h : Lies (fun _ => False) W A0 (cs l)) => few_any W A0 c0 l hl hs h)
  have HEq := Lib.hid (back_eq l (cut r 40))
  have HLn := Lib.hid (fw_len l)
  have HOk := Lib.hid (fw_ok l)
  have HSz := Lib.hid (all_fw l)
  have HCt := Lib.hid (cut_size r 40)
  have HA := Lib.hid hA
  have HT := Lib.hid ht
  have HR := Lib.hid hr
  clear hl hs hA ht hr
  generalize fw l = m at HFew HEq HLn HOk HSz
  have HK : Hid ((ba (Fr.all (tx m))).size = (Fr.all (tx m)).length) := ba_size _
  obtain ⟨S, hS⟩ : ∃ S, ba (Fr.all (tx m)) = S := ⟨_, rfl⟩
  have HAll := Lib.hid (fun W A c (hW : Tab W) (h : Lies (fun _ => False) W A (cs m)) => all_any W A c m hW (by have := HLn.out; omega) (fun s hs => by have := HOk.out s hs; omega) h)
  rw [hS] at HEq HSz HK HAll
  clear hS
  have HScan := Lib.hid (fun W hW => scan_at (S ++ ⟨#[0]⟩ ++ cut r 40) (by rw [size_append, size_append]; have := HSz.out; have := HCt.out; show S.size + 1 + _ ≤ 40000; omega) m S.size HEq.out W hW)
  have hS6 := HSz.out
  have hC4 := HCt.out
  have hS7 : S.size + (⟨#[0]⟩ : ByteArray).size ≤ 601 := Nat.add_le_add_right hS6 1
  have hS8 : (S ++ ⟨#[0]⟩).size ≤ 601 := by rw [size_append]; exact hS7
  clear HEq HCt
  go_enter Tryd.func4, Tryd.ntmps4
  go_wp2_with fail
  refine (awake_any _ (by exact HT.out)).mono ?_
  rintro e w1 ⟨rfl, hb1⟩
  have HT1 := Lib.hid (HT.out.below hb1 HT.out.lt)
  have HB1 := Lib.hid hb1
  have HA1 := Lib.hid (HA.out.below hb1)
  clear hb1
  go_wp2_with fail
  refine (HFew.out _ (by exact HA1.out)).mono ?_
  rintro e w2 ⟨A2, c2, rfl, hown2, hb2⟩
  have HT2 := Lib.hid (HT1.out.below hb2 HT1.out.lt)
  have HB2 := Lib.hid (HB1.out.trans (hb2.mono HB1.out.size))
  have HM2 := Lib.hid (Lies.own (S := fun _ => False) hown2 (fun _ _ _ h => h))
  clear hb2 hown2
  go_wp2_with fail
  refine (HAll.out _ _ _ (by exact HT2.out) (by exact HM2.out)).mono ?_
  rintro e w3 ⟨rfl, hb3⟩
  have HT3 := Lib.hid (HT2.out.below hb3 HT2.out.lt)
  have HB3 := Lib.hid (HB2.out.trans (hb3.mono HB2.out.size))
  have HM3 := Lib.hid (HM2.out.below hb3)
  clear hb3
  go_wp2_with fail
  refine (short_any r 40 HR.out _).mono ?_
  rintro e w3' ⟨rfl, rfl⟩
  go_wp2_with fail
  refine (HScan.out _ (by exact HT3.out)).mono ?_
  rintro e w4 ⟨A4, c4, rfl, hl4, hb4⟩
  have HT4 := Lib.hid (HT3.out.below hb4 HT3.out.lt)
  have HB4 := Lib.hid (HB3.out.trans (hb4.mono HB3.out.size))
  have HM4 := Lib.hid (HM3.out.below hb4)
  have HL4 := Lib.hid hl4
  clear hb4 hl4
  go_wp2_with fail
  refine (same_self _ _ _ _ _ m (by have := HLn.out; omega) (by exact HL4.out) (by exact HM4.out)).mono ?_
  rintro e w5 ⟨rfl, hb5⟩
  have HB5 := Lib.hid (HB4.out.trans (hb5.mono HB4.out.size))
  have HM5 := Lib.hid (HM4.out.below hb5)
  clear hb5
  go_wp2_with fail
  go_loopw [11, 12] (BackRel w5 m) (fun _ i _ => m.length - (intOf i).toNat)
  case atStart => exact ⟨0, by omega, rfl, rfl, rfl⟩
  case round =>
    obtain ⟨j, hj, rfl, rfl, rfl⟩ := hrel
    have hm6 := HLn.out
    by_cases hlt : j < m.length
    · obtain ⟨a, rfl, _, _, hc⟩ := HM5.out j _ (cs_get m j hlt)
      have HQ := HOk.out _ (List.getElem_mem hlt)
      have HE : Hid ((Fr.all (tx (m.take (j + 1)))).length = (Fr.all (tx (m.take j))).length + ((m[j]).size + 8)) := by
        show (Fr.all (tx (m.take (j + 1)))).length = (Fr.all (tx (m.take j))).length + ((m[j]).size + 8)
        rw [take_more m j hlt, tx_snoc, Fr.all_snoc, List.length_append, Fr.wrap_ok (by unfold Fr.ok; rw [size_list]; omega), Fr.rec_length, size_list]
      have HL : Hid ((Fr.all (tx (m.take (j + 1)))).length ≤ 88 * 6) := by
        show (Fr.all (tx (m.take (j + 1)))).length ≤ 88 * 6
        have := all_len (m.take (j + 1)) (fun s hs => (HOk.out s (List.mem_of_mem_take hs)).2)
        rw [List.length_take] at this
        omega
      rw [HE.out] at HL
      have hL := HL.out
      clear HL
      generalize m[j] = q at hc HQ HE hL
      obtain ⟨HQ1, HQ2⟩ := HQ
      have hsz := sz_ok (n := (q.size : Int)) (by omega) (by omega)
      generalize (Fr.all (tx (m.take j))).length = K at HE hL ⊢
      go_wp2_with fail
      refine (size_any _ _).mono ?_
      rintro e w6 ⟨rfl, rfl⟩
      rw [hsz]
      go_wp2_with fail
      go_roundw
      case rel => exact ⟨j + 1, by omega, by go_num, by rw [HE.out]; go_num, rfl⟩
      case measure => simp [intOf]; omega
    · obtain rfl : j = m.length := by omega
      rw [List.take_length, ← HK.out]
      go_wp2_with fail
      go_ret
      exact ⟨rfl, HB5.out⟩


/-! ### The row -/
theorem contract (H : Type) (enc : TypeId × Value → H) (W : World) (base : Nat) (args : Array Value) (ds gs : List (DataW H)) (before : List MemPlace)
    (hval : ∀ (j : Nat) t v, Tryd.f4.params[j]? = some t → args[j]? = some v → Value.okWide Tryd.prog W .any base t v)
    (hW : DataW.Whole enc Tryd.prog Tryd.f4.params.toList Rows.frameBackSpec.vars false W args.toList ds gs before) (hL : laidMetH Tryd.prog Rows.frameBackRow.laid W) :
    Calls Tryd.prog 4 args W fun e W' => ∃ v, e = .returned v ∧ Rows.frameBackSpec.post enc Tryd.prog Tryd.f4 false true false false W args v W' := by
  have hW' := hW
  obtain ⟨p, q, hA0, hV, rfl, hfz, hnd⟩ := hW
  have hA : DataW.TrodAll enc Tryd.prog W 0 (fun _ => true) true Tryd.f4.params.toList args.toList ds p := hA0
  rw [Tryd.params4] at hA hval
  obtain ⟨v0, vs0, d0, ds0, p0, q0, hargs, rfl, rfl, h0, r0⟩ := trodAll_cons hA
  obtain ⟨v1, vs1, d1, ds1, p1, q1, rfl, rfl, rfl, h1, r1⟩ := trodAll_cons r0
  obtain ⟨rfl, rfl, rfl⟩ := trodAll_nil r1
  obtain rfl : args = #[v0, v1] := by cases args; simp_all
  obtain ⟨rfl, rfl⟩ := trodVars_none hV
  refine law_contract (tb := 4) laidOut (by kernel_rfl) rfl (by kernel_rfl) Tryd.underlying4 rfl hW' ?_
  clear hA0 hW' hA
  obtain ⟨A0, k0, l0, rfl, z0, s0, g0⟩ := opened_texts (open_texts Tryd.underlying22 Tryd.underlying9 cellsStr (hval 0 22 v0 rfl rfl) h0)
  obtain ⟨a1, rfl, _, _, w1⟩ := open_string Tryd.underlying9 (hval 1 9 v1 rfl rfl) h1
  exact walk A0 k0 l0 z0 s0 a1 w1 W g0 (tab_of_laid hL)

theorem laid_met (os : Os) : laidMet Tryd.prog Rows.frameBackRow.laid ((laidWorld os).forCall (fun _ _ => 0) ⟨#[], #[.slice none 0 0, .string ⟨#[]⟩], []⟩).memory :=
  laidMet_of_run' 8 (by kernel_rfl) (by kernel_rfl)
theorem reads (os : Os) {H : Type} (enc : TypeId × Value → H) : ∃ places, DataW.whole enc Tryd.prog ((laidWorld os).forCall (fun _ _ => 0) ⟨#[], #[.slice none 0 0, .string ⟨#[]⟩], []⟩).memory Tryd.f4.params.toList Rows.frameBackSpec.vars false (#[.slice none 0 0, .string ⟨#[]⟩] : Array Value).toList 8 = some ([.nil, .lit (.string [])], [], places) :=
  ⟨[], by kernel_rfl⟩

set_option maxRecDepth 100000 in
theorem lifted (os : Os) (started : os.Started) (H : Type) (enc : TypeId × Value → H) (F : Stop.Interp) :
    ReturnsInHanded {} Tryd.checked os 4 .any ((OpenSpec.ofChange Rows.frameBackSpec).preRow enc Tryd.prog Tryd.f4 Rows.frameBackRow.domain false Rows.frameBackRow.laid) (((OpenSpec.ofChange Rows.frameBackSpec).at F).post enc Tryd.prog Tryd.f4 false true false false) := by
  obtain ⟨places, hx⟩ := reads os enc
  refine returnsInHanded_of_row (C := Tryd.checked) (s := OpenSpec.ofChange Rows.frameBackSpec) own started (by kernel_rfl) Tryd.func4
    (witness_row_at (enc := enc) (C := Tryd.checked) false (laidWorld os) #[.slice none 0 0, .string ⟨#[]⟩] rfl (by kernel_rfl) (by kernel_rfl) (by kernel_rfl)
      (OpenSpec.preRow_of_cond 8 hx (by kernel_rfl) (fun k hk => by cases hk) (by kernel_rfl) (laid_met os))) ?_
  intro W base args ds gs before hval hW _ _ _ hL _ _
  exact contract H enc W base args ds gs before hval hW hL

theorem said : Rows.FrameBackSaid :=
  OpenClaim.holds_of_cond 4 Tryd.f4 rfl rfl rfl rfl rfl rfl rfl ⟨rfl, rfl, rfl, rfl, rfl⟩ rfl rfl rfl rfl rfl (by kernel_rfl) Tryd.func4 (by kernel_rfl)
    (of_decide_eq_true (by kernel_rfl)) (by unfold Func.isWrapper; first | (rw [if_pos (by decide +kernel)]; kernel_rfl) | (rw [if_neg (by decide +kernel)]; exact ⟨rfl, rfl⟩))
    (fun os started H enc _ F => by rw [OpenClaim.pre_eq_preRow]; exact lifted os started H enc F)

theorem plain (f : FuncId) (fn : Func) (hf : Tryd.pinned.checked.prog.funcNamed "homecoming/homecominglaw04.FrameBack" = some f) (hfn : Tryd.pinned.checked.prog.funcs[f]? = some fn) :
    false = Tryd.pinned.checked.prog.looks [] ∧ ∀ (j : Nat) t, fn.params[j]? = some t → Tryd.pinned.checked.prog.wantsStandIn t = false := by
  obtain rfl : f = 4 := Option.some.inj ((show Tryd.prog.funcNamed "homecoming/homecominglaw04.FrameBack" = some 4 by kernel_rfl).symm.trans hf) |>.symm
  obtain rfl : fn = Tryd.f4 := (Option.some.inj (Tryd.func4.symm.trans hfn)).symm
  refine ⟨by kernel_rfl, fun j t ht => ?_⟩
  have hall : (Tryd.f4.params.toList.all fun u => !Tryd.prog.wantsStandIn u) = true := by kernel_rfl
  have hm : t ∈ Tryd.f4.params.toList := by simpa using Array.mem_of_getElem? ht
  exact (show Tryd.prog.wantsStandIn t = false by simpa using List.all_eq_true.1 hall t hm)

/-- THE STATEMENT. -/
theorem card : Rows.FrameBackCardSaid :=
  Claim7.holds_tied_plain_at .later [] _ _ _ _ said (fun _ h => by cases h) (by kernel_rfl) (fun _ h => by cases h) frameBack_row_tie rfl ⟨rfl, rfl⟩ (by kernel_rfl) rfl plain (by kernel_rfl)
#print axioms card
end Go.Proofs.YtgbopohbhnpceaaDoor.frameBack
