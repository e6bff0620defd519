/-
  Proves the statement of FrameGone: for every text and every number the law returns true (a record whose first bytes are 0, one at least, is none), and its arguments read as they did. Condition: the package-level table halfBytes holds what its text lays.
-/
import Derived.Test.YtgbopohbhnpceaaDoorFrameW
import Derived.Test.YtgbopohbhnpceaaDoorByt
import Derived.Test.YtgbopohbhnpceaaDoorCrcTable
import Derived.Test.YtgbopohbhnpceaaDoorCards
import Derived.Test.YtgbopohbhnpceaaDoorTie
namespace Go.Proofs.YtgbopohbhnpceaaDoor.frameGone
open Go.ChangeShapes Go.WideShapes Go.ChangeAt Go.RowKit
open Go.ChangeMaps (open_string shut_string)

/-- The first k bytes 0. -/
def wipe (l : List UInt8) (k : Nat) : List UInt8 := List.replicate k 0 ++ l.drop k
theorem wipe_length (l : List UInt8) (k : Nat) (h : k ≤ l.length) : (wipe l k).length = l.length := by simp [wipe]; omega
theorem wipe_zero (l : List UInt8) : wipe l 0 = l := by simp [wipe]
theorem wipe_succ (l : List UInt8) (k : Nat) (h : k < l.length) : wipe l (k + 1) = (wipe l k).set k 0 := by
  unfold wipe
  rw [List.set_append_right _ _ (by simp), List.length_replicate, Nat.sub_self, List.drop_eq_getElem_cons h, List.set_cons_zero]
  rw [List.replicate_succ', List.append_assoc]
  rfl
theorem wipe_head (l : List UInt8) (k : Nat) : ∃ r, wipe l (k + 1) = 0 :: r := ⟨List.replicate k 0 ++ l.drop (k + 1), by simp [wipe, List.replicate_succ]⟩
theorem wipe_all (l : List UInt8) (k : Nat) (h : l.length ≤ k) : Fr.empty (wipe l k) 0 = true := by
  unfold Fr.empty wipe
  simp [List.drop_eq_nil_of_le h]
def GoneRel (w1 : World) (B : Nat) (l : List UInt8) (k : Nat) (y : Value) (wr : World) : Prop :=
  ∃ i : Nat, i ≤ k ∧ y = .int .i64 (i : Int) ∧ BL wr B (wipe l i) ∧ Below B w1 wr ∧ B < wr.heap.size

set_option maxHeartbeats 1000000 in
theorem walk (s : ByteArray) (hs : s.size ≤ maxLen) (n : Int) (_hn : -9223372036854775808 ≤ n ∧ n ≤ 9223372036854775807) (w : World) (ht : Tab w) :
    Calls Tryd.prog 6 #[.string s, .int .i64 n] w fun e w' => e = .returned (.bool true) ∧ Below w.heap.size w w' := by
  have HFew := Lib.hid (fun W => few_one s hs W)
  have hfx := fx_ok s
  have HT := Lib.hid ht
  have hcv := run_bytes_of
  clear hs ht
  generalize fx s = t at HFew hfx
  have HWrap := Lib.hid (fun W (hW : Tab W) => wrap_any t W hW (by omega))
  have hYs : (ba (Fr.wrap t.data.toList)).size = t.size + 8 := by rw [ba_size, Fr.wrap_ok (by unfold Fr.ok; rw [size_list]; omega), Fr.rec_length, size_list]
  generalize ba (Fr.wrap t.data.toList) = Y at HWrap hYs
  have hY1 : 9 ≤ Y.size := by omega
  have hY2 : Y.size ≤ 88 := by omega
  clear hYs hfx
  obtain ⟨k, hk, ek⟩ := mod_nat n Y.size (by omega) (by omega)
  have hne : ¬ ((Y.size : Int) = 0) := by omega
  have hne' : (Y.size : Int) ≠ 0 := hne
  go_enter Tryd.func6, Tryd.ntmps6
  go_wp2_with fail
  refine (awake_any _ (by exact HT.out)).mono ?_
  rintro e w1 ⟨rfl, hb1⟩
  have HT1 := Lib.hid (HT.out.below hb1 HT.out.lt)
  have HB1 := Lib.hid hb1
  clear hb1
  go_wp2_with fail
  refine (HFew.out w1).mono ?_
  rintro e w2 ⟨g2, c2, rfl, hc2, hb2⟩
  have HT2 := Lib.hid (HT1.out.below hb2 HT1.out.lt)
  have HB2 := Lib.hid (HB1.out.trans (hb2.mono HB1.out.size))
  clear hb2
  go_wp2_with fail
  refine (HWrap.out _ (by exact HT2.out)).mono ?_
  rintro e w3 ⟨rfl, hb3⟩
  have HT3 := Lib.hid (HT2.out.below hb3 HT2.out.lt)
  have HB3 := Lib.hid (HB2.out.trans (hb3.mono HB2.out.size))
  clear hb3 hc2
  go_wp2_with fail
  go_loopw [9] (GoneRel w3 w3.heap.size Y.data.toList (k + 1)) (fun i _ => (k + 1) - (intOf i).toNat)
  case atStart => exact ⟨0, by omega, rfl, by rw [wipe_zero]; exact BL.new w3 Y, below_bytes w3 Y, by rw [Lib.bytesWorld_size]; omega⟩
  case round =>
    obtain ⟨i, hi, rfl, hbl, hbel, hBw⟩ := hrel
    clear hcv ek
    have hlen := wipe_length Y.data.toList i (by rw [size_list]; omega)
    rw [size_list] at hlen
    by_cases hlt : i < k + 1
    · have hiY : i < Y.size := by omega
      obtain ⟨hcB, hfB⟩ := hbl i (by omega)
      have HL := Lib.hid (hbl.set i (by omega) 0)
      rw [← wipe_succ Y.data.toList i (by rw [size_list]; omega)] at HL
      have HBl := Lib.hid hbel
      have hlt' : (i : Int) < 1 + (k : Int) := by omega
      generalize (wipe Y.data.toList i)[i] = x at hcB
      clear hbl hbel hlen
      go_wp2_with fail
      go_roundw
      case rel => exact ⟨i + 1, by omega, by go_num, HL.out, HBl.out.setCell (p := ⟨w3.heap.size, i, none⟩) (Nat.le_refl _) _, by simpa using hBw⟩
      case measure => simp [intOf]; omega
    · obtain rfl : i = k + 1 := by omega
      have hlt' : ¬ ((k + 1 : Nat) : Int) < 1 + (k : Int) := by omega
      have HBr := Lib.hid (HB3.out.trans (hbel.mono HB3.out.size))
      have HTr := Lib.hid (HT3.out.below hbel HT3.out.lt)
      have hcv := fun cap => hbl.text Y.size cap hlen
      have HL := Lib.hid hbl
      obtain ⟨r, hr⟩ := wipe_head Y.data.toList k
      have hnx : Fr.next (wipe Y.data.toList (k + 1)) = none := by rw [hr]; exact Fr.next_head 0 _ (by decide)
      have HEm := Lib.hid (fun h => wipe_all Y.data.toList (k + 1) h)
      obtain ⟨T, hT⟩ : ∃ T, ba (wipe Y.data.toList (k + 1)) = T := ⟨_, rfl⟩
      have hTl : T.data.toList = wipe Y.data.toList (k + 1) := by rw [← hT, ba_list]
      have hTs : T.size = Y.size := by rw [← size_list, hTl, hlen]
      rw [← hTl] at hnx HEm
      rw [hT] at hcv
      have HN := Lib.hid (fun W (hW : Tab W) => next_any' T W (by omega) hW)
      obtain ⟨q1, q2, q3⟩ := n_none hnx
      rw [q1, q2, q3] at HN
      have HS := Lib.hid (fun W (hW : Tab W) => scan_at T (by omega) [] 0 (by rw [Fr.scan_none hnx]; rfl) W hW)
      have HTx : Hid (∀ W, BL W w3.heap.size (wipe Y.data.toList (k + 1)) → ∀ cap, (convert 26 9 (.slice (some ⟨w3.heap.size, 0, none⟩) Y.size cap)).run Tryd.prog W = .ok (.string T) W) := fun W h cap => by rw [← hT]; exact h.text Y.size cap hlen
      have HE := Lib.hid (fun W => empty_any T 0 (by omega) (by omega) (by unfold maxLen; omega) W)
      clear hbl hbel hr hnx hT hTl q1 q2 q3 hlen
      simp only [List.length_nil] at HS
      go_wp2_with fail
      refine (HN.out _ (by exact HTr.out)).mono ?_
      rintro e w4 ⟨rfl, hb4⟩
      have HT4 := Lib.hid (HTr.out.below hb4 HTr.out.lt)
      have HB4 := Lib.hid (HBr.out.trans (hb4.mono HBr.out.size))
      have HL4 := Lib.hid (HL.out.below hb4 hBw)
      have hBw4 := Nat.lt_of_lt_of_le hBw hb4.size
      have hcv4 := HTx.out _ HL4.out
      clear hb4
      go_wp2_with fail
      refine (HS.out _ (by exact HT4.out)).mono ?_
      rintro e w5 ⟨A5, c5, rfl, _, hb5⟩
      have HB5 := Lib.hid (HB4.out.trans (hb5.mono HB4.out.size))
      have hcv5 := HTx.out _ (HL4.out.below hb5 hBw4)
      clear hb5
      by_cases hfull : 1 + (k : Int) < (Y.size : Int)
      · go_wp2_with fail
        go_ret
        exact ⟨rfl, HB5.out⟩
      · have hem := HEm.out (by rw [size_list]; omega)
        rw [hem] at HE
        go_wp2_with (go_at_call 21; refine (HE.out _).mono ?_; rintro e w6 ⟨rfl, rfl⟩)
        go_ret
        exact ⟨rfl, HB5.out⟩


/-! ### The row -/
theorem contract (H : Type) (enc : TypeId × Value → H) (W : World) (base : Nat) (args : Array Value) (ds gs : List (DataW H)) (before : List MemPlace)
    (hval : ∀ (j : Nat) t v, Tryd.f6.params[j]? = some t → args[j]? = some v → Value.okWide Tryd.prog W .any base t v)
    (hW : DataW.Whole enc Tryd.prog Tryd.f6.params.toList Rows.frameGoneSpec.vars false W args.toList ds gs before) (hL : laidMetH Tryd.prog Rows.frameGoneRow.laid W) :
    Calls Tryd.prog 6 args W fun e W' => ∃ v, e = .returned v ∧ Rows.frameGoneSpec.post enc Tryd.prog Tryd.f6 false true false false W args v W' := by
  have hW' := hW
  obtain ⟨p, q, hA0, hV, rfl, hfz, hnd⟩ := hW
  have hA : DataW.TrodAll enc Tryd.prog W 0 (fun _ => true) true Tryd.f6.params.toList args.toList ds p := hA0
  rw [Tryd.params6] at hA hval
  obtain ⟨v0, vs0, d0, ds0, p0, q0, hargs, rfl, rfl, h0, r0⟩ := trodAll_cons hA
  obtain ⟨v1, vs1, d1, ds1, p1, q1, rfl, rfl, rfl, h1, r1⟩ := trodAll_cons r0
  obtain ⟨rfl, rfl, rfl⟩ := trodAll_nil r1
  obtain rfl : args = #[v0, v1] := by cases args; simp_all
  obtain ⟨rfl, rfl⟩ := trodVars_none hV
  refine law_contract (tb := 4) laidOut (by kernel_rfl) rfl (by kernel_rfl) Tryd.underlying4 rfl hW' ?_
  clear hA0 hW' hA
  obtain ⟨a0, rfl, _, _, w0⟩ := open_string Tryd.underlying9 (hval 0 9 v0 rfl rfl) h0
  obtain ⟨a1, rfl, rfl, rfl, w1⟩ := open_int Tryd.underlying3 (hval 1 3 v1 rfl rfl) h1
  exact walk a0 w0 a1 (bounds_int w1) W (tab_of_laid hL)

theorem laid_met (os : Os) : laidMet Tryd.prog Rows.frameGoneRow.laid ((laidWorld os).forCall (fun _ _ => 0) ⟨#[], #[.string ⟨#[]⟩, .int .i64 0], []⟩).memory :=
  laidMet_of_run' 8 (by kernel_rfl) (by kernel_rfl)
theorem reads (os : Os) {H : Type} (enc : TypeId × Value → H) : ∃ places, DataW.whole enc Tryd.prog ((laidWorld os).forCall (fun _ _ => 0) ⟨#[], #[.string ⟨#[]⟩, .int .i64 0], []⟩).memory Tryd.f6.params.toList Rows.frameGoneSpec.vars false (#[.string ⟨#[]⟩, .int .i64 0] : Array Value).toList 8 = some ([.lit (.string []), .lit (.int .i64 0)], [], places) :=
  ⟨[], by kernel_rfl⟩

set_option maxRecDepth 100000 in
theorem lifted (os : Os) (started : os.Started) (H : Type) (enc : TypeId × Value → H) (F : Stop.Interp) :
    ReturnsInHanded {} Tryd.checked os 6 .any ((OpenSpec.ofChange Rows.frameGoneSpec).preRow enc Tryd.prog Tryd.f6 Rows.frameGoneRow.domain false Rows.frameGoneRow.laid) (((OpenSpec.ofChange Rows.frameGoneSpec).at F).post enc Tryd.prog Tryd.f6 false true false false) := by
  obtain ⟨places, hx⟩ := reads os enc
  refine returnsInHanded_of_row (C := Tryd.checked) (s := OpenSpec.ofChange Rows.frameGoneSpec) own started (by kernel_rfl) Tryd.func6
    (witness_row_at (enc := enc) (C := Tryd.checked) false (laidWorld os) #[.string ⟨#[]⟩, .int .i64 0] rfl (by kernel_rfl) (by kernel_rfl) (by kernel_rfl)
      (OpenSpec.preRow_of_cond 8 hx (by kernel_rfl) (fun k hk => by cases hk) (by kernel_rfl) (laid_met os))) ?_
  intro W base args ds gs before hval hW _ _ _ hL _ _
  exact contract H enc W base args ds gs before hval hW hL

theorem said : Rows.FrameGoneSaid :=
  OpenClaim.holds_of_cond 6 Tryd.f6 rfl rfl rfl rfl rfl rfl rfl ⟨rfl, rfl, rfl, rfl, rfl⟩ rfl rfl rfl rfl rfl (by kernel_rfl) Tryd.func6 (by kernel_rfl)
    (of_decide_eq_true (by kernel_rfl)) (by unfold Func.isWrapper; first | (rw [if_pos (by decide +kernel)]; kernel_rfl) | (rw [if_neg (by decide +kernel)]; exact ⟨rfl, rfl⟩))
    (fun os started H enc _ F => by rw [OpenClaim.pre_eq_preRow]; exact lifted os started H enc F)

theorem plain (f : FuncId) (fn : Func) (hf : Tryd.pinned.checked.prog.funcNamed "homecoming/homecominglaw04.FrameGone" = some f) (hfn : Tryd.pinned.checked.prog.funcs[f]? = some fn) :
    false = Tryd.pinned.checked.prog.looks [] ∧ ∀ (j : Nat) t, fn.params[j]? = some t → Tryd.pinned.checked.prog.wantsStandIn t = false := by
  obtain rfl : f = 6 := Option.some.inj ((show Tryd.prog.funcNamed "homecoming/homecominglaw04.FrameGone" = some 6 by kernel_rfl).symm.trans hf) |>.symm
  obtain rfl : fn = Tryd.f6 := (Option.some.inj (Tryd.func6.symm.trans hfn)).symm
  refine ⟨by kernel_rfl, fun j t ht => ?_⟩
  have hall : (Tryd.f6.params.toList.all fun u => !Tryd.prog.wantsStandIn u) = true := by kernel_rfl
  have hm : t ∈ Tryd.f6.params.toList := by simpa using Array.mem_of_getElem? ht
  exact (show Tryd.prog.wantsStandIn t = false by simpa using List.all_eq_true.1 hall t hm)

/-- THE STATEMENT. -/
theorem card : Rows.FrameGoneCardSaid :=
  Claim7.holds_tied_plain_at .later [] _ _ _ _ said (fun _ h => by cases h) (by kernel_rfl) (fun _ h => by cases h) frameGone_row_tie rfl ⟨rfl, rfl⟩ (by kernel_rfl) rfl plain (by kernel_rfl)
#print axioms card
end Go.Proofs.YtgbopohbhnpceaaDoor.frameGone
