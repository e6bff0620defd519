/-
  Proves the statement of FrameParts: for every two rows of texts the law returns true (the records of two rows are those of each, one behind the other; cut at the first one's end, the rest is read alone), and its arguments read as they did. Condition: the package-level table halfBytes holds what its text lays.
-/
import Derived.Test.YtgbopohbhnpceaaDoorFrameW
import Derived.Test.YtgbopohbhnpceaaDoorApp
import Derived.Test.YtgbopohbhnpceaaDoorCrcTable
import Derived.Test.YtgbopohbhnpceaaDoorCards
import Derived.Test.YtgbopohbhnpceaaDoorTie
namespace Go.Proofs.YtgbopohbhnpceaaDoor.frameParts
open Go.ChangeShapes Go.WideShapes Go.ChangeAt Go.RowKit
open Go.ChangeMaps (open_string shut_string)

theorem parts_scan (l : List ByteArray) : Fr.scan (ba (Fr.all (tx (fw l)))).data.toList = (tx (fw l), (ba (Fr.all (tx (fw l)))).size) := by
  have := Fr.scan_back (tx (fw l)) [] (fw_fr l) Fr.next_nil
  rw [List.append_nil] at this
  rw [ba_list, ba_size, this]
theorem parts_all (x y : List ByteArray) : ba (Fr.all (tx (x ++ y))) = ba (Fr.all (tx x)) ++ ba (Fr.all (tx y)) := by rw [tx_append, Fr.all_append, ba_append]
theorem run_rest (X Y : ByteArray) (W : World) : (Instr.slice 9 (.string (X ++ Y)) (some (.int .i64 (X.size : Int))) none none).run Tryd.prog W = .ok (.string Y) W := by
  rw [run_from (X ++ Y) (X.size : Int) X.size rfl (by rw [size_append]; omega), list_append, ← size_list X, List.drop_left, ba_back]

set_option maxHeartbeats 1000000 in
theorem walk (A0 A1 : Option Addr) (c0 c1 : Nat) (a b : List ByteArray) (ha : a.length ≤ maxLen) (hb : b.length ≤ maxLen) (hsa : ∀ s ∈ a, s.size ≤ maxLen) (hsb : ∀ s ∈ b, s.size ≤ maxLen) (w : World) (hA : Lies (fun _ => False) w A0 (cs a)) (hB : Lies (fun _ => False) w A1 (cs b)) (ht : Tab w) :
    Calls Tryd.prog 8 #[.slice A0 a.length c0, .slice A1 b.length c1] w fun e w' => e = .returned (.bool true) ∧ Below w.heap.size w w' := by
  have HF1 := Lib.hid (fun W (h : Lies (fun _ => False) W A0 (cs a)) => few_any W A0 c0 a ha hsa h)
  have HF2 := Lib.hid (fun W (h : Lies (fun _ => False) W A1 (cs b)) => few_any W A1 c1 b hb hsb h)
  have HL1 := Lib.hid (fw_len a)
  have HL2 := Lib.hid (fw_len b)
  have HO1 := Lib.hid (fw_size a)
  have HO2 := Lib.hid (fw_size b)
  have HZ1 := Lib.hid (all_fw a)
  have HZ2 := Lib.hid (all_fw b)
  have HSc := Lib.hid (parts_scan b)
  have HA := Lib.hid hA
  have HB := Lib.hid hB
  have HT := Lib.hid ht
  clear ha hb hsa hsb hA hB ht
  generalize fw a = x at HF1 HL1 HO1 HZ1
  generalize fw b = y at HF2 HL2 HO2 HZ2 HSc
  have HAll := Lib.hid (fun W A c (hW : Tab W) (h : Lies (fun _ => False) W A (cs x)) => all_any W A c x hW (by have := HL1.out; omega) HO1.out h)
  have HAllY := Lib.hid (fun W A c (hW : Tab W) (h : Lies (fun _ => False) W A (cs y)) => all_any W A c y hW (by have := HL2.out; omega) HO2.out h)
  have HAllXY := Lib.hid (fun W A c (hW : Tab W) (h : Lies (fun _ => False) W A (cs (x ++ y))) => all_any W A c (x ++ y) hW (by rw [List.length_append]; have := HL1.out; have := HL2.out; omega) (fun s hs => (List.mem_append.1 hs).elim (HO1.out s) (HO2.out s)) h)
  rw [parts_all] at HAllXY
  simp only [List.length_append] at HAllXY
  generalize ba (Fr.all (tx x)) = X at HAll HAllXY HZ1
  generalize ba (Fr.all (tx y)) = Y at HAllY HAllXY HZ2 HSc
  have HScan := Lib.hid (fun W hW => scan_at Y (by have := HZ2.out; omega) y Y.size HSc.out W hW)
  have hrest := run_rest X Y
  have hsz : ((X ++ Y).size : Int) = (X.size : Int) + (Y.size : Int) := by rw [size_append]; omega
  have hX6 := HZ1.out
  have hY6 := HZ2.out
  have hx6 := HL1.out
  have hy6 := HL2.out
  have heq : ((X ++ Y).toList == (X ++ Y).toList) = true := by rw [str_beq]; simp
  have hgt : ¬ ((X ++ Y).size : Int) < (X.size : Int) := by omega
  clear HSc HO1 HO2 HZ1 HZ2 HL1 HL2
  go_enter Tryd.func8, Tryd.ntmps8
  go_wp2_with fail
  refine (awake_any _ (by exact HT.out)).mono ?_
  rintro e w1 ⟨rfl, hb1⟩
  have HT1 := Lib.hid (HT.out.below hb1 HT.out.lt)
  have HB1 := Lib.hid hb1
  have HA1 := Lib.hid (HA.out.below hb1)
  have HA1' := Lib.hid (HB.out.below hb1)
  clear hb1
  go_wp2_with fail
  refine (HF1.out _ (by exact HA1.out)).mono ?_
  rintro e w2 ⟨A2, c2, rfl, hown2, hb2⟩
  have HT2 := Lib.hid (HT1.out.below hb2 HT1.out.lt)
  have HB2 := Lib.hid (HB1.out.trans (hb2.mono HB1.out.size))
  have HM2 := Lib.hid (Lies.own (S := fun _ => False) hown2 (fun _ _ _ h => h))
  have HA2' := Lib.hid (HA1'.out.below hb2)
  clear hb2 hown2
  go_wp2_with fail
  refine (HF2.out _ (by exact HA2'.out)).mono ?_
  rintro e w3 ⟨A3, c3, rfl, hown3, hb3⟩
  have HT3 := Lib.hid (HT2.out.below hb3 HT2.out.lt)
  have HB3 := Lib.hid (HB2.out.trans (hb3.mono HB2.out.size))
  have HM3 := Lib.hid (HM2.out.below hb3)
  have HN3 := Lib.hid (Lies.own (S := fun _ => False) hown3 (fun _ _ _ h => h))
  clear hb3 hown3
  have bA : Below w3.heap.size w3 (w3.alloc (.cells #[] 9)) := (Below.refl _ w3).alloc (Nat.le_refl _) _
  obtain ⟨A4, c4, w4, hr4, ho4, hg4⟩ := run_append_texts (w3.alloc (.cells #[] 9)) w3.heap.size 22 _ [] (own_empty w3 _) A2 c2 x (HM3.out.below bA) (by simp; omega) (by simp)
  have k4 : Kept (fun k => k = w3.heap.size) w3 w4 := ((Kept.refl _ w3).alloc _).grown hg4 (fun k hk => .inl (by simpa [Value.ownBlock] using hk.symm))
  have b4 : Below w3.heap.size w3 w4 := Kept.below (Below.refl _ w3) k4 (fun k hk => by omega) (Nat.le_refl _)
  rw [List.nil_append] at hr4 ho4
  obtain ⟨A5, c5, w5, hr5, ho5, hg5⟩ := run_append_texts w4 w3.heap.size 22 _ x ho4 A3 c3 y (HN3.out.below b4) (by omega) b4.size
  have b5 : Below w3.heap.size w3 w5 := Kept.below b4 ((Kept.refl (fun k => (Value.slice A4 x.length c4).ownBlock = some k) w4).grown hg5 (fun k hk => .inl hk)) (fun k hk => own_base ho4 hk) b4.size
  have HT5 := Lib.hid (HT3.out.below b5 HT3.out.lt)
  have HB5 := Lib.hid (HB3.out.trans (b5.mono HB3.out.size))
  have HM5 := Lib.hid (HM3.out.below b5)
  have HN5 := Lib.hid (HN3.out.below b5)
  have HXY := Lib.hid (Lies.own (S := fun _ => False) ho5 (fun _ _ _ h => h))
  have HR4 := Lib.hid hr4
  have HR5 := Lib.hid hr5
  clear bA hr4 hr5 ho4 ho5 hg4 hg5 k4 b4 b5
  go_wp2_with first
    | (at_builtin; refine wpList_append_run rfl (.tmp 18) (.tmp 19) 22 22 rfl _ _ _ rfl rfl HR4.out ?_; clear HR4)
    | (at_builtin; refine wpList_append_run rfl (.tmp 20) (.tmp 21) 22 22 rfl _ _ _ rfl rfl HR5.out ?_)
  refine (HAllXY.out _ _ _ (by exact HT5.out) (by exact HXY.out)).mono ?_
  rintro e w6 ⟨rfl, hb6⟩
  have HT6 := Lib.hid (HT5.out.below hb6 HT5.out.lt)
  have HB6 := Lib.hid (HB5.out.trans (hb6.mono HB5.out.size))
  have HM6 := Lib.hid (HM5.out.below hb6)
  have HN6 := Lib.hid (HN5.out.below hb6)
  clear hb6 HAllXY
  go_wp2_with fail
  refine (HAll.out _ _ _ (by exact HT6.out) (by exact HM6.out)).mono ?_
  rintro e w7 ⟨rfl, hb7⟩
  have HT7 := Lib.hid (HT6.out.below hb7 HT6.out.lt)
  have HB7 := Lib.hid (HB6.out.trans (hb7.mono HB6.out.size))
  have HM7 := Lib.hid (HM6.out.below hb7)
  have HN7 := Lib.hid (HN6.out.below hb7)
  clear hb7
  go_wp2_with fail
  refine (HScan.out _ (by exact HT7.out)).mono ?_
  rintro e w8 ⟨A8, c8, rfl, hl8, hb8⟩
  have HT8 := Lib.hid (HT7.out.below hb8 HT7.out.lt)
  have HB8 := Lib.hid (HB7.out.trans (hb8.mono HB7.out.size))
  have HM8 := Lib.hid (HM7.out.below hb8)
  have HN8 := Lib.hid (HN7.out.below hb8)
  have HL8 := Lib.hid hl8
  clear hb8 hl8
  go_wp2_with fail
  refine (same_self _ _ _ _ _ y (by omega) (by exact HL8.out) (by exact HN8.out)).mono ?_
  rintro e w9 ⟨rfl, hb9⟩
  have HT9 := Lib.hid (HT8.out.below hb9 HT8.out.lt)
  have HB9 := Lib.hid (HB8.out.trans (hb9.mono HB8.out.size))
  have HM9 := Lib.hid (HM8.out.below hb9)
  have HN9 := Lib.hid (HN8.out.below hb9)
  clear hb9
  go_wp2_with fail
  refine (HAll.out _ _ _ (by exact HT9.out) (by exact HM9.out)).mono ?_
  rintro e wa ⟨rfl, hba⟩
  have HTa := Lib.hid (HT9.out.below hba HT9.out.lt)
  have HBa := Lib.hid (HB9.out.trans (hba.mono HB9.out.size))
  have HNa := Lib.hid (HN9.out.below hba)
  clear hba
  go_wp2_with fail
  refine (HAllY.out _ _ _ (by exact HTa.out) (by exact HNa.out)).mono ?_
  rintro e wb ⟨rfl, hbb⟩
  have HBb := Lib.hid (HBa.out.trans (hbb.mono HBa.out.size))
  clear hbb
  go_wp2_with fail
  go_ret
  have hfin : ((Y.size : Int) == (X.size : Int) + (Y.size : Int) - (X.size : Int)) = true := by rw [beq_iff_eq]; omega
  refine ⟨?_, HBb.out⟩
  rw [hfin]
  rfl


/-! ### The row -/
theorem contract (H : Type) (enc : TypeId × Value → H) (W : World) (base : Nat) (args : Array Value) (ds gs : List (DataW H)) (before : List MemPlace)
    (hval : ∀ (j : Nat) t v, Tryd.f8.params[j]? = some t → args[j]? = some v → Value.okWide Tryd.prog W .any base t v)
    (hW : DataW.Whole enc Tryd.prog Tryd.f8.params.toList Rows.framePartsSpec.vars false W args.toList ds gs before) (hL : laidMetH Tryd.prog Rows.framePartsRow.laid W) :
    Calls Tryd.prog 8 args W fun e W' => ∃ v, e = .returned v ∧ Rows.framePartsSpec.post enc Tryd.prog Tryd.f8 false true false false W args v W' := by
  have hW' := hW
  obtain ⟨p, q, hA0, hV, rfl, hfz, hnd⟩ := hW
  have hA : DataW.TrodAll enc Tryd.prog W 0 (fun _ => true) true Tryd.f8.params.toList args.toList ds p := hA0
  rw [Tryd.params8] at hA hval
  obtain ⟨v0, vs0, d0, ds0, p0, q0, hargs, rfl, rfl, h0, r0⟩ := trodAll_cons hA
  obtain ⟨v1, vs1, d1, ds1, p1, q1, rfl, rfl, rfl, h1, r1⟩ := trodAll_cons r0
  obtain ⟨rfl, rfl, rfl⟩ := trodAll_nil r1
  obtain rfl : args = #[v0, v1] := by cases args; simp_all
  obtain ⟨rfl, rfl⟩ := trodVars_none hV
  refine law_contract (tb := 4) laidOut (by kernel_rfl) rfl (by kernel_rfl) Tryd.underlying4 rfl hW' ?_
  clear hA0 hW' hA
  obtain ⟨A0, k0, l0, rfl, z0, s0, g0⟩ := opened_texts (open_texts Tryd.underlying22 Tryd.underlying9 cellsStr (hval 0 22 v0 rfl rfl) h0)
  obtain ⟨A1, k1, l1, rfl, z1, s1, g1⟩ := opened_texts (open_texts Tryd.underlying22 Tryd.underlying9 cellsStr (hval 1 22 v1 rfl rfl) h1)
  exact walk A0 A1 k0 k1 l0 l1 z0 z1 s0 s1 W g0 g1 (tab_of_laid hL)

theorem laid_met (os : Os) : laidMet Tryd.prog Rows.framePartsRow.laid ((laidWorld os).forCall (fun _ _ => 0) ⟨#[], #[.slice none 0 0, .slice none 0 0], []⟩).memory :=
  laidMet_of_run' 8 (by kernel_rfl) (by kernel_rfl)
theorem reads (os : Os) {H : Type} (enc : TypeId × Value → H) : ∃ places, DataW.whole enc Tryd.prog ((laidWorld os).forCall (fun _ _ => 0) ⟨#[], #[.slice none 0 0, .slice none 0 0], []⟩).memory Tryd.f8.params.toList Rows.framePartsSpec.vars false (#[.slice none 0 0, .slice none 0 0] : Array Value).toList 8 = some ([.nil, .nil], [], places) :=
  ⟨[], by kernel_rfl⟩

set_option maxRecDepth 100000 in
theorem lifted (os : Os) (started : os.Started) (H : Type) (enc : TypeId × Value → H) (F : Stop.Interp) :
    ReturnsInHanded {} Tryd.checked os 8 .any ((OpenSpec.ofChange Rows.framePartsSpec).preRow enc Tryd.prog Tryd.f8 Rows.framePartsRow.domain false Rows.framePartsRow.laid) (((OpenSpec.ofChange Rows.framePartsSpec).at F).post enc Tryd.prog Tryd.f8 false true false false) := by
  obtain ⟨places, hx⟩ := reads os enc
  refine returnsInHanded_of_row (C := Tryd.checked) (s := OpenSpec.ofChange Rows.framePartsSpec) own started (by kernel_rfl) Tryd.func8
    (witness_row_at (enc := enc) (C := Tryd.checked) false (laidWorld os) #[.slice none 0 0, .slice none 0 0] rfl (by kernel_rfl) (by kernel_rfl) (by kernel_rfl)
      (OpenSpec.preRow_of_cond 8 hx (by kernel_rfl) (fun k hk => by cases hk) (by kernel_rfl) (laid_met os))) ?_
  intro W base args ds gs before hval hW _ _ _ hL _ _
  exact contract H enc W base args ds gs before hval hW hL

theorem said : Rows.FramePartsSaid :=
  OpenClaim.holds_of_cond 8 Tryd.f8 rfl rfl rfl rfl rfl rfl rfl ⟨rfl, rfl, rfl, rfl, rfl⟩ rfl rfl rfl rfl rfl (by kernel_rfl) Tryd.func8 (by kernel_rfl)
    (of_decide_eq_true (by kernel_rfl)) (by unfold Func.isWrapper; first | (rw [if_pos (by decide +kernel)]; kernel_rfl) | (rw [if_neg (by decide +kernel)]; exact ⟨rfl, rfl⟩))
    (fun os started H enc _ F => by rw [OpenClaim.pre_eq_preRow]; exact lifted os started H enc F)

theorem plain (f : FuncId) (fn : Func) (hf : Tryd.pinned.checked.prog.funcNamed "homecoming/homecominglaw04.FrameParts" = some f) (hfn : Tryd.pinned.checked.prog.funcs[f]? = some fn) :
    false = Tryd.pinned.checked.prog.looks [] ∧ ∀ (j : Nat) t, fn.params[j]? = some t → Tryd.pinned.checked.prog.wantsStandIn t = false := by
  obtain rfl : f = 8 := Option.some.inj ((show Tryd.prog.funcNamed "homecoming/homecominglaw04.FrameParts" = some 8 by kernel_rfl).symm.trans hf) |>.symm
  obtain rfl : fn = Tryd.f8 := (Option.some.inj (Tryd.func8.symm.trans hfn)).symm
  refine ⟨by kernel_rfl, fun j t ht => ?_⟩
  have hall : (Tryd.f8.params.toList.all fun u => !Tryd.prog.wantsStandIn u) = true := by kernel_rfl
  have hm : t ∈ Tryd.f8.params.toList := by simpa using Array.mem_of_getElem? ht
  exact (show Tryd.prog.wantsStandIn t = false by simpa using List.all_eq_true.1 hall t hm)

/-- THE STATEMENT. -/
theorem card : Rows.FramePartsCardSaid :=
  Claim7.holds_tied_plain_at .later [] _ _ _ _ said (fun _ h => by cases h) (by kernel_rfl) (fun _ h => by cases h) frameParts_row_tie rfl ⟨rfl, rfl⟩ (by kernel_rfl) rfl plain (by kernel_rfl)
#print axioms card
end Go.Proofs.YtgbopohbhnpceaaDoor.frameParts
