/-
  Proves the statement of MacEqual: for every two texts and every two numbers the law returns true (two texts are equal just if they are the same, at each byte), and its arguments read as they did. Condition: the package-level tables cubeRoots and squareRoots hold what their texts lay.
-/
import Derived.Test.YthaejfbbefpojaaDoorShort07
import Derived.Test.YthaejfbbefpojaaDoorShR
import Derived.Test.YthaejfbbefpojaaDoorMacE
import Derived.Test.YthaejfbbefpojaaDoorShS
import Derived.Test.YthaejfbbefpojaaDoorCards
import Derived.Test.YthaejfbbefpojaaDoorTie
namespace Go.Proofs.YthaejfbbefpojaaDoor.macEqual
open Go.ChangeShapes Go.WideShapes Go.ChangeAt Go.RowKit
open Go.ChangeMaps (open_string shut_string)

theorem cellsInt : Tryd.prog.cellsOf 3 = 1 := by kernel_rfl
theorem mod_nat (q : Int) (M : Nat) (h0 : 0 < M) (hM : M ≤ 1000000) : ∃ m : Nat, m < M ∧ (wrap64 (q.tmod (M : Int) + (M : Int))).tmod (M : Int) = (m : Int) := by
  have h1 := Int.tmod_lt_of_pos q (show (0 : Int) < (M : Int) by omega)
  have h2 : -(M : Int) < q.tmod (M : Int) := by
    have := Int.tmod_lt_of_pos (-q) (show (0 : Int) < (M : Int) by omega)
    rw [Int.neg_tmod] at this
    omega
  generalize q.tmod (M : Int) = t at h1 h2 ⊢
  have h3 : wrap64 (t + (M : Int)) = t + (M : Int) := by
    simp only [wrap64]
    omega
  rw [h3]
  have h5 := Int.tmod_lt_of_pos (t + (M : Int)) (show (0 : Int) < (M : Int) by omega)
  have h4 : 0 ≤ (t + (M : Int)).tmod (M : Int) := Int.tmod_nonneg _ (by omega)
  exact ⟨((t + (M : Int)).tmod (M : Int)).toNat, by omega, by omega⟩
theorem run_upto (s : ByteArray) (k : Nat) (hk : k ≤ s.size) (W : World) : (Instr.slice 9 (.string s) none (some (.int .i64 (k : Int))) none).run Tryd.prog W = .ok (.string (ba (s.data.toList.take k))) W := by
  rw [run_slice_string_to_if _ _ _ _ _ Tryd.underlying9, if_pos (by omega), ← ext_take]
  simp
theorem run_from7 (s : ByteArray) (k : Nat) (hk : k + 1 ≤ s.size) (W : World) : (Instr.slice 9 (.string s) (some (.int .i64 ((k : Int) + 1))) none none).run Tryd.prog W = .ok (.string (ba (s.data.toList.drop (k + 1)))) W :=
  run_from s ((k : Int) + 1) (k + 1) (by omega) hk W
theorem turned_same (s : ByteArray) (k : Nat) (hk : k < s.size) (x : UInt8) :
    (s = ba (s.data.toList.take k) ++ ba [s.data.toList.getD k 0 ^^^ x] ++ ba (s.data.toList.drop (k + 1))) ↔ x = 0 := by
  have hl : k < s.data.toList.length := by simpa using hk
  have e : s = ba (s.data.toList.take k) ++ ba [s.data.toList.getD k 0] ++ ba (s.data.toList.drop (k + 1)) := by
    rw [ba_append, ba_append, List.getD_eq_getElem?_getD, List.getElem?_eq_getElem hl, Option.getD_some, ← take_more _ k hl, List.take_append_drop, ba_back]
  generalize s.data.toList.getD k 0 = c at e ⊢
  constructor
  · intro h
    have h2 := e.symm.trans h
    rw [ba_append, ba_append, ba_append, ba_append] at h2
    have h3 := ba_inj h2
    rw [List.append_assoc, List.append_assoc, List.append_cancel_left_eq] at h3
    have h4 : c = c ^^^ x := by simpa using h3
    have h5 := (xor_zero c (c ^^^ x)).2 h4
    rw [← UInt8.xor_assoc, UInt8.xor_self, UInt8.zero_xor] at h5
    exact h5
  · rintro rfl
    rw [UInt8.xor_zero]
    exact e
set_option maxRecDepth 100000 in
set_option maxHeartbeats 4000000 in
theorem walk (s0 o0 : ByteArray) (q0 q1 : Int) (hs0 : s0.size ≤ maxLen) (ho0 : o0.size ≤ maxLen) (w : World) (ht : Tab w) :
    Calls Tryd.prog 11 #[.string s0, .agg #[.int .i64 q0, .int .i64 q1], .string o0] w fun e w' => e = .returned (.bool true) ∧ Below w.heap.size w w' := by
  have hcs := cut_size s0 60
  have hco := cut_size o0 60
  have HSs := Lib.hid (fun W => short_any s0 60 hs0 W)
  have HSo := Lib.hid (fun W => short_any o0 60 ho0 W)
  generalize cut s0 60 = s at hcs HSs
  generalize cut o0 60 = o at hco HSo
  obtain ⟨v, hv⟩ : ∃ v, decide (s = o) = v := ⟨_, rfl⟩
  have HE1 := Lib.hid (fun W => equal_any s s (by omega) W)
  have HE2 := Lib.hid (fun W => equal_any s (s ++ ⟨#[120]⟩) (by omega) W)
  have HE3 := Lib.hid (fun W => equal_any s o (by omega) W)
  rw [decide_eq_true rfl] at HE1
  rw [decide_eq_false (fun h => by have := congrArg ByteArray.size h; rw [ByteArray.size_append] at this; have h1 : (⟨#[120]⟩ : ByteArray).size = 1 := rfl; omega)] at HE2
  rw [hv] at HE3
  have hso : (s.toList == o.toList) = v := by rw [str_beq]; exact hv
  have hvv : (v != v) = false := by cases v <;> rfl
  have HT := Lib.hid ht
  clear ht hs0 ho0 hv
  go_enter Tryd.func11, Tryd.ntmps11
  go_wp2_with fail
  refine (awake7 _ (by exact HT.out.next ((Below.refl _ w).alloc (Nat.le_refl _) _))).mono ?_
  rintro e w1 ⟨rfl, hb1⟩
  have HB1 := Lib.hid (((Below.refl w.heap.size w).alloc (Nat.le_refl _) (.cells #[.int .i64 q0, .int .i64 q1] 48)).trans (hb1.mono (by simp)))
  have HQ1 := Lib.hid ((Blk.new w 48 #[.int .i64 q0, .int .i64 q1]).of (hb1.block _ (by simp)))
  clear hb1 HT
  go_wp2_with fail
  refine (HSs.out _).mono ?_
  rintro e w2 ⟨rfl, rfl⟩
  go_wp2_with fail
  refine (HSo.out _).mono ?_
  rintro e w2 ⟨rfl, rfl⟩
  go_wp2_with fail
  refine (HE1.out _).mono ?_
  rintro e w2 ⟨rfl, hb⟩
  have HB2 := Lib.hid (HB1.out.trans (hb.mono HB1.out.size))
  have HQ2 := Lib.hid (HQ1.out.of (hb.block _ HQ1.out.lt))
  clear hb
  go_wp2_with fail
  refine (HE2.out _).mono ?_
  rintro e w3 ⟨rfl, hb⟩
  have HB3 := Lib.hid (HB2.out.trans (hb.mono HB2.out.size))
  have HQ3 := Lib.hid (HQ2.out.of (hb.block _ HQ2.out.lt))
  clear hb
  go_wp2_with fail
  refine (HE3.out _).mono ?_
  rintro e w4 ⟨rfl, hb⟩
  have HB4 := Lib.hid (HB3.out.trans (hb.mono HB3.out.size))
  have HQ4 := Lib.hid (HQ3.out.of (hb.block _ HQ3.out.lt))
  clear hb
  by_cases h0 : s.size = 0
  · have h0i : ((s.size : Int) == 0) = true := beq_iff_eq.2 (by omega)
    have h0j : (s.size : Int) = 0 := by omega
    go_wp2_with fail
    go_ret
    exact ⟨rfl, HB4.out⟩
  · have h0i : ((s.size : Int) == 0) = false := beq_eq_false_iff_ne.2 (by omega)
    have h0j : ¬ (s.size : Int) = 0 := by omega
    obtain ⟨K, hK, ek⟩ := mod_nat q0 s.size (by omega) (by omega)
    have c0 := HQ4.out.cell 0
    have c1 := HQ4.out.cell 1
    simp only [List.getElem?_toArray, List.getElem?_cons_zero, List.getElem?_cons_succ] at c0 c1
    obtain ⟨x, hx⟩ : ∃ x : UInt8, IntKind.u8.wrap q1 = (x.toNat : Int) := ⟨UInt8.ofNat (q1 % 256).toNat, by rw [IntKind.wrap_u8, UInt8.toNat_ofNat']; omega⟩
    have HTS := Lib.hid (turned_same s K hK x)
    have hP1 := run_upto s K (by omega)
    have hP3 := run_from7 s K hK
    have hcb := byte_in s K hK
    have z1 : (ba (s.data.toList.take K)).size ≤ 60 := by rw [ba_size, List.length_take]; omega
    have hsl : s.data.toList.length = s.size := by simp
    have z3 : (ba (s.data.toList.drop (K + 1))).size ≤ 60 := by rw [ba_size, List.length_drop]; omega
    clear hsl
    generalize ba (s.data.toList.take K) = P1 at HTS hP1 z1
    generalize ba (s.data.toList.drop (K + 1)) = P3 at HTS hP3 z3
    generalize s.data.toList.getD K 0 = c at HTS hcb
    have hxr := xor_byte c x
    generalize c ^^^ x = y at HTS hxr
    have hcv : ∀ (W : World) (g : Nat), W.cell? ⟨g, 0, none⟩ = some (.int .u8 (y.toNat : Int)) → (convert 27 9 (.slice (some ⟨g, 0, none⟩) 1 1)).run Tryd.prog W = .ok (.string (ba [y])) W := fun W g h => run_one W g _ y rfl h
    have z2 : (ba [y]).size = 1 := rfl
    generalize ba [y] = P2 at HTS hcv z2
    have Ki : (K : Int) < (s.size : Int) := by omega
    have hKw := IntWalk.i64_in ((K : Int) + 1) (by omega)
    go_wp2_with fail
    go_region
    have hb5 := ((Below.refl w4.heap.size w4).alloc (Nat.le_refl _) (.cells #[.int .u8 (y.toNat : Int)] 5)).drew
    have HB5 := Lib.hid (HB4.out.trans (hb5.mono HB4.out.size))
    have HQ5 := Lib.hid (HQ4.out.of (hb5.block _ HQ4.out.lt))
    have HE4 := Lib.hid (fun W => equal_any s (P1 ++ P2 ++ P3) (by omega) W)
    rw [show decide (s = P1 ++ P2 ++ P3) = decide (x = 0) from decide_eq_decide.2 HTS.out] at HE4
    clear hb5 c0 c1 hP1 hP3 hcb hxr hcv hKw
    generalize (w4.alloc (.cells #[.int .u8 (y.toNat : Int)] 5)).drew = w5 at HB5 HQ5 ⊢
    have c1 := HQ5.out.cell 1
    simp only [List.getElem?_toArray, List.getElem?_cons_zero, List.getElem?_cons_succ] at c1
    go_wp2_with fail
    by_cases hx0 : x = 0
    · rw [decide_eq_true hx0] at HE4
      have hz : ((x.toNat : Int) == 0) = true := by subst hx0; rfl
      have hz2 : ((x.toNat : Int) = 0) := by subst hx0; rfl
      clear hx0
      go_region_held3 (fun W => W.cell? ⟨w.heap.size, 1, none⟩ = some (.int .i64 q1))
        (first | go_keep | (exact KP))
        (first
          | (go_at_call 28
             refine (HE4.out _).mono ?_
             rintro e w8 ⟨rfl, hb8⟩
             have hb58 : Below w5.heap.size w5 w8 := ((Below.refl _ w5).drew).trans hb8
             have KP : w8.cell? ⟨w.heap.size, 1, none⟩ = some (.int .i64 q1) := (hb58.cell (p := ⟨w.heap.size, 1, none⟩) HQ5.out.lt).trans c1))
      have HB8 := Lib.hid (HB5.out.trans (hb58.mono HB5.out.size))
      clear hb8 hb58 KP
      go_wp2_with fail
      go_ret
      exact ⟨rfl, HB8.out⟩
    · rw [decide_eq_false hx0] at HE4
      have hz : ((x.toNat : Int) == 0) = false := beq_eq_false_iff_ne.2 (fun h => hx0 (UInt8.toNat_inj.1 (by simpa using h)))
      have hz2 : ¬ ((x.toNat : Int) = 0) := fun h => hx0 (UInt8.toNat_inj.1 (by simpa using h))
      clear hx0
      go_region_held3 (fun W => W.cell? ⟨w.heap.size, 1, none⟩ = some (.int .i64 q1))
        (first | go_keep | (exact KP))
        (first
          | (go_at_call 28
             refine (HE4.out _).mono ?_
             rintro e w8 ⟨rfl, hb8⟩
             have hb58 : Below w5.heap.size w5 w8 := ((Below.refl _ w5).drew).trans hb8
             have KP : w8.cell? ⟨w.heap.size, 1, none⟩ = some (.int .i64 q1) := (hb58.cell (p := ⟨w.heap.size, 1, none⟩) HQ5.out.lt).trans c1))
      have HB8 := Lib.hid (HB5.out.trans (hb58.mono HB5.out.size))
      clear hb8 hb58 KP
      go_wp2_with fail
      go_ret
      exact ⟨rfl, HB8.out⟩

/-! ### The row -/
set_option maxRecDepth 100000 in
theorem contract (H : Type) (enc : TypeId × Value → H) (W : World) (base : Nat) (args : Array Value) (ds gs : List (DataW H)) (before : List MemPlace)
    (hval : ∀ (j : Nat) t v, Tryd.f11.params[j]? = some t → args[j]? = some v → Value.okWide Tryd.prog W .any base t v)
    (hW : DataW.Whole enc Tryd.prog Tryd.f11.params.toList Rows.macEqualSpec.vars false W args.toList ds gs before) (hL : laidMetH Tryd.prog Rows.macEqualRow.laid W) :
    Calls Tryd.prog 11 args W fun e W' => ∃ v, e = .returned v ∧ Rows.macEqualSpec.post enc Tryd.prog Tryd.f11 false true false false W args v W' := by
  have hW' := hW
  obtain ⟨p, q, hA0, hV, rfl, hfz, hnd⟩ := hW
  have hA : DataW.TrodAll enc Tryd.prog W 0 (fun _ => true) true Tryd.f11.params.toList args.toList ds p := hA0
  rw [Tryd.params11] at hA hval
  obtain ⟨v0, vs0, d0, ds0, p0, q0, hargs, rfl, rfl, h0, r0⟩ := trodAll_cons hA
  obtain ⟨v1, vs1, d1, ds1, p1, q1, rfl, rfl, rfl, h1, r1⟩ := trodAll_cons r0
  obtain ⟨v2, vs2, d2, ds2, p2, q2, rfl, rfl, rfl, h2, r2⟩ := trodAll_cons r1
  obtain ⟨rfl, rfl, rfl⟩ := trodAll_nil r2
  obtain rfl : args = #[v0, v1, v2] := by cases args; simp_all
  obtain ⟨rfl, rfl⟩ := trodVars_none hV
  refine law_contract (tb := 4) laidOut (by kernel_rfl) rfl (by kernel_rfl) Tryd.underlying4 rfl hW' ?_
  clear hA0 hW' hA
  obtain ⟨a0, rfl, _, _, w0⟩ := open_string Tryd.underlying9 (hval 0 9 v0 rfl rfl) h0
  obtain ⟨zs, rfl, hz, _⟩ := open_array Tryd.underlying48 Tryd.underlying3 cellsInt (by kernel_rfl) (hval 1 48 v1 rfl rfl) h1
  obtain ⟨a2, rfl, _, _, w2⟩ := open_string Tryd.underlying9 (hval 2 9 v2 rfl rfl) h2
  match zs, hz with
  | [z0, z1], _ =>
    exact walk a0 a2 z0 z1 w0 w2 W (tab_of_laid hL)

theorem laid_met (os : Os) : laidMet Tryd.prog Rows.macEqualRow.laid ((laidWorld os).forCall (fun _ _ => 0) ⟨#[], #[.string ⟨#[]⟩, .agg #[.int .i64 0, .int .i64 0], .string ⟨#[]⟩], []⟩).memory :=
  laidMet_of_run' 8 (by kernel_rfl) (by kernel_rfl)
theorem reads (os : Os) {H : Type} (enc : TypeId × Value → H) : ∃ places, DataW.whole enc Tryd.prog ((laidWorld os).forCall (fun _ _ => 0) ⟨#[], #[.string ⟨#[]⟩, .agg #[.int .i64 0, .int .i64 0], .string ⟨#[]⟩], []⟩).memory Tryd.f11.params.toList Rows.macEqualSpec.vars false (#[.string ⟨#[]⟩, .agg #[.int .i64 0, .int .i64 0], .string ⟨#[]⟩] : Array Value).toList 8 = some ([.lit (.string []), .agg [.lit (.int .i64 0), .lit (.int .i64 0)], .lit (.string [])], [], places) :=
  ⟨[], by kernel_rfl⟩

set_option maxRecDepth 100000 in
theorem lifted (os : Os) (started : os.Started) (H : Type) (enc : TypeId × Value → H) (F : Stop.Interp) :
    ReturnsInHanded {} Tryd.checked os 11 .any ((OpenSpec.ofChange Rows.macEqualSpec).preRow enc Tryd.prog Tryd.f11 Rows.macEqualRow.domain false Rows.macEqualRow.laid) (((OpenSpec.ofChange Rows.macEqualSpec).at F).post enc Tryd.prog Tryd.f11 false true false false) := by
  obtain ⟨places, hx⟩ := reads os enc
  refine returnsInHanded_of_row (C := Tryd.checked) (s := OpenSpec.ofChange Rows.macEqualSpec) own started (by kernel_rfl) Tryd.func11
    (witness_row_at (enc := enc) (C := Tryd.checked) false (laidWorld os) #[.string ⟨#[]⟩, .agg #[.int .i64 0, .int .i64 0], .string ⟨#[]⟩] rfl (by kernel_rfl) (by kernel_rfl) (by kernel_rfl)
      (OpenSpec.preRow_of_cond 8 hx (by kernel_rfl) (fun k hk => by cases hk) (by kernel_rfl) (laid_met os))) ?_
  intro W base args ds gs before hval hW _ _ _ hL _ _
  exact contract H enc W base args ds gs before hval hW hL

theorem said : Rows.MacEqualSaid :=
  OpenClaim.holds_of_cond 11 Tryd.f11 rfl rfl rfl rfl rfl rfl rfl ⟨rfl, rfl, rfl, rfl, rfl⟩ rfl rfl rfl rfl rfl (by kernel_rfl) Tryd.func11 (by kernel_rfl)
    (of_decide_eq_true (by kernel_rfl)) (by unfold Func.isWrapper; first | (rw [if_pos (by decide +kernel)]; kernel_rfl) | (rw [if_neg (by decide +kernel)]; exact ⟨rfl, rfl⟩))
    (fun os started H enc _ F => by rw [OpenClaim.pre_eq_preRow]; exact lifted os started H enc F)

theorem plain (f : FuncId) (fn : Func) (hf : Tryd.pinned.checked.prog.funcNamed "homecoming/homecominglaw07.MacEqual" = some f) (hfn : Tryd.pinned.checked.prog.funcs[f]? = some fn) :
    false = Tryd.pinned.checked.prog.looks [] ∧ ∀ (j : Nat) t, fn.params[j]? = some t → Tryd.pinned.checked.prog.wantsStandIn t = false := by
  obtain rfl : f = 11 := Option.some.inj ((show Tryd.prog.funcNamed "homecoming/homecominglaw07.MacEqual" = some 11 by kernel_rfl).symm.trans hf) |>.symm
  obtain rfl : fn = Tryd.f11 := (Option.some.inj (Tryd.func11.symm.trans hfn)).symm
  refine ⟨by kernel_rfl, fun j t ht => ?_⟩
  have hall : (Tryd.f11.params.toList.all fun u => !Tryd.prog.wantsStandIn u) = true := by kernel_rfl
  have hm : t ∈ Tryd.f11.params.toList := by simpa using Array.mem_of_getElem? ht
  exact (show Tryd.prog.wantsStandIn t = false by simpa using List.all_eq_true.1 hall t hm)

/-- THE STATEMENT. -/
theorem card : Rows.MacEqualCardSaid :=
  Claim7.holds_tied_plain_at .later [] _ _ _ _ said (fun _ h => by cases h) (by kernel_rfl) (fun _ h => by cases h) macEqual_row_tie rfl ⟨rfl, rfl⟩ (by kernel_rfl) rfl plain (by kernel_rfl)
#print axioms card
end Go.Proofs.YthaejfbbefpojaaDoor.macEqual
