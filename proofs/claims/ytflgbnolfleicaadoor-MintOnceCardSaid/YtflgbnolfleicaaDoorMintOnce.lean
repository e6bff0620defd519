/-
  Proves the statement of MintOnce: for every purpose and every two texts the law returns true (two draws have the same plain text, of a token, just if they are the same; of a code, if they are), and its arguments read as they did. Conditions: the package-level tables uint64pow10, deBruijn32tab and deBruijn64tab of the library hold what their texts lay.
-/
import Derived.Test.YtflgbnolfleicaaDoorMinW
import Derived.Test.YtflgbnolfleicaaDoorTabs
import Derived.Test.YtflgbnolfleicaaDoorCards
import Derived.Test.YtflgbnolfleicaaDoorTie
namespace Go.Proofs.YtflgbnolfleicaaDoor.mintOnce
open Go.ChangeShapes Go.WideShapes Go.ChangeAt Go.RowKit
open Go.ChangeMaps (open_string shut_string)

/-- The library's table of powers of ten, out of the row's list. -/
theorem pow_of {W : World} (hL : laidMet Tryd.prog Rows.mintOnceRow.laid W) : PowIs W := tab_Uint64pow10 (laidMet.tail (laidMet.tail hL))
theorem place6 (q : Int) : ∃ (t p : Int), q.tmod 6 = t ∧ -6 ≤ t ∧ t ≤ 6 ∧ 1 ≤ p ∧ p ≤ 6 ∧ 1 + t % 6 = p := by
  have h1 := Int.tmod_lt_of_pos q (show (0 : Int) < 6 by omega)
  have h2 : -(6 : Int) < q.tmod 6 := by
    have := Int.tmod_lt_of_pos (-q) (show (0 : Int) < 6 by omega)
    rw [Int.neg_tmod] at this
    omega
  generalize q.tmod 6 = t at h1 h2
  exact ⟨t, 1 + t % 6, rfl, by omega, by omega, by omega, by omega, rfl⟩
theorem plainB_in (p : Int) (A : List UInt8) (h : 1 ≤ p ∧ p ≤ 6) (hA : A.length = 10) : plainB p A = true := by
  unfold plainB
  rw [decide_eq_true h, decide_eq_true hA]
  rfl
theorem plainL_tok (p : Int) (A : List UInt8) (h : 1 ≤ p ∧ p ≤ 6) (h4 : p ≠ 4) (hA : A.length = 10) : plainL p A = Tk.enc A := by
  unfold plainL
  rw [if_pos ⟨h.1, h.2, hA⟩, if_neg h4]
theorem plainL_code (A : List UInt8) (hA : A.length = 10) : (plainL 4 A).length = 6 := by
  unfold plainL
  rw [if_pos ⟨by decide, by decide, hA⟩, if_pos rfl, Tk.code_length]
set_option maxRecDepth 100000 in
set_option maxHeartbeats 4000000 in
theorem walk (p0 : Int) (a b : ByteArray) (w : World) (hp : PowIs w) :
    Calls Tryd.prog 3 #[.int .i64 p0, .string a, .string b] w fun e w' => e = .returned (.bool true) ∧ Below w.heap.size w w' := by
  obtain ⟨t, p, e1, t1, t2, p1, p2, e2⟩ := place6 p0
  have HA := Lib.hid (fun W => draw_any a W)
  have HB := Lib.hid (fun W => draw_any b W)
  have hA10 := Mi.draw_length a.data.toList
  have hB10 := Mi.draw_length b.data.toList
  generalize Mi.draw a.data.toList = A at *
  generalize Mi.draw b.data.toList = B at *
  have HPA := Lib.hid (fun W h => plain_any p A (by omega) W h)
  have HPB := Lib.hid (fun W h => plain_any p B (by omega) W h)
  rw [plainB_in p A ⟨p1, p2⟩ hA10] at HPA
  rw [plainB_in p B ⟨p1, p2⟩ hB10] at HPB
  by_cases h4 : p = 4
  · subst h4
    have hx6 : (ba (plainL 4 A)).size = 6 := by rw [ba_size]; exact plainL_code A hA10
    by_cases hAB : A = B
    · subst hAB
      generalize ba (plainL 4 A) = X at *
      generalize ba A = DA at *
      have hd : (DA.toList == DA.toList) = true := by simp
      have hd2 : (DA.toList != DA.toList) = false := by simp
      have hxy : (X.toList == X.toList) = true := by simp
      have hxi : (X.size : Int) = 6 := by omega
      have HP := Lib.hid hp
      clear hp
      go_enter Tryd.func3, Tryd.ntmps3
      go_wp2_with fail
      refine (awake_any w HP.out).mono ?_
      rintro e w1 ⟨rfl, hb⟩
      have HW1 := Lib.hid hb
      have HP1 := Lib.hid (HP.out.next hb)
      clear hb HP
      go_wp2_with fail
      refine (HA.out _).mono ?_
      rintro e w2 ⟨rfl, hb⟩
      have HW2 := Lib.hid (HW1.out.trans (hb.mono HW1.out.size))
      have HP2 := Lib.hid (HP1.out.next hb)
      clear hb HW1 HP1
      go_wp2_with fail
      refine (HPA.out _ HP2.out).mono ?_
      rintro e w3 ⟨rfl, hb⟩
      have HW3 := Lib.hid (HW2.out.trans (hb.mono HW2.out.size))
      have HP3 := Lib.hid (HP2.out.next hb)
      clear hb HW2 HP2
      go_wp2_with fail
      refine (HB.out _).mono ?_
      rintro e w4 ⟨rfl, hb⟩
      have HW4 := Lib.hid (HW3.out.trans (hb.mono HW3.out.size))
      have HP4 := Lib.hid (HP3.out.next hb)
      clear hb HW3 HP3
      go_wp2_with fail
      refine (HPB.out _ HP4.out).mono ?_
      rintro e w5 ⟨rfl, hb⟩
      have HW5 := Lib.hid (HW4.out.trans (hb.mono HW4.out.size))
      have HP5 := Lib.hid (HP4.out.next hb)
      clear hb HW4 HP4
      go_wp2_with fail
      refine (HA.out _).mono ?_
      rintro e w6 ⟨rfl, hb⟩
      have HW6 := Lib.hid (HW5.out.trans (hb.mono HW5.out.size))
      have HP6 := Lib.hid (HP5.out.next hb)
      clear hb HW5 HP5
      go_wp2_with fail
      refine (HB.out _).mono ?_
      rintro e w7 ⟨rfl, hb⟩
      have HW7 := Lib.hid (HW6.out.trans (hb.mono HW6.out.size))
      have HP7 := Lib.hid (HP6.out.next hb)
      clear hb HW6 HP6
      go_wp2_with fail
      go_ret
      exact ⟨rfl, HW7.out⟩
    · have hd : ((ba A).toList == (ba B).toList) = false := str_ne (fun h => hAB (ba_inj h))
      generalize ba (plainL 4 A) = X at *
      generalize ba (plainL 4 B) = Y at *
      generalize ba A = DA at *
      generalize ba B = DB at *
      have hd2 : (DA.toList != DB.toList) = true := by unfold bne; rw [hd]; rfl
      have hxi : (X.size : Int) = 6 := by omega
      have HP := Lib.hid hp
      clear hp
      go_enter Tryd.func3, Tryd.ntmps3
      go_wp2_with fail
      refine (awake_any w HP.out).mono ?_
      rintro e w1 ⟨rfl, hb⟩
      have HW1 := Lib.hid hb
      have HP1 := Lib.hid (HP.out.next hb)
      clear hb HP
      go_wp2_with fail
      refine (HA.out _).mono ?_
      rintro e w2 ⟨rfl, hb⟩
      have HW2 := Lib.hid (HW1.out.trans (hb.mono HW1.out.size))
      have HP2 := Lib.hid (HP1.out.next hb)
      clear hb HW1 HP1
      go_wp2_with fail
      refine (HPA.out _ HP2.out).mono ?_
      rintro e w3 ⟨rfl, hb⟩
      have HW3 := Lib.hid (HW2.out.trans (hb.mono HW2.out.size))
      have HP3 := Lib.hid (HP2.out.next hb)
      clear hb HW2 HP2
      go_wp2_with fail
      refine (HB.out _).mono ?_
      rintro e w4 ⟨rfl, hb⟩
      have HW4 := Lib.hid (HW3.out.trans (hb.mono HW3.out.size))
      have HP4 := Lib.hid (HP3.out.next hb)
      clear hb HW3 HP3
      go_wp2_with fail
      refine (HPB.out _ HP4.out).mono ?_
      rintro e w5 ⟨rfl, hb⟩
      have HW5 := Lib.hid (HW4.out.trans (hb.mono HW4.out.size))
      have HP5 := Lib.hid (HP4.out.next hb)
      clear hb HW4 HP4
      go_wp2_with fail
      refine (HA.out _).mono ?_
      rintro e w6 ⟨rfl, hb⟩
      have HW6 := Lib.hid (HW5.out.trans (hb.mono HW5.out.size))
      have HP6 := Lib.hid (HP5.out.next hb)
      clear hb HW5 HP5
      go_wp2_with fail
      refine (HB.out _).mono ?_
      rintro e w7 ⟨rfl, hb⟩
      have HW7 := Lib.hid (HW6.out.trans (hb.mono HW6.out.size))
      have HP7 := Lib.hid (HP6.out.next hb)
      clear hb HW6 HP6
      go_wp2_with fail
      go_ret
      exact ⟨rfl, HW7.out⟩
  · have hn : p ≠ 4 := h4
    rw [plainL_tok p A ⟨p1, p2⟩ h4 hA10] at HPA
    rw [plainL_tok p B ⟨p1, p2⟩ h4 hB10] at HPB
    have hx6 : (ba (Tk.enc A)).size = 16 := by rw [ba_size, Tk.enc_length]; omega
    by_cases hAB : A = B
    · subst hAB
      generalize ba (Tk.enc A) = X at *
      generalize ba A = DA at *
      have hd : (DA.toList == DA.toList) = true := by simp
      have hxy : (X.toList == X.toList) = true := by simp
      have hxi : (X.size : Int) = 16 := by omega
      have HP := Lib.hid hp
      clear hp
      go_enter Tryd.func3, Tryd.ntmps3
      go_wp2_with fail
      refine (awake_any w HP.out).mono ?_
      rintro e w1 ⟨rfl, hb⟩
      have HW1 := Lib.hid hb
      have HP1 := Lib.hid (HP.out.next hb)
      clear hb HP
      go_wp2_with fail
      refine (HA.out _).mono ?_
      rintro e w2 ⟨rfl, hb⟩
      have HW2 := Lib.hid (HW1.out.trans (hb.mono HW1.out.size))
      have HP2 := Lib.hid (HP1.out.next hb)
      clear hb HW1 HP1
      go_wp2_with fail
      refine (HPA.out _ HP2.out).mono ?_
      rintro e w3 ⟨rfl, hb⟩
      have HW3 := Lib.hid (HW2.out.trans (hb.mono HW2.out.size))
      have HP3 := Lib.hid (HP2.out.next hb)
      clear hb HW2 HP2
      go_wp2_with fail
      refine (HB.out _).mono ?_
      rintro e w4 ⟨rfl, hb⟩
      have HW4 := Lib.hid (HW3.out.trans (hb.mono HW3.out.size))
      have HP4 := Lib.hid (HP3.out.next hb)
      clear hb HW3 HP3
      go_wp2_with fail
      refine (HPB.out _ HP4.out).mono ?_
      rintro e w5 ⟨rfl, hb⟩
      have HW5 := Lib.hid (HW4.out.trans (hb.mono HW4.out.size))
      have HP5 := Lib.hid (HP4.out.next hb)
      clear hb HW4 HP4
      go_wp2_with fail
      refine (HA.out _).mono ?_
      rintro e w6 ⟨rfl, hb⟩
      have HW6 := Lib.hid (HW5.out.trans (hb.mono HW5.out.size))
      have HP6 := Lib.hid (HP5.out.next hb)
      clear hb HW5 HP5
      go_wp2_with fail
      refine (HB.out _).mono ?_
      rintro e w7 ⟨rfl, hb⟩
      have HW7 := Lib.hid (HW6.out.trans (hb.mono HW6.out.size))
      have HP7 := Lib.hid (HP6.out.next hb)
      clear hb HW6 HP6
      go_wp2_with fail
      go_ret
      exact ⟨rfl, HW7.out⟩
    · have hd : ((ba A).toList == (ba B).toList) = false := str_ne (fun h => hAB (ba_inj h))
      have hxy : ((ba (Tk.enc A)).toList == (ba (Tk.enc B)).toList) = false := str_ne (fun h => hAB (Tk.enc_inj (ba_inj h)))
      generalize ba (Tk.enc A) = X at *
      generalize ba (Tk.enc B) = Y at *
      generalize ba A = DA at *
      generalize ba B = DB at *
      have hxi : (X.size : Int) = 16 := by omega
      have HP := Lib.hid hp
      clear hp
      go_enter Tryd.func3, Tryd.ntmps3
      go_wp2_with fail
      refine (awake_any w HP.out).mono ?_
      rintro e w1 ⟨rfl, hb⟩
      have HW1 := Lib.hid hb
      have HP1 := Lib.hid (HP.out.next hb)
      clear hb HP
      go_wp2_with fail
      refine (HA.out _).mono ?_
      rintro e w2 ⟨rfl, hb⟩
      have HW2 := Lib.hid (HW1.out.trans (hb.mono HW1.out.size))
      have HP2 := Lib.hid (HP1.out.next hb)
      clear hb HW1 HP1
      go_wp2_with fail
      refine (HPA.out _ HP2.out).mono ?_
      rintro e w3 ⟨rfl, hb⟩
      have HW3 := Lib.hid (HW2.out.trans (hb.mono HW2.out.size))
      have HP3 := Lib.hid (HP2.out.next hb)
      clear hb HW2 HP2
      go_wp2_with fail
      refine (HB.out _).mono ?_
      rintro e w4 ⟨rfl, hb⟩
      have HW4 := Lib.hid (HW3.out.trans (hb.mono HW3.out.size))
      have HP4 := Lib.hid (HP3.out.next hb)
      clear hb HW3 HP3
      go_wp2_with fail
      refine (HPB.out _ HP4.out).mono ?_
      rintro e w5 ⟨rfl, hb⟩
      have HW5 := Lib.hid (HW4.out.trans (hb.mono HW4.out.size))
      have HP5 := Lib.hid (HP4.out.next hb)
      clear hb HW4 HP4
      go_wp2_with fail
      refine (HA.out _).mono ?_
      rintro e w6 ⟨rfl, hb⟩
      have HW6 := Lib.hid (HW5.out.trans (hb.mono HW5.out.size))
      have HP6 := Lib.hid (HP5.out.next hb)
      clear hb HW5 HP5
      go_wp2_with fail
      refine (HB.out _).mono ?_
      rintro e w7 ⟨rfl, hb⟩
      have HW7 := Lib.hid (HW6.out.trans (hb.mono HW6.out.size))
      have HP7 := Lib.hid (HP6.out.next hb)
      clear hb HW6 HP6
      go_wp2_with fail
      go_ret
      exact ⟨rfl, HW7.out⟩

/-! ### The row -/
set_option maxRecDepth 100000 in
theorem contract (H : Type) (enc : TypeId × Value → H) (W : World) (base : Nat) (args : Array Value) (ds gs : List (DataW H)) (before : List MemPlace)
    (hval : ∀ (j : Nat) t v, Tryd.f3.params[j]? = some t → args[j]? = some v → Value.okWide Tryd.prog W .any base t v)
    (hW : DataW.Whole enc Tryd.prog Tryd.f3.params.toList Rows.mintOnceSpec.vars false W args.toList ds gs before) (hL : laidMet Tryd.prog Rows.mintOnceRow.laid W) (_hS : W.ShapedOpen Tryd.prog) :
    Calls Tryd.prog 3 args W fun e W' => ∃ v, e = .returned v ∧ Rows.mintOnceSpec.post enc Tryd.prog Tryd.f3 false true false false W args v W' := by
  have hW' := hW
  obtain ⟨p, q, hA0, hV, rfl, hfz, hnd⟩ := hW
  have hA : DataW.TrodAll enc Tryd.prog W 0 (fun _ => true) true Tryd.f3.params.toList args.toList ds p := hA0
  rw [Tryd.params3] at hA hval
  obtain ⟨v0, vs0, d0, ds0, p0, q0, hargs, rfl, rfl, h0, r0⟩ := trodAll_cons hA
  obtain ⟨v1, vs1, d1, ds1, p1, q1, rfl, rfl, rfl, h1, r1⟩ := trodAll_cons r0
  obtain ⟨v2, vs2, d2, ds2, p2, q2, rfl, rfl, rfl, h2, r2⟩ := trodAll_cons r1
  obtain ⟨rfl, rfl, rfl⟩ := trodAll_nil r2
  obtain rfl : args = #[v0, v1, v2] := by cases args; simp_all
  obtain ⟨rfl, rfl⟩ := trodVars_none hV
  refine law_contract (tb := 4) laidOut (by kernel_rfl) rfl (by kernel_rfl) Tryd.underlying4 rfl hW' ?_
  clear hA0 hW' hA
  obtain ⟨a0, rfl, rfl, rfl, w0⟩ := open_int Tryd.underlying3 (hval 0 3 v0 rfl rfl) h0
  obtain ⟨a1, rfl, _, _, w1⟩ := open_string Tryd.underlying9 (hval 1 9 v1 rfl rfl) h1
  obtain ⟨a2, rfl, _, _, w2⟩ := open_string Tryd.underlying9 (hval 2 9 v2 rfl rfl) h2
  exact walk a0 a1 a2 W (pow_of hL)

theorem laid_met (os : Os) : laidMet Tryd.prog Rows.mintOnceRow.laid ((laidWorld os).forCall (fun _ _ => 0) ⟨#[], #[.int .i64 0, .string ⟨#[]⟩, .string ⟨#[]⟩], []⟩).memory :=
  laidMet_of_run' 8 (by kernel_rfl) (by kernel_rfl)
theorem reads (os : Os) {H : Type} (enc : TypeId × Value → H) : ∃ places, DataW.whole enc Tryd.prog ((laidWorld os).forCall (fun _ _ => 0) ⟨#[], #[.int .i64 0, .string ⟨#[]⟩, .string ⟨#[]⟩], []⟩).memory Tryd.f3.params.toList Rows.mintOnceSpec.vars false (#[.int .i64 0, .string ⟨#[]⟩, .string ⟨#[]⟩] : Array Value).toList 8 = some ([.lit (.int .i64 0), .lit (.string []), .lit (.string [])], [], places) :=
  ⟨[], by kernel_rfl⟩

set_option maxRecDepth 100000 in
theorem lifted (os : Os) (started : os.Started) (H : Type) (enc : TypeId × Value → H) (F : Stop.Interp) :
    ReturnsInHanded {} Tryd.checked os 3 .any ((OpenSpec.ofChange Rows.mintOnceSpec).preRow enc Tryd.prog Tryd.f3 Rows.mintOnceRow.domain false Rows.mintOnceRow.laid) (((OpenSpec.ofChange Rows.mintOnceSpec).at F).post enc Tryd.prog Tryd.f3 false true false false) := by
  obtain ⟨places, hx⟩ := reads os enc
  refine returnsInHanded_of_row (C := Tryd.checked) (s := OpenSpec.ofChange Rows.mintOnceSpec) own started (by kernel_rfl) Tryd.func3
    (witness_row_at (enc := enc) (C := Tryd.checked) false (laidWorld os) #[.int .i64 0, .string ⟨#[]⟩, .string ⟨#[]⟩] rfl (by kernel_rfl) (by kernel_rfl) (by kernel_rfl)
      (OpenSpec.preRow_of_cond 8 hx (by kernel_rfl) (fun k hk => by cases hk) (by kernel_rfl) (laid_met os))) ?_
  intro W base args ds gs before hval hW _ _ _ hL hS _
  exact contract H enc W base args ds gs before hval hW hL hS

theorem said : Rows.MintOnceSaid :=
  OpenClaim.holds_of_cond 3 Tryd.f3 rfl rfl rfl rfl rfl rfl rfl ⟨rfl, rfl, rfl, rfl, rfl⟩ rfl rfl rfl rfl rfl (by kernel_rfl) Tryd.func3 (by kernel_rfl)
    (of_decide_eq_true (by kernel_rfl)) (by unfold Func.isWrapper; first | (rw [if_pos (by decide +kernel)]; kernel_rfl) | (rw [if_neg (by decide +kernel)]; exact ⟨rfl, rfl⟩))
    (fun os started H enc _ F => by rw [OpenClaim.pre_eq_preRow]; exact lifted os started H enc F)

theorem plain (f : FuncId) (fn : Func) (hf : Tryd.pinned.checked.prog.funcNamed "homecoming/homecominglaw10.MintOnce" = some f) (hfn : Tryd.pinned.checked.prog.funcs[f]? = some fn) :
    false = Tryd.pinned.checked.prog.looks [] ∧ ∀ (j : Nat) t, fn.params[j]? = some t → Tryd.pinned.checked.prog.wantsStandIn t = false := by
  obtain rfl : f = 3 := Option.some.inj ((show Tryd.prog.funcNamed "homecoming/homecominglaw10.MintOnce" = some 3 by kernel_rfl).symm.trans hf) |>.symm
  obtain rfl : fn = Tryd.f3 := (Option.some.inj (Tryd.func3.symm.trans hfn)).symm
  refine ⟨by kernel_rfl, fun j t ht => ?_⟩
  have hall : (Tryd.f3.params.toList.all fun u => !Tryd.prog.wantsStandIn u) = true := by kernel_rfl
  have hm : t ∈ Tryd.f3.params.toList := by simpa using Array.mem_of_getElem? ht
  exact (show Tryd.prog.wantsStandIn t = false by simpa using List.all_eq_true.1 hall t hm)

/-- THE STATEMENT. -/
theorem card : Rows.MintOnceCardSaid :=
  Claim7.holds_tied_plain_at .later [] _ _ _ _ said (fun _ h => by cases h) (by kernel_rfl) (fun _ h => by cases h) mintOnce_row_tie rfl ⟨rfl, rfl⟩ (by kernel_rfl) rfl plain (by kernel_rfl)
#print axioms card
end Go.Proofs.YtflgbnolfleicaaDoor.mintOnce
