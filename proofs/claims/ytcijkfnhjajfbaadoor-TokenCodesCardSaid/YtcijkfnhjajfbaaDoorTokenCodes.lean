/-
  Proves the statement of TokenCodes: for every two numbers the law returns true (a code has six digits, and tells the draw's rest), and its arguments read as they did. Condition: the package-level tables deBruijn32tab, deBruijn64tab and uint64pow10 of the library hold what their texts lay.
-/
import Derived.Test.YtcijkfnhjajfbaaDoorTkS
import Derived.Test.YtcijkfnhjajfbaaDoorCards
import Derived.Test.YtcijkfnhjajfbaaDoorTie
namespace Go.Proofs.YtcijkfnhjajfbaaDoor.tokenCodes
open Go.ChangeShapes Go.WideShapes Go.ChangeAt Go.RowKit
open Go.ChangeMaps (open_string shut_string)

theorem tok_code (C : List UInt8) (h : C.length = 6) : isTok C = false := by
  unfold isTok decB decS
  cases hd : Tk.dec C with
  | none => rfl
  | some x =>
    have := congrArg List.length (Tk.dec_some.1 hd)
    rw [Tk.enc_length, h] at this
    show (true && decide ((ba x).size = 10)) = false
    rw [ba_size, Bool.true_and]
    exact decide_eq_false (by omega)
theorem told_take (C : List UInt8) (k : Nat) (h : k < C.length) : Tk.told (C.take (k + 1)) = 10 * Tk.told (C.take k) + (C[k].toNat - 48) := by
  rw [List.take_succ_eq_append_getElem h, Tk.told_snoc]
theorem code_digit (r k : Nat) (h : k < (Tk.code r).length) : 48 ≤ (Tk.code r)[k].toNat ∧ (Tk.code r)[k].toNat ≤ 57 := by
  have h2 := Tk.isCode_code r
  unfold Tk.isCode at h2
  simp only [Bool.and_eq_true] at h2
  exact (num10_iff _).1 (List.all_eq_true.1 h2.1 _ (List.getElem_mem h))
theorem ba_get (G : List UInt8) (i : Nat) (h : i < (ba G).size) (h2 : i < G.length) : (ba G)[i]'h = G[i]'h2 := by
  simp [ba]
  rfl
theorem pow10_le (k : Nat) (h : k < 6) : 10 ^ k ≤ 100000 := Nat.pow_le_pow_right (n := 10) (by decide) (show k ≤ 5 by omega)
set_option maxRecDepth 100000 in
set_option maxHeartbeats 4000000 in
theorem walk (a b : Nat) (ha : a ≤ 18446744073709551615) (hb : b ≤ 18446744073709551615) (w : World) (htab : Lib.TabIs Tryd.prog w "internal/strconv.uint64pow10" .u64 Lib.pow10Tab) :
    Calls Tryd.prog 4 #[.int .u64 (a : Int), .int .u64 (b : Int)] w fun e w' => e = .returned (.bool true) ∧ Below w.heap.size w w' := by
  have HTB := Lib.hid (Lib.tabBelow_of_tabIs htab)
  have HC1 := Lib.hid (fun W (h : Below w.heap.size w W) => code_any a ha W (HTB.out W h))
  have HC2 := Lib.hid (fun W (h : Below w.heap.size w W) => code_any b hb W (HTB.out W h))
  obtain ⟨r, hr⟩ : ∃ r, a % 1000000 = r := ⟨_, rfl⟩
  obtain ⟨q, hq⟩ : ∃ q, b % 1000000 = q := ⟨_, rfl⟩
  have hra : (a : Int) % 1000000 = (r : Int) := by omega
  have hqb : (b : Int) % 1000000 = (q : Int) := by omega
  have hr6 : r < 1000000 := by omega
  have hq6 : q < 1000000 := by omega
  rw [hr] at HC1
  rw [hq] at HC2
  have hinj := Tk.code_inj hr6 hq6
  have htold := Tk.told_code r hr6
  have hdig := code_digit r
  have hic := Tk.isCode_code r
  have hcl := Tk.code_length r
  obtain ⟨v, hv⟩ : ∃ v, decide (r = q) = v := ⟨_, rfl⟩
  have hs1 : ((ba (Tk.code r)).toList == (ba (Tk.code q)).toList) = v := by
    rw [str_beq, ← hv, decide_eq_decide]
    exact ⟨fun h => hinj.1 (ba_inj h), fun h => by rw [hinj.2 h]⟩
  have hs2 : ((r : Int) == (q : Int)) = v := by
    rw [← hv, Bool.eq_iff_iff, beq_iff_eq, decide_eq_true_iff]
    omega
  have hvv : (v == v) = true := by cases v <;> rfl
  generalize Tk.code r = C at HC1 htold hdig hic hcl hs1
  have hz : (ba C).size = 6 := by rw [ba_size]; exact hcl
  have HI := Lib.hid (fun W => iscode_any (ba C) (by omega) W)
  rw [ba_list, hic] at HI
  have HK := Lib.hid (fun W => istoken_any (ba C) (by omega) W)
  rw [ba_list, tok_code C hcl] at HK
  have HCB := Lib.hid (fun (i : Nat) (h : i < (ba C).size) (h2 : i < C.length) => ba_get C i h h2)
  generalize ba (Tk.code q) = t at HC2 hs1
  generalize ba C = s at HC1 hs1 hz HI HK HCB
  have HTO := Lib.hid htold
  have HDG := Lib.hid hdig
  have HCLEN := Lib.hid hcl
  clear htab hr hq hinj hic hv htold hdig hcl ha hb
  go_enter Tryd.func4, Tryd.ntmps4
  go_wp2_with fail
  refine (awake_any _).mono ?_
  rintro e w1 ⟨rfl, hb1⟩
  have HB1 := Lib.hid hb1
  clear hb1
  go_wp2_with fail
  refine (HC1.out _ HB1.out).mono ?_
  rintro e w2 ⟨rfl, hb⟩
  have HB2 := Lib.hid (HB1.out.trans (hb.mono HB1.out.size))
  clear hb
  go_wp2_with fail
  go_loopw [7, 8] (fun n i wr => ∃ k : Nat, k ≤ 6 ∧ i = .int .i64 (k : Int) ∧ n = .int .u64 (Tk.told (C.take k) : Int) ∧ Tk.told (C.take k) < 10 ^ k ∧ wr = w2) (fun _ i _ => 6 - (intOf i).toNat)
  case atStart => exact ⟨0, by omega, rfl, rfl, by simp [Tk.told], rfl⟩
  case round =>
    obtain ⟨k, hk, rfl, rfl, hlt10, rfl⟩ := hrel
    by_cases hlt : k < 6
    · have hks : k < s.size := by omega
      have hkC : k < C.length := by have := HCLEN.out; omega
      have hdg := HDG.out k hkC
      have htk := told_take C k hkC
      have hsx := HCB.out k hks hkC
      obtain ⟨c, hc⟩ : ∃ c, s[k] = c := ⟨_, rfl⟩
      rw [← hsx, hc] at hdg htk
      have hp := pow10_le k hlt
      have hpow : 10 ^ (k + 1) = 10 ^ k * 10 := Nat.pow_succ 10 k
      obtain ⟨m, hm⟩ : ∃ m, Tk.told (C.take k) = m := ⟨_, rfl⟩
      rw [hm] at htk hlt10 ⊢
      have hm5 : m ≤ 99999 := by omega
      have hlt11 : 10 * m + (c.toNat - 48) < 10 ^ (k + 1) := by omega
      have HTK := Lib.hid htk
      have HLT := Lib.hid hlt11
      have h48 : 48 ≤ c.toNat := hdg.1
      have h57 : c.toNat ≤ 57 := hdg.2
      clear htk hlt11 hlt10 hpow hp hm hsx hdg
      go_wp2_with fail
      go_roundw
      case rel => exact ⟨k + 1, by omega, by go_num, by rw [HTK.out]; go_num, by rw [HTK.out]; exact HLT.out, by first | rfl | trivial⟩
      case measure => simp [intOf]; omega
    · obtain rfl : k = 6 := by omega
      have ht6 : C.take 6 = C := List.take_of_length_le (by have := HCLEN.out; omega)
      rw [ht6, HTO.out]
      clear hlt10 ht6
      go_wp2_with fail
      refine (HI.out _).mono ?_
      rintro e w3 ⟨rfl, rfl⟩
      go_wp2_with fail
      refine (HC2.out _ HB2.out).mono ?_
      rintro e w3 ⟨rfl, hb⟩
      have HB3 := Lib.hid (HB2.out.trans (hb.mono HB2.out.size))
      clear hb
      go_wp2_with fail
      refine (HK.out _).mono ?_
      rintro e w4 ⟨rfl, hb⟩
      have HB4 := Lib.hid (HB3.out.trans (hb.mono HB3.out.size))
      clear hb
      go_wp2_with fail
      go_ret
      exact ⟨rfl, HB4.out⟩

/-! ### The row -/
set_option maxRecDepth 100000 in
theorem contract (H : Type) (enc : TypeId × Value → H) (W : World) (base : Nat) (args : Array Value) (ds gs : List (DataW H)) (before : List MemPlace)
    (hval : ∀ (j : Nat) t v, Tryd.f4.params[j]? = some t → args[j]? = some v → Value.okWide Tryd.prog W .any base t v)
    (hW : DataW.Whole enc Tryd.prog Tryd.f4.params.toList Rows.tokenCodesSpec.vars false W args.toList ds gs before) (hL : laidMetH Tryd.prog Rows.tokenCodesRow.laid W) :
    Calls Tryd.prog 4 args W fun e W' => ∃ v, e = .returned v ∧ Rows.tokenCodesSpec.post enc Tryd.prog Tryd.f4 false true false false W args v W' := by
  have hW' := hW
  obtain ⟨p, q, hA0, hV, rfl, hfz, hnd⟩ := hW
  have hA : DataW.TrodAll enc Tryd.prog W 0 (fun _ => true) true Tryd.f4.params.toList args.toList ds p := hA0
  rw [Tryd.params4] at hA hval
  obtain ⟨v0, vs0, d0, ds0, p0, q0, hargs, rfl, rfl, h0, r0⟩ := trodAll_cons hA
  obtain ⟨v1, vs1, d1, ds1, p1, q1, rfl, rfl, rfl, h1, r1⟩ := trodAll_cons r0
  obtain ⟨rfl, rfl, rfl⟩ := trodAll_nil r1
  obtain rfl : args = #[v0, v1] := by cases args; simp_all
  obtain ⟨rfl, rfl⟩ := trodVars_none hV
  refine law_contract (tb := 4) laidOut (by kernel_rfl) rfl (by kernel_rfl) Tryd.underlying4 rfl hW' ?_
  clear hA0 hW' hA
  obtain ⟨a0, rfl, rfl, rfl, w0⟩ := open_int Tryd.underlying22 (hval 0 22 v0 rfl rfl) h0
  obtain ⟨n0, rfl, b0⟩ := bounds_u64 w0
  obtain ⟨a1, rfl, rfl, rfl, w1⟩ := open_int Tryd.underlying22 (hval 1 22 v1 rfl rfl) h1
  obtain ⟨n1, rfl, b1⟩ := bounds_u64 w1
  exact walk n0 n1 b0 b1 W (tab_of_laid hL)

theorem laid_met (os : Os) : laidMet Tryd.prog Rows.tokenCodesRow.laid ((laidWorld os).forCall (fun _ _ => 0) ⟨#[], #[.int .u64 0, .int .u64 0], []⟩).memory :=
  laidMet_of_run' 8 (by kernel_rfl) (by kernel_rfl)
theorem reads (os : Os) {H : Type} (enc : TypeId × Value → H) : ∃ places, DataW.whole enc Tryd.prog ((laidWorld os).forCall (fun _ _ => 0) ⟨#[], #[.int .u64 0, .int .u64 0], []⟩).memory Tryd.f4.params.toList Rows.tokenCodesSpec.vars false (#[.int .u64 0, .int .u64 0] : Array Value).toList 8 = some ([.lit (.int .u64 0), .lit (.int .u64 0)], [], places) :=
  ⟨[], by kernel_rfl⟩

set_option maxRecDepth 100000 in
theorem lifted (os : Os) (started : os.Started) (H : Type) (enc : TypeId × Value → H) (F : Stop.Interp) :
    ReturnsInHanded {} Tryd.checked os 4 .any ((OpenSpec.ofChange Rows.tokenCodesSpec).preRow enc Tryd.prog Tryd.f4 Rows.tokenCodesRow.domain false Rows.tokenCodesRow.laid) (((OpenSpec.ofChange Rows.tokenCodesSpec).at F).post enc Tryd.prog Tryd.f4 false true false false) := by
  obtain ⟨places, hx⟩ := reads os enc
  refine returnsInHanded_of_row (C := Tryd.checked) (s := OpenSpec.ofChange Rows.tokenCodesSpec) own started (by kernel_rfl) Tryd.func4
    (witness_row_at (enc := enc) (C := Tryd.checked) false (laidWorld os) #[.int .u64 0, .int .u64 0] rfl (by kernel_rfl) (by kernel_rfl) (by kernel_rfl)
      (OpenSpec.preRow_of_cond 8 hx (by kernel_rfl) (fun k hk => by cases hk) (by kernel_rfl) (laid_met os))) ?_
  intro W base args ds gs before hval hW _ _ _ hL _ _
  exact contract H enc W base args ds gs before hval hW hL

theorem said : Rows.TokenCodesSaid :=
  OpenClaim.holds_of_cond 4 Tryd.f4 rfl rfl rfl rfl rfl rfl rfl ⟨rfl, rfl, rfl, rfl, rfl⟩ rfl rfl rfl rfl rfl (by kernel_rfl) Tryd.func4 (by kernel_rfl)
    (of_decide_eq_true (by kernel_rfl)) (by unfold Func.isWrapper; first | (rw [if_pos (by decide +kernel)]; kernel_rfl) | (rw [if_neg (by decide +kernel)]; exact ⟨rfl, rfl⟩))
    (fun os started H enc _ F => by rw [OpenClaim.pre_eq_preRow]; exact lifted os started H enc F)

theorem plain (f : FuncId) (fn : Func) (hf : Tryd.pinned.checked.prog.funcNamed "homecoming/homecominglaw08.TokenCodes" = some f) (hfn : Tryd.pinned.checked.prog.funcs[f]? = some fn) :
    false = Tryd.pinned.checked.prog.looks [] ∧ ∀ (j : Nat) t, fn.params[j]? = some t → Tryd.pinned.checked.prog.wantsStandIn t = false := by
  obtain rfl : f = 4 := Option.some.inj ((show Tryd.prog.funcNamed "homecoming/homecominglaw08.TokenCodes" = some 4 by kernel_rfl).symm.trans hf) |>.symm
  obtain rfl : fn = Tryd.f4 := (Option.some.inj (Tryd.func4.symm.trans hfn)).symm
  refine ⟨by kernel_rfl, fun j t ht => ?_⟩
  have hall : (Tryd.f4.params.toList.all fun u => !Tryd.prog.wantsStandIn u) = true := by kernel_rfl
  have hm : t ∈ Tryd.f4.params.toList := by simpa using Array.mem_of_getElem? ht
  exact (show Tryd.prog.wantsStandIn t = false by simpa using List.all_eq_true.1 hall t hm)

/-- THE STATEMENT. -/
theorem card : Rows.TokenCodesCardSaid :=
  Claim7.holds_tied_plain_at .later [] _ _ _ _ said (fun _ h => by cases h) (by kernel_rfl) (fun _ h => by cases h) tokenCodes_row_tie rfl ⟨rfl, rfl⟩ (by kernel_rfl) rfl plain (by kernel_rfl)
#print axioms card
end Go.Proofs.YtcijkfnhjajfbaaDoor.tokenCodes
