/-
  Proves the statement of MacCounts: for every secret, salt and number of rounds the law returns true (a derived digest makes just as many digests as its cost tells), and its arguments read as they did. Condition: the package-level tables cubeRoots and squareRoots hold what their texts lay.
-/
import Derived.Test.YthaejfbbefpojaaDoorShort07
import Derived.Test.YthaejfbbefpojaaDoorShR
import Derived.Test.YthaejfbbefpojaaDoorMacF
import Derived.Test.YthaejfbbefpojaaDoorShS
import Derived.Test.YthaejfbbefpojaaDoorCards
import Derived.Test.YthaejfbbefpojaaDoorTie
namespace Go.Proofs.YthaejfbbefpojaaDoor.macCounts
open Go.ChangeShapes Go.WideShapes Go.ChangeAt Go.RowKit
open Go.ChangeMaps (open_string shut_string)

theorem mod_nat (q : Int) (M : Nat) (h0 : 0 < M) (hM : M ≤ 1000000) : ∃ m : Nat, m < M ∧ (wrap64 (q.tmod (M : Int) + (M : Int))).tmod (M : Int) = (m : Int) := by
  have h1 := Int.tmod_lt_of_pos q (show (0 : Int) < (M : Int) by omega)
  have h2 : -(M : Int) < q.tmod (M : Int) := by
    have := Int.tmod_lt_of_pos (-q) (show (0 : Int) < (M : Int) by omega)
    rw [Int.neg_tmod] at this
    omega
  generalize q.tmod (M : Int) = t at h1 h2 ⊢
  have h3 : wrap64 (t + (M : Int)) = t + (M : Int) := by
    simp only [wrap64]
    omega
  rw [h3]
  have h5 := Int.tmod_lt_of_pos (t + (M : Int)) (show (0 : Int) < (M : Int) by omega)
  have h4 : 0 ≤ (t + (M : Int)).tmod (M : Int) := Int.tmod_nonneg _ (by omega)
  exact ⟨((t + (M : Int)).tmod (M : Int)).toNat, by omega, by omega⟩
theorem mod9 (q : Int) : ∃ m : Nat, m < 9 ∧ (wrap64 (q.tmod 9 + 9)).tmod 9 = (m : Int) := mod_nat q 9 (by decide) (by decide)
set_option maxHeartbeats 1000000 in
theorem derive_zero (mp : Option Addr) (key salt : ByteArray) (w : World) :
    Calls Tryd.prog 26 #[.pointer mp, .string key, .string salt, .int .i64 0] w fun e w' => e = .returned (.string ⟨#[]⟩) ∧ w' = w := by
  have HV := Lib.hid (fun W => valid_any 0 W)
  rw [decide_eq_false (show ¬ ((1 : Int) ≤ 0 ∧ (0 : Int) ≤ 1000) by omega)] at HV
  go_enter Tryd.func26, Tryd.ntmps26
  go_wp2_with fail
  refine (HV.out _).mono ?_
  rintro e w1 ⟨rfl, rfl⟩
  go_wp2_with fail
  go_ret
  exact ⟨rfl, rfl⟩
theorem cost_is (key : List UInt8) (m r : Nat) (h : key.length = m) : cost m r = r * (2 * one key + 2) := by
  unfold cost one
  rw [h]
  by_cases h0 : r = 0
  · subst h0; simp
  · by_cases h6 : 64 < m
    · simp only [if_neg h0, if_pos h6]; omega
    · simp only [if_neg h0, if_neg h6]; omega
set_option maxRecDepth 100000 in
set_option maxHeartbeats 4000000 in
theorem walk (k0 a0 : ByteArray) (z : Int) (hk : k0.size ≤ maxLen) (ha : a0.size ≤ maxLen) (w : World) (ht : Tab w) :
    Calls Tryd.prog 10 #[.string k0, .string a0, .int .i64 z] w fun e w' => e = .returned (.bool true) ∧ Below w.heap.size w w' := by
  have hck := cut_size k0 150
  have hca := cut_size a0 40
  have HSk := Lib.hid (fun W => short_any k0 150 hk W)
  have HSa := Lib.hid (fun W => short_any a0 40 ha W)
  generalize cut k0 150 = k at hck HSk
  generalize cut a0 40 = s at hca HSa
  obtain ⟨n, hn, ez⟩ := mod9 z
  have HCO := Lib.hid (fun W => cost_any k.size n (by omega) W)
  rw [cost_is k.data.toList k.size n (by simp)] at HCO
  have HT := Lib.hid ht
  clear ht ha hk
  go_enter Tryd.func10, Tryd.ntmps10
  go_wp2_with fail
  refine (awake7 _ (by exact HT.out)).mono ?_
  rintro e w1 ⟨rfl, hb1⟩
  have HB1 := Lib.hid hb1
  have HT1 := Lib.hid (HT.out.next hb1)
  clear hb1
  go_wp2_with fail
  refine (HSk.out _).mono ?_
  rintro e w2 ⟨rfl, rfl⟩
  go_wp2_with fail
  refine (HSa.out _).mono ?_
  rintro e w2 ⟨rfl, rfl⟩
  have hgg : w1.heap.size ≠ 1 ∧ w1.heap.size ≠ 0 := by
    have h1 := HT1.out.ltK
    have h2 := HT1.out.ltH
    omega
  have hb3 := (Below.refl w1.heap.size w1).alloc (Nat.le_refl _) (.cells #[.int .i64 0] 38)
  have HM3 := Lib.hid (show Met (w1.alloc (.cells #[.int .i64 0] 38)) w1.heap.size 0 from Blk.new w1 _ _)
  have HB3 := Lib.hid (HB1.out.trans (hb3.mono HB1.out.size))
  have HT3 := Lib.hid (HT1.out.next hb3)
  have HK3 := Lib.hid (show w1.heap.size < (w1.alloc (.cells #[.int .i64 0] 38)).heap.size by simp)
  clear hb3 HT
  have hBL := Lib.hid HB1.out.size
  go_wp2_with fail
  generalize w1.alloc (.cells #[.int .i64 0] 38) = w3 at HM3 HB3 HT3 HK3 ⊢
  generalize w1.heap.size = g at hgg HM3 HK3 hBL ⊢
  by_cases h0 : n = 0
  · subst h0
    have hz : (((0 : Nat) : Int) == 0) = true := rfl
    have HZ := Lib.hid (fun mp W => derive_zero mp k s W)
    rw [show 0 * (2 * one k.data.toList + 2) = 0 by omega] at HCO
    rw [show ((0 : Nat) : Int) = 0 from rfl] at HCO ⊢
    clear ez hz
    refine (HZ.out _ _).mono ?_
    rintro e w4 ⟨rfl, rfl⟩
    have hmc := mcount_any g 0 w4 HM3.out
    rw [show ((0 : Nat) : Int) = 0 from rfl] at hmc
    have HMC := Lib.hid hmc
    clear hmc
    go_wp2_with fail
    refine HMC.out.mono ?_
    rintro e w5 ⟨rfl, rfl⟩
    go_wp2_with fail
    refine (HCO.out _).mono ?_
    rintro e w6 ⟨rfl, rfl⟩
    go_wp2_with fail
    refine (HZ.out _ _).mono ?_
    rintro e w7 ⟨rfl, rfl⟩
    go_wp2_with fail
    go_ret
    exact ⟨rfl, HB3.out⟩
  · have hni : ¬ (n : Int) = 0 := by omega
    have hnb : ((n : Int) == 0) = false := beq_eq_false_iff_ne.2 hni
    have HD := Lib.hid (derive_any (Mt.one g hgg) k (by omega) s (by omega) n (by omega) (by omega) 0 (by omega) w3 HM3.out HT3.out)
    have HN := Lib.hid (fun W (h : Tab W) => derive_any Mt.nil k (by omega) s (by omega) n (by omega) (by omega) 0 (by omega) W trivial h)
    rw [Nat.zero_add] at HD
    have hDs : (ba (dv k.data.toList (s.data.toList ++ [0, 0, 0, 1]) (n - 1))).size = 32 := by rw [ba_size, dv_length]
    generalize ba (dv k.data.toList (s.data.toList ++ [0, 0, 0, 1]) (n - 1)) = D at HD HN hDs
    have hd0 : D.toList ≠ [] := fun h => by
      rw [ByteArray.toList_eq] at h
      have h2 := congrArg List.length h
      simp at h2
      rw [h2] at hDs
      exact absurd hDs (by decide)
    have hde : (D.toList == []) = false := beq_eq_false_iff_ne.2 hd0
    have hdd := same_str D
    clear hd0 hDs ez
    obtain ⟨q, hq⟩ : ∃ q, n * (2 * one k.data.toList + 2) = q := ⟨_, rfl⟩
    rw [hq] at HD HCO
    clear hq
    refine HD.out.mono ?_
    rintro e w4 ⟨rfl, hm4, hk4⟩
    have HB4 := Lib.hid (Kept.below HB3.out hk4 (fun b hb => by subst hb; exact hBL.out) HB3.out.size)
    have HT4 := Lib.hid ((Mt.one g hgg).tab HT3.out hk4)
    have HMC := Lib.hid (mcount_any g q w4 hm4)
    have hqq : ((q : Int) == (q : Int)) = true := by simp
    clear hm4 hk4 HD
    go_wp2_with fail
    refine HMC.out.mono ?_
    rintro e w5 ⟨rfl, rfl⟩
    go_wp2_with fail
    refine (HCO.out _).mono ?_
    rintro e w6 ⟨rfl, rfl⟩
    go_wp2_with fail
    refine (HN.out _ HT4.out).mono ?_
    rintro e w7 ⟨rfl, -, hk7⟩
    have HB7 := Lib.hid (Kept.below HB4.out hk7 (fun b hb => hb.elim) HB4.out.size)
    clear hk7
    go_wp2_with fail
    go_ret
    exact ⟨rfl, HB7.out⟩

/-! ### The row -/
set_option maxRecDepth 100000 in
theorem contract (H : Type) (enc : TypeId × Value → H) (W : World) (base : Nat) (args : Array Value) (ds gs : List (DataW H)) (before : List MemPlace)
    (hval : ∀ (j : Nat) t v, Tryd.f10.params[j]? = some t → args[j]? = some v → Value.okWide Tryd.prog W .any base t v)
    (hW : DataW.Whole enc Tryd.prog Tryd.f10.params.toList Rows.macCountsSpec.vars false W args.toList ds gs before) (hL : laidMetH Tryd.prog Rows.macCountsRow.laid W) :
    Calls Tryd.prog 10 args W fun e W' => ∃ v, e = .returned v ∧ Rows.macCountsSpec.post enc Tryd.prog Tryd.f10 false true false false W args v W' := by
  have hW' := hW
  obtain ⟨p, q, hA0, hV, rfl, hfz, hnd⟩ := hW
  have hA : DataW.TrodAll enc Tryd.prog W 0 (fun _ => true) true Tryd.f10.params.toList args.toList ds p := hA0
  rw [Tryd.params10] at hA hval
  obtain ⟨v0, vs0, d0, ds0, p0, q0, hargs, rfl, rfl, h0, r0⟩ := trodAll_cons hA
  obtain ⟨v1, vs1, d1, ds1, p1, q1, rfl, rfl, rfl, h1, r1⟩ := trodAll_cons r0
  obtain ⟨v2, vs2, d2, ds2, p2, q2, rfl, rfl, rfl, h2, r2⟩ := trodAll_cons r1
  obtain ⟨rfl, rfl, rfl⟩ := trodAll_nil r2
  obtain rfl : args = #[v0, v1, v2] := by cases args; simp_all
  obtain ⟨rfl, rfl⟩ := trodVars_none hV
  refine law_contract (tb := 4) laidOut (by kernel_rfl) rfl (by kernel_rfl) Tryd.underlying4 rfl hW' ?_
  clear hA0 hW' hA
  obtain ⟨a0, rfl, _, _, w0⟩ := open_string Tryd.underlying9 (hval 0 9 v0 rfl rfl) h0
  obtain ⟨a1, rfl, _, _, w1⟩ := open_string Tryd.underlying9 (hval 1 9 v1 rfl rfl) h1
  obtain ⟨a2, rfl, rfl, rfl, w2⟩ := open_int Tryd.underlying3 (hval 2 3 v2 rfl rfl) h2
  exact walk a0 a1 a2 w0 w1 W (tab_of_laid hL)

theorem laid_met (os : Os) : laidMet Tryd.prog Rows.macCountsRow.laid ((laidWorld os).forCall (fun _ _ => 0) ⟨#[], #[.string ⟨#[]⟩, .string ⟨#[]⟩, .int .i64 0], []⟩).memory :=
  laidMet_of_run' 8 (by kernel_rfl) (by kernel_rfl)
theorem reads (os : Os) {H : Type} (enc : TypeId × Value → H) : ∃ places, DataW.whole enc Tryd.prog ((laidWorld os).forCall (fun _ _ => 0) ⟨#[], #[.string ⟨#[]⟩, .string ⟨#[]⟩, .int .i64 0], []⟩).memory Tryd.f10.params.toList Rows.macCountsSpec.vars false (#[.string ⟨#[]⟩, .string ⟨#[]⟩, .int .i64 0] : Array Value).toList 8 = some ([.lit (.string []), .lit (.string []), .lit (.int .i64 0)], [], places) :=
  ⟨[], by kernel_rfl⟩

set_option maxRecDepth 100000 in
theorem lifted (os : Os) (started : os.Started) (H : Type) (enc : TypeId × Value → H) (F : Stop.Interp) :
    ReturnsInHanded {} Tryd.checked os 10 .any ((OpenSpec.ofChange Rows.macCountsSpec).preRow enc Tryd.prog Tryd.f10 Rows.macCountsRow.domain false Rows.macCountsRow.laid) (((OpenSpec.ofChange Rows.macCountsSpec).at F).post enc Tryd.prog Tryd.f10 false true false false) := by
  obtain ⟨places, hx⟩ := reads os enc
  refine returnsInHanded_of_row (C := Tryd.checked) (s := OpenSpec.ofChange Rows.macCountsSpec) own started (by kernel_rfl) Tryd.func10
    (witness_row_at (enc := enc) (C := Tryd.checked) false (laidWorld os) #[.string ⟨#[]⟩, .string ⟨#[]⟩, .int .i64 0] rfl (by kernel_rfl) (by kernel_rfl) (by kernel_rfl)
      (OpenSpec.preRow_of_cond 8 hx (by kernel_rfl) (fun k hk => by cases hk) (by kernel_rfl) (laid_met os))) ?_
  intro W base args ds gs before hval hW _ _ _ hL _ _
  exact contract H enc W base args ds gs before hval hW hL

theorem said : Rows.MacCountsSaid :=
  OpenClaim.holds_of_cond 10 Tryd.f10 rfl rfl rfl rfl rfl rfl rfl ⟨rfl, rfl, rfl, rfl, rfl⟩ rfl rfl rfl rfl rfl (by kernel_rfl) Tryd.func10 (by kernel_rfl)
    (of_decide_eq_true (by kernel_rfl)) (by unfold Func.isWrapper; first | (rw [if_pos (by decide +kernel)]; kernel_rfl) | (rw [if_neg (by decide +kernel)]; exact ⟨rfl, rfl⟩))
    (fun os started H enc _ F => by rw [OpenClaim.pre_eq_preRow]; exact lifted os started H enc F)

theorem plain (f : FuncId) (fn : Func) (hf : Tryd.pinned.checked.prog.funcNamed "homecoming/homecominglaw07.MacCounts" = some f) (hfn : Tryd.pinned.checked.prog.funcs[f]? = some fn) :
    false = Tryd.pinned.checked.prog.looks [] ∧ ∀ (j : Nat) t, fn.params[j]? = some t → Tryd.pinned.checked.prog.wantsStandIn t = false := by
  obtain rfl : f = 10 := Option.some.inj ((show Tryd.prog.funcNamed "homecoming/homecominglaw07.MacCounts" = some 10 by kernel_rfl).symm.trans hf) |>.symm
  obtain rfl : fn = Tryd.f10 := (Option.some.inj (Tryd.func10.symm.trans hfn)).symm
  refine ⟨by kernel_rfl, fun j t ht => ?_⟩
  have hall : (Tryd.f10.params.toList.all fun u => !Tryd.prog.wantsStandIn u) = true := by kernel_rfl
  have hm : t ∈ Tryd.f10.params.toList := by simpa using Array.mem_of_getElem? ht
  exact (show Tryd.prog.wantsStandIn t = false by simpa using List.all_eq_true.1 hall t hm)

/-- THE STATEMENT. -/
theorem card : Rows.MacCountsCardSaid :=
  Claim7.holds_tied_plain_at .later [] _ _ _ _ said (fun _ h => by cases h) (by kernel_rfl) (fun _ h => by cases h) macCounts_row_tie rfl ⟨rfl, rfl⟩ (by kernel_rfl) rfl plain (by kernel_rfl)
#print axioms card
end Go.Proofs.YthaejfbbefpojaaDoor.macCounts
