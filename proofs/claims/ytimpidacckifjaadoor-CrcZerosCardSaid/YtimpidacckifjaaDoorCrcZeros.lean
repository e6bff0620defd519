/-
  Proves the statement of CrcZeros: for every pair of sums and every pair of lengths the law returns true, and its arguments read as they did. Condition: the package-level table halfBytes holds what its text lays.
-/
import Derived.Test.YtimpidacckifjaaDoorCrcAwake
import Derived.Test.YtimpidacckifjaaDoorCrcJoin
import Derived.Test.YtimpidacckifjaaDoorCrcTable
import Derived.Test.YtimpidacckifjaaDoorCards
import Derived.Test.YtimpidacckifjaaDoorTie
namespace Go.Proofs.YtimpidacckifjaaDoor.crcZeros
open Go.ChangeShapes Go.WideShapes Go.ChangeAt Go.RowKit
open Go.ChangeMaps (open_string shut_string)

theorem mod_nat (q : Int) : ∃ m : Nat, m ≤ 3000 ∧ (wrap64 (q.tmod 3001 + 3001)).tmod 3001 = (m : Int) := by
  have h1 := Int.tmod_lt_of_pos q (show (0 : Int) < 3001 by decide)
  have h2 : -3001 < q.tmod 3001 := by
    have := Int.tmod_lt_of_pos (-q) (show (0 : Int) < 3001 by decide)
    rw [Int.neg_tmod] at this
    omega
  have h3 : wrap64 (q.tmod 3001 + 3001) = q.tmod 3001 + 3001 := by
    generalize q.tmod 3001 = t at h1 h2 ⊢
    simp [wrap64]
    omega
  rw [h3, Int.tmod_eq_emod_of_nonneg (by omega)]
  refine ⟨((q.tmod 3001 + 3001) % 3001).toNat, ?_, ?_⟩
  · omega
  · omega

theorem join_self (a b : BitVec 32) : Crc.join a b 0 = a ^^^ b := rfl

set_option maxHeartbeats 400000 in
theorem walk (a b : BitVec 32) (q0 q1 : Int) (w : World) (ht : Tab w) :
    Calls Tryd.prog 8 #[.int .u32 (R a), .int .u32 (R b), .agg #[.int .i64 q0, .int .i64 q1]] w fun e w' => e = .returned (.bool true) ∧ Below w.heap.size w w' := by
  obtain ⟨m, hm, em⟩ := mod_nat q0
  obtain ⟨n, hn, en⟩ := mod_nat q1
  have hx := R_xor a b
  have HP := Lib.hid (awake_any (w.alloc (.cells #[.int .i64 q0, .int .i64 q1] 40)) (ht.alloc _))
  go_enter Tryd.func8, Tryd.ntmps8
  go_wp2_with fail
  refine HP.out.mono ?_
  rintro e w' ⟨rfl, hb⟩
  have hc0 : w'.cell? ⟨w.heap.size, 0, none⟩ = some (.int .i64 q0) := (hb.cell (p := ⟨w.heap.size, 0, none⟩) (by simp)).trans (World.cell?_alloc_at _ _ _ _ rfl)
  have hc1 : w'.cell? ⟨w.heap.size, 1, none⟩ = some (.int .i64 q1) := (hb.cell (p := ⟨w.heap.size, 1, none⟩) (by simp)).trans (World.cell?_alloc_at _ _ _ _ rfl)
  have HB := Lib.hid (below_alloc hb)
  clear hb HP
  go_wp2_with fail
  refine (join_zero a _ (by omega) _).mono ?_
  rintro e w1 ⟨rfl, rfl⟩
  go_wp2_with fail
  refine (join_pos _ b n (by omega) _).mono ?_
  rintro e w1 ⟨he, rfl⟩
  rw [Crc.join_join] at he
  subst he
  go_wp2_with fail
  refine (join_at a b _ (by omega) _).mono ?_
  rintro e w1 ⟨he, rfl⟩
  rw [show ((m : Int) + (n : Int)).toNat = m + n by omega] at he
  subst he
  go_wp2_with fail
  refine (join_at a b 0 (by omega) _).mono ?_
  rintro e w1 ⟨rfl, rfl⟩
  rw [show (0 : Int).toNat = 0 from rfl, join_self]
  go_wp2_with fail
  refine (join_at a b _ (by omega) _).mono ?_
  rintro e w1 ⟨he, rfl⟩
  rw [show (-1 - (m : Int)).toNat = 0 by omega, join_self] at he
  subst he
  go_wp2
  go_ret
  exact ⟨rfl, HB.out⟩

/-! ### The row -/
theorem contract (H : Type) (enc : TypeId × Value → H) (W : World) (base : Nat) (args : Array Value) (ds gs : List (DataW H)) (before : List MemPlace)
    (hval : ∀ (j : Nat) t v, Tryd.f8.params[j]? = some t → args[j]? = some v → Value.okWide Tryd.prog W .any base t v)
    (hW : DataW.Whole enc Tryd.prog Tryd.f8.params.toList Rows.crcZerosSpec.vars false W args.toList ds gs before) (hL : laidMetH Tryd.prog Rows.crcZerosRow.laid W) :
    Calls Tryd.prog 8 args W fun e W' => ∃ v, e = .returned v ∧ Rows.crcZerosSpec.post enc Tryd.prog Tryd.f8 false true false false W args v W' := by
  have hW' := hW
  obtain ⟨p, q, hA0, hV, rfl, hfz, hnd⟩ := hW
  have hA : DataW.TrodAll enc Tryd.prog W 0 (fun _ => true) true Tryd.f8.params.toList args.toList ds p := hA0
  rw [Tryd.params8] at hA hval
  obtain ⟨v0, vs0, d0, ds0, p0, q0, hargs, rfl, rfl, h0, r0⟩ := trodAll_cons hA
  obtain ⟨v1, vs1, d1, ds1, p1, q1, rfl, rfl, rfl, h1, r1⟩ := trodAll_cons r0
  obtain ⟨v2, vs2, d2, ds2, p2, q2, rfl, rfl, rfl, h2, r2⟩ := trodAll_cons r1
  obtain ⟨rfl, rfl, rfl⟩ := trodAll_nil r2
  obtain rfl : args = #[v0, v1, v2] := by cases args; simp_all
  obtain ⟨rfl, rfl⟩ := trodVars_none hV
  refine law_contract (tb := 4) laidOut (by kernel_rfl) rfl (by kernel_rfl) Tryd.underlying4 rfl hW' ?_
  clear hA0 hW' hA
  obtain ⟨x0, rfl, _, _, w0⟩ := open_int Tryd.underlying25 (hval 0 25 v0 rfl rfl) h0
  obtain ⟨x1, rfl, _, _, w1⟩ := open_int Tryd.underlying25 (hval 1 25 v1 rfl rfl) h1
  obtain ⟨zs, rfl, hz, _⟩ := open_array Tryd.underlying40 Tryd.underlying3 cellsInt (by kernel_rfl) (hval 2 40 v2 rfl rfl) h2
  obtain ⟨a, rfl⟩ := reg_of w0
  obtain ⟨b, rfl⟩ := reg_of w1
  match zs, hz with
  | [q0, q1], _ => exact walk a b q0 q1 W (tab_of_laid hL)

theorem laid_met (os : Os) : laidMet Tryd.prog Rows.crcZerosRow.laid ((laidWorld os).forCall (fun _ _ => 0) ⟨#[], #[.int .u32 0, .int .u32 0, .agg #[.int .i64 0, .int .i64 0]], []⟩).memory :=
  laidMet_of_run' 8 (by kernel_rfl) (by kernel_rfl)
theorem reads (os : Os) {H : Type} (enc : TypeId × Value → H) : ∃ places, DataW.whole enc Tryd.prog ((laidWorld os).forCall (fun _ _ => 0) ⟨#[], #[.int .u32 0, .int .u32 0, .agg #[.int .i64 0, .int .i64 0]], []⟩).memory Tryd.f8.params.toList Rows.crcZerosSpec.vars false (#[.int .u32 0, .int .u32 0, .agg #[.int .i64 0, .int .i64 0]] : Array Value).toList 8 = some ([.lit (.int .u32 0), .lit (.int .u32 0), .agg [.lit (.int .i64 0), .lit (.int .i64 0)]], [], places) :=
  ⟨[], by kernel_rfl⟩

set_option maxRecDepth 100000 in
theorem lifted (os : Os) (started : os.Started) (H : Type) (enc : TypeId × Value → H) (F : Stop.Interp) :
    ReturnsInHanded {} Tryd.checked os 8 .any ((OpenSpec.ofChange Rows.crcZerosSpec).preRow enc Tryd.prog Tryd.f8 Rows.crcZerosRow.domain false Rows.crcZerosRow.laid) (((OpenSpec.ofChange Rows.crcZerosSpec).at F).post enc Tryd.prog Tryd.f8 false true false false) := by
  obtain ⟨places, hx⟩ := reads os enc
  refine returnsInHanded_of_row (C := Tryd.checked) (s := OpenSpec.ofChange Rows.crcZerosSpec) own started (by kernel_rfl) Tryd.func8
    (witness_row_at (enc := enc) (C := Tryd.checked) false (laidWorld os) #[.int .u32 0, .int .u32 0, .agg #[.int .i64 0, .int .i64 0]] rfl (by kernel_rfl) (by kernel_rfl) (by kernel_rfl)
      (OpenSpec.preRow_of_cond 8 hx (by kernel_rfl) (fun k hk => by cases hk) (by kernel_rfl) (laid_met os))) ?_
  intro W base args ds gs before hval hW _ _ _ hL _ _
  exact contract H enc W base args ds gs before hval hW hL

theorem said : Rows.CrcZerosSaid :=
  OpenClaim.holds_of_cond 8 Tryd.f8 rfl rfl rfl rfl rfl rfl rfl ⟨rfl, rfl, rfl, rfl, rfl⟩ rfl rfl rfl rfl rfl (by kernel_rfl) Tryd.func8 (by kernel_rfl)
    (of_decide_eq_true (by kernel_rfl)) (by unfold Func.isWrapper; first | (rw [if_pos (by decide +kernel)]; kernel_rfl) | (rw [if_neg (by decide +kernel)]; exact ⟨rfl, rfl⟩))
    (fun os started H enc _ F => by rw [OpenClaim.pre_eq_preRow]; exact lifted os started H enc F)

theorem plain (f : FuncId) (fn : Func) (hf : Tryd.pinned.checked.prog.funcNamed "homecoming/homecominglaw01.CrcZeros" = some f) (hfn : Tryd.pinned.checked.prog.funcs[f]? = some fn) :
    false = Tryd.pinned.checked.prog.looks [] ∧ ∀ (j : Nat) t, fn.params[j]? = some t → Tryd.pinned.checked.prog.wantsStandIn t = false := by
  obtain rfl : f = 8 := Option.some.inj ((show Tryd.prog.funcNamed "homecoming/homecominglaw01.CrcZeros" = some 8 by kernel_rfl).symm.trans hf) |>.symm
  obtain rfl : fn = Tryd.f8 := (Option.some.inj (Tryd.func8.symm.trans hfn)).symm
  refine ⟨by kernel_rfl, fun j t ht => ?_⟩
  have hall : (Tryd.f8.params.toList.all fun u => !Tryd.prog.wantsStandIn u) = true := by kernel_rfl
  have hm : t ∈ Tryd.f8.params.toList := by simpa using Array.mem_of_getElem? ht
  exact (show Tryd.prog.wantsStandIn t = false by simpa using List.all_eq_true.1 hall t hm)

/-- THE STATEMENT. -/
theorem card : Rows.CrcZerosCardSaid :=
  Claim7.holds_tied_plain_at .later [] _ _ _ _ said (fun _ h => by cases h) (by kernel_rfl) (fun _ h => by cases h) crcZeros_row_tie rfl ⟨rfl, rfl⟩ (by kernel_rfl) rfl plain (by kernel_rfl)
#print axioms card
end Go.Proofs.YtimpidacckifjaaDoor.crcZeros
