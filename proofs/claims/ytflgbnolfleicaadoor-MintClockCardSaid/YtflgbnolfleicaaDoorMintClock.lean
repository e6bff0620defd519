/-
  Proves the statement of MintClock: for every three numbers the law returns true (time never goes back, nor beyond its end; ticks one behind the other are their sum), and its arguments read as they did. Conditions: the package-level tables uint64pow10, deBruijn32tab and deBruijn64tab of the library hold what their texts lay.
-/
import Derived.Test.YtflgbnolfleicaaDoorMinW
import Derived.Test.YtflgbnolfleicaaDoorTabs
import Derived.Test.YtflgbnolfleicaaDoorCards
import Derived.Test.YtflgbnolfleicaaDoorTie
namespace Go.Proofs.YtflgbnolfleicaaDoor.mintClock
open Go.ChangeShapes Go.WideShapes Go.ChangeAt Go.RowKit
open Go.ChangeMaps (open_string shut_string)

/-- The library's table of powers of ten, out of the row's list. -/
theorem pow_of {W : World} (hL : laidMet Tryd.prog Rows.mintClockRow.laid W) : PowIs W := tab_Uint64pow10 (laidMet.tail (laidMet.tail hL))
set_option maxRecDepth 100000 in
set_option maxHeartbeats 4000000 in
theorem walk (n0 a0 b0 : Int) (w : World) (hp : PowIs w) :
    Calls Tryd.prog 4 #[.int .i64 n0, .int .i64 a0, .int .i64 b0] w fun e w' => e = .returned (.bool true) ∧ Below w.heap.size w w' := by
  obtain ⟨n, hn, en⟩ := and_mask n0 62 4611686018427387903 (by decide) (by decide)
  obtain ⟨x, hx, ex⟩ := and_mask a0 61 2305843009213693951 (by decide) (by decide)
  obtain ⟨y, hy, ey⟩ := and_mask b0 61 2305843009213693951 (by decide) (by decide)
  rw [show (2 : Nat) ^ 62 = 4611686018427387904 by decide] at hn
  rw [show (2 : Nat) ^ 61 = 2305843009213693952 by decide] at hx hy
  obtain ⟨m1, hm1⟩ : ∃ m : Int, (-1 : Int) - (n : Int) = m := ⟨_, rfl⟩
  obtain ⟨m2, hm2⟩ : ∃ m : Int, (-1 : Int) - (x : Int) = m := ⟨_, rfl⟩
  obtain ⟨xy, hxy⟩ : ∃ m : Int, (x : Int) + (y : Int) = m := ⟨_, rfl⟩
  have w1 : IntKind.i64.wrap ((-1 : Int) - (n : Int)) = m1 := by rw [IntKind.wrap_i64]; omega
  have w2 : IntKind.i64.wrap ((-1 : Int) - (x : Int)) = m2 := by rw [IntKind.wrap_i64]; omega
  have w3 : IntKind.i64.wrap ((x : Int) + (y : Int)) = xy := by rw [IntKind.wrap_i64]; omega
  have H1 := Lib.hid (fun W => clock_any n x (by omega) (by omega) W)
  have H3 := Lib.hid (fun W => clock_any n xy (by omega) (by omega) W)
  have H4 := Lib.hid (fun W => clock_any m1 x (by omega) (by omega) W)
  have H5 := Lib.hid (fun W => clock_any n m2 (by omega) (by omega) W)
  rw [Mi.clock_neg m1 x (.inl (by omega))] at H4
  rw [Mi.clock_neg n m2 (.inr (by omega))] at H5
  have hb := Mi.clock_bounds n x
  have hge : Mi.clock n x ≥ n ∨ (n : Int) > 1099511627776 := by
    by_cases h : (n : Int) ≤ 1099511627776
    · exact .inl (Mi.clock_ge n x (by omega) (by omega) h)
    · exact .inr (by omega)
  have H2 := Lib.hid (fun W => clock_any (Mi.clock n x) y (by omega) (by omega) W)
  rw [Mi.clock_on n x y (by omega) (by omega) (by omega), hxy] at H2
  generalize Mi.clock n x = t at *
  generalize Mi.clock n xy = u at *
  have hb1 : 0 ≤ t := hb.1
  have hb2 : t ≤ 1099511627776 := hb.2
  have huu : (u == u) = true := by simp
  have HP := Lib.hid hp
  have HG := Lib.hid hge
  clear hp hb hge hn hx hy hm1 hm2 hxy
  go_enter Tryd.func4, Tryd.ntmps4
  go_wp2_with fail
  refine (awake_any w HP.out).mono ?_
  rintro e wa ⟨rfl, hb⟩
  have HB := Lib.hid hb
  clear hb HP
  go_wp2_with fail
  refine (H1.out _).mono ?_
  rintro e wq ⟨rfl, rfl⟩
  by_cases hc : t ≥ (n : Int)
  · go_wp2_with fail
    refine (H2.out _).mono ?_
    rintro e wq ⟨rfl, rfl⟩
    go_wp2_with fail
    refine (H3.out _).mono ?_
    rintro e wq ⟨rfl, rfl⟩
    go_wp2_with fail
    refine (H4.out _).mono ?_
    rintro e wq ⟨rfl, rfl⟩
    go_wp2_with fail
    refine (H5.out _).mono ?_
    rintro e wq ⟨rfl, rfl⟩
    go_wp2_with fail
    go_ret
    exact ⟨rfl, HB.out⟩
  · have hc2 : (n : Int) > 1099511627776 := by rcases HG.out with h | h; exact absurd h hc; exact h
    go_wp2_with fail
    refine (H2.out _).mono ?_
    rintro e wq ⟨rfl, rfl⟩
    go_wp2_with fail
    refine (H3.out _).mono ?_
    rintro e wq ⟨rfl, rfl⟩
    go_wp2_with fail
    refine (H4.out _).mono ?_
    rintro e wq ⟨rfl, rfl⟩
    go_wp2_with fail
    refine (H5.out _).mono ?_
    rintro e wq ⟨rfl, rfl⟩
    go_wp2_with fail
    go_ret
    exact ⟨rfl, HB.out⟩

/-! ### The row -/
set_option maxRecDepth 100000 in
theorem contract (H : Type) (enc : TypeId × Value → H) (W : World) (base : Nat) (args : Array Value) (ds gs : List (DataW H)) (before : List MemPlace)
    (hval : ∀ (j : Nat) t v, Tryd.f4.params[j]? = some t → args[j]? = some v → Value.okWide Tryd.prog W .any base t v)
    (hW : DataW.Whole enc Tryd.prog Tryd.f4.params.toList Rows.mintClockSpec.vars false W args.toList ds gs before) (hL : laidMet Tryd.prog Rows.mintClockRow.laid W) (_hS : W.ShapedOpen Tryd.prog) :
    Calls Tryd.prog 4 args W fun e W' => ∃ v, e = .returned v ∧ Rows.mintClockSpec.post enc Tryd.prog Tryd.f4 false true false false W args v W' := by
  have hW' := hW
  obtain ⟨p, q, hA0, hV, rfl, hfz, hnd⟩ := hW
  have hA : DataW.TrodAll enc Tryd.prog W 0 (fun _ => true) true Tryd.f4.params.toList args.toList ds p := hA0
  rw [Tryd.params4] at hA hval
  obtain ⟨v0, vs0, d0, ds0, p0, q0, hargs, rfl, rfl, h0, r0⟩ := trodAll_cons hA
  obtain ⟨v1, vs1, d1, ds1, p1, q1, rfl, rfl, rfl, h1, r1⟩ := trodAll_cons r0
  obtain ⟨v2, vs2, d2, ds2, p2, q2, rfl, rfl, rfl, h2, r2⟩ := trodAll_cons r1
  obtain ⟨rfl, rfl, rfl⟩ := trodAll_nil r2
  obtain rfl : args = #[v0, v1, v2] := by cases args; simp_all
  obtain ⟨rfl, rfl⟩ := trodVars_none hV
  refine law_contract (tb := 4) laidOut (by kernel_rfl) rfl (by kernel_rfl) Tryd.underlying4 rfl hW' ?_
  clear hA0 hW' hA
  obtain ⟨a0, rfl, rfl, rfl, w0⟩ := open_int Tryd.underlying2 (hval 0 2 v0 rfl rfl) h0
  obtain ⟨a1, rfl, rfl, rfl, w1⟩ := open_int Tryd.underlying2 (hval 1 2 v1 rfl rfl) h1
  obtain ⟨a2, rfl, rfl, rfl, w2⟩ := open_int Tryd.underlying2 (hval 2 2 v2 rfl rfl) h2
  exact walk a0 a1 a2 W (pow_of hL)

theorem laid_met (os : Os) : laidMet Tryd.prog Rows.mintClockRow.laid ((laidWorld os).forCall (fun _ _ => 0) ⟨#[], #[.int .i64 0, .int .i64 0, .int .i64 0], []⟩).memory :=
  laidMet_of_run' 8 (by kernel_rfl) (by kernel_rfl)
theorem reads (os : Os) {H : Type} (enc : TypeId × Value → H) : ∃ places, DataW.whole enc Tryd.prog ((laidWorld os).forCall (fun _ _ => 0) ⟨#[], #[.int .i64 0, .int .i64 0, .int .i64 0], []⟩).memory Tryd.f4.params.toList Rows.mintClockSpec.vars false (#[.int .i64 0, .int .i64 0, .int .i64 0] : Array Value).toList 8 = some ([.lit (.int .i64 0), .lit (.int .i64 0), .lit (.int .i64 0)], [], places) :=
  ⟨[], by kernel_rfl⟩

set_option maxRecDepth 100000 in
theorem lifted (os : Os) (started : os.Started) (H : Type) (enc : TypeId × Value → H) (F : Stop.Interp) :
    ReturnsInHanded {} Tryd.checked os 4 .any ((OpenSpec.ofChange Rows.mintClockSpec).preRow enc Tryd.prog Tryd.f4 Rows.mintClockRow.domain false Rows.mintClockRow.laid) (((OpenSpec.ofChange Rows.mintClockSpec).at F).post enc Tryd.prog Tryd.f4 false true false false) := by
  obtain ⟨places, hx⟩ := reads os enc
  refine returnsInHanded_of_row (C := Tryd.checked) (s := OpenSpec.ofChange Rows.mintClockSpec) own started (by kernel_rfl) Tryd.func4
    (witness_row_at (enc := enc) (C := Tryd.checked) false (laidWorld os) #[.int .i64 0, .int .i64 0, .int .i64 0] rfl (by kernel_rfl) (by kernel_rfl) (by kernel_rfl)
      (OpenSpec.preRow_of_cond 8 hx (by kernel_rfl) (fun k hk => by cases hk) (by kernel_rfl) (laid_met os))) ?_
  intro W base args ds gs before hval hW _ _ _ hL hS _
  exact contract H enc W base args ds gs before hval hW hL hS

theorem said : Rows.MintClockSaid :=
  OpenClaim.holds_of_cond 4 Tryd.f4 rfl rfl rfl rfl rfl rfl rfl ⟨rfl, rfl, rfl, rfl, rfl⟩ rfl rfl rfl rfl rfl (by kernel_rfl) Tryd.func4 (by kernel_rfl)
    (of_decide_eq_true (by kernel_rfl)) (by unfold Func.isWrapper; first | (rw [if_pos (by decide +kernel)]; kernel_rfl) | (rw [if_neg (by decide +kernel)]; exact ⟨rfl, rfl⟩))
    (fun os started H enc _ F => by rw [OpenClaim.pre_eq_preRow]; exact lifted os started H enc F)

theorem plain (f : FuncId) (fn : Func) (hf : Tryd.pinned.checked.prog.funcNamed "homecoming/homecominglaw10.MintClock" = some f) (hfn : Tryd.pinned.checked.prog.funcs[f]? = some fn) :
    false = Tryd.pinned.checked.prog.looks [] ∧ ∀ (j : Nat) t, fn.params[j]? = some t → Tryd.pinned.checked.prog.wantsStandIn t = false := by
  obtain rfl : f = 4 := Option.some.inj ((show Tryd.prog.funcNamed "homecoming/homecominglaw10.MintClock" = some 4 by kernel_rfl).symm.trans hf) |>.symm
  obtain rfl : fn = Tryd.f4 := (Option.some.inj (Tryd.func4.symm.trans hfn)).symm
  refine ⟨by kernel_rfl, fun j t ht => ?_⟩
  have hall : (Tryd.f4.params.toList.all fun u => !Tryd.prog.wantsStandIn u) = true := by kernel_rfl
  have hm : t ∈ Tryd.f4.params.toList := by simpa using Array.mem_of_getElem? ht
  exact (show Tryd.prog.wantsStandIn t = false by simpa using List.all_eq_true.1 hall t hm)

/-- THE STATEMENT. -/
theorem card : Rows.MintClockCardSaid :=
  Claim7.holds_tied_plain_at .later [] _ _ _ _ said (fun _ h => by cases h) (by kernel_rfl) (fun _ h => by cases h) mintClock_row_tie rfl ⟨rfl, rfl⟩ (by kernel_rfl) rfl plain (by kernel_rfl)
#print axioms card
end Go.Proofs.YtflgbnolfleicaaDoor.mintClock
