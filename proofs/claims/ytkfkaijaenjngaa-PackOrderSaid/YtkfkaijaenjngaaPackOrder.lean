/-
  PackOrder: numbers are as long as their bits ask for, a greater one has no fewer bytes: for every two numbers the statement's function returns true and changes nothing that was there. No condition.
-/
import Derived.Test.YtkfkaijaenjngaaPackD
import Derived.Test.YtkfkaijaenjngaaPackT
import Derived.Lib.MinMax
namespace Go.Proofs.Ytkfkaijaenjngaa.packOrder
open Go.ChangeShapes Go.WideShapes Go.ChangeAt Go.RowKit
open Go.ChangeMaps (open_string shut_string)

set_option maxRecDepth 100000 in
set_option maxHeartbeats 4000000 in
theorem walk (a b : Nat) (w : World) (ha : a ≤ 18446744073709551615) (hb : b ≤ 18446744073709551615) :
    Calls Try.prog 8 #[.int .u64 (a : Int), .int .u64 (b : Int)] w fun e w' => e = .returned (.bool true) ∧ Below w.heap.size w w' := by
  obtain ⟨lo, hlo⟩ : ∃ lo : Nat, lo = min a b := ⟨_, rfl⟩
  obtain ⟨hi, hhi⟩ : ∃ hi : Nat, hi = max a b := ⟨_, rfl⟩
  have hmin : min (a : Int) (b : Int) = (lo : Int) := by omega
  have hmax : max (a : Int) (b : Int) = (hi : Int) := by omega
  have hle : lo ≤ hi := by omega
  have hhb : hi ≤ 18446744073709551615 := by omega
  have HE : Hid (lo = hi ↔ a = b) := Lib.hid (by omega)
  clear hlo hhi
  go_enter Try.func8, Try.ntmps8
  go_wp2_with fail
  refine (awake_any _).mono ?_
  rintro e w1 ⟨rfl, hb1⟩
  have hz1 := hb1.size
  have hx0 : Wr w.heap.size w _ _ _ _ := (Wr.new hb1 hz1).alloc (.cells #[.slice none 0 0] 31)
  have hy0 : Wr w.heap.size w _ _ _ _ := Wr.new (w := w1.alloc (.cells #[.slice none 0 0] 31)) (hb1.alloc hz1 _) (by simp; omega)
  have hdy : (w1.alloc (.cells #[.slice none 0 0] 31)).heap.size = w1.heap.size + 1 := by simp
  rw [hdy] at hy0
  have HC := Lib.hid (wnum_one hx0 lo _ rfl (w1.heap.size + 2) (by simp) (by omega) (by simp))
  have HY := Lib.hid hy0
  clear hx0 hy0 hb1 hdy
  go_wp2_with fail
  refine HC.out.mono ?_
  rintro e w2 ⟨rfl, vx, hx1, hk1, _⟩
  have HY1 := Lib.hid (HY.out.kept hk1 (fun k hk => by rw [foot_new hk]; exact hz1) (fun k hk hk' => by have := foot_new hk; have := foot_new hk'; omega))
  rw [List.nil_append] at hx1
  generalize hS : ba (Pk.num lo) = S
  have HS := Lib.hid (str_on hx1)
  rw [hS] at HS
  have HSe := Lib.hid hS
  clear HC HY hk1 hx1 hS
  go_wp2_with fail
  refine HS.out.mono ?_
  rintro e w3 ⟨rfl, rfl⟩
  clear HS
  have HD := Lib.hid (wnum_one HY1.out hi _ rfl w2.heap.size rfl (by omega) (by simp))
  clear HY1
  go_wp2_with fail
  refine HD.out.mono ?_
  rintro e w4 ⟨rfl, vy, hy2, _, _⟩
  rw [List.nil_append] at hy2
  generalize hT : ba (Pk.num hi) = T
  have HS := Lib.hid (str_on hy2)
  rw [hT] at HS
  have HTe := Lib.hid hT
  have HB := Lib.hid hy2.bel
  clear HD hy2 hT
  go_wp2_with fail
  refine HS.out.mono ?_
  rintro e w5 ⟨rfl, rfl⟩
  clear HS
  have hs1 : S.size = (Pk.num lo).length := by rw [← HSe.out, ba_size]
  have hs2 : S.size ≤ T.size := by
    rw [← HSe.out, ← HTe.out, ba_size, ba_size]
    exact Pk.num_len_mono lo hi hle
  have hs3 : (S.toList == T.toList) = decide (a = b) := by
    rw [← HSe.out, ← HTe.out, str_beq, Bool.eq_iff_iff, decide_eq_true_iff, decide_eq_true_iff, ← HE.out]
    constructor
    · intro h
      exact (Pk.num_inj (a := lo) (b := hi) [] [] (by omega) (by omega) (by rw [ba_inj h])).1
    · rintro rfl
      rfl
  have hs5 : T.size ≤ 10 := by rw [← HTe.out, ba_size]; exact Pk.num_len_le hi (by omega)
  generalize hL : (Pk.num lo).length = L at hs1
  have H1 := Lib.hid hs1
  have H3 := Lib.hid hs3
  have HL := Lib.hid hL
  clear hs1 hs3 hL
  go_wp2_with fail
  go_loop [10, 11] (fun i k => ∃ n m : Nat, i = .int .i64 (n : Int) ∧ k = .int .u64 (m : Int) ∧ n ≤ L ∧ m ≤ 18446744073709551615 ∧ (m = 0 → n = L) ∧ (0 < m → n + (Pk.num m).length = L)) (fun _ k => (intOf k).toNat)
  case atStart =>
    refine ⟨1, lo / 128, rfl, by simp, ?_, by omega, ?_, ?_⟩
    · rw [← HL.out]; exact Pk.num_pos lo
    · intro h; rw [← HL.out, Pk.num_lt (by omega)]; rfl
    · intro h; rw [← HL.out, Pk.num_len_step (n := lo) (by omega)]; omega
  case round =>
    obtain ⟨n, m, rfl, rfl, hnL, hm, h0, hp⟩ := hrel
    have hL10 : L ≤ 10 := by have := H1.out; omega
    have H0 := Lib.hid h0
    have HP := Lib.hid hp
    clear h0 hp
    by_cases hm0 : 0 < m
    · have hstep : (m / 128 = 0 → n + 1 = L) ∧ (0 < m / 128 → n + 1 + (Pk.num (m / 128)).length = L) ∧ n + 1 ≤ L := by
        have h1 := HP.out hm0
        have h2 := Pk.num_pos m
        refine ⟨fun h => ?_, fun h => ?_, by omega⟩
        · rw [Pk.num_lt (by omega)] at h1
          exact h1
        · rw [Pk.num_len_step (by omega)] at h1
          omega
      have HT := Lib.hid hstep
      clear hstep
      go_wp2_with fail
      go_round
      case rel => exact ⟨n + 1, m / 128, by go_num, by simp, HT.out.2.2, by omega, HT.out.1, HT.out.2.1⟩
      case measure => simp [intOf]; omega
    · obtain rfl : m = 0 := by omega
      obtain rfl : n = L := H0.out rfl
      have hs1 := H1.out
      have hs3 := H3.out
      by_cases hab : a = b
      · subst hab
        rw [decide_eq_true rfl] at hs3
        go_wp2_with fail
        go_ret
        exact ⟨rfl, HB.out⟩
      · rw [decide_eq_false hab] at hs3
        go_wp2_with fail
        go_ret
        have hne : ((a : Int) == (b : Int)) = false := by rw [beq_eq_false_iff_ne]; omega
        refine ⟨?_, HB.out⟩
        show Ending.returned (.bool (!((a : Int) == (b : Int)))) = _
        rw [hne]
        rfl

/-! ### The row -/
theorem contract (H : Type) (enc : TypeId × Value → H) (W : World) (base : Nat) (args : Array Value) (ds gs : List (DataW H)) (before : List MemPlace)
    (hval : ∀ (j : Nat) t v, Try.f8.params[j]? = some t → args[j]? = some v → Value.okWide Try.prog W .any base t v)
    (hW : DataW.Whole enc Try.prog Try.f8.params.toList Rows.packOrderSpec.vars false W args.toList ds gs before) :
    Calls Try.prog 8 args W fun e W' => ∃ v, e = .returned v ∧ Rows.packOrderSpec.post enc Try.prog Try.f8 false true false false W args v W' := by
  have hW' := hW
  obtain ⟨p, q, hA0, hV, rfl, hfz, hnd⟩ := hW
  have hA : DataW.TrodAll enc Try.prog W 0 (fun _ => true) true Try.f8.params.toList args.toList ds p := hA0
  rw [Try.params8] at hA hval
  obtain ⟨v0, vs0, d0, ds0, p0, q0, hargs, rfl, rfl, h0, r0⟩ := trodAll_cons hA
  obtain ⟨v1, vs1, d1, ds1, p1, q1, rfl, rfl, rfl, h1, r1⟩ := trodAll_cons r0
  obtain ⟨rfl, rfl, rfl⟩ := trodAll_nil r1
  obtain rfl : args = #[v0, v1] := by cases args; simp_all
  obtain ⟨rfl, rfl⟩ := trodVars_none hV
  refine law_contract (tb := 4) laidOut (by kernel_rfl) rfl (by kernel_rfl) Try.underlying4 rfl hW' ?_
  clear hA0 hW' hA
  obtain ⟨a0, rfl, rfl, rfl, w0⟩ := open_int Try.underlying33 (hval 0 33 v0 rfl rfl) h0
  obtain ⟨n0, rfl, b0⟩ := bounds_u64 w0
  obtain ⟨a1, rfl, rfl, rfl, w1⟩ := open_int Try.underlying33 (hval 1 33 v1 rfl rfl) h1
  obtain ⟨n1, rfl, b1⟩ := bounds_u64 w1
  exact walk n0 n1 W b0 b1

set_option maxRecDepth 100000 in
theorem lifted (os : Os) (started : os.Started) (H : Type) (enc : TypeId × Value → H) :
    ReturnsInHanded {} Try.checked os 8 .any (Rows.packOrderSpec.pre6 enc Try.prog Try.f8 Rows.packOrderRow.domain false) (Rows.packOrderSpec.post enc Try.prog Try.f8 false true false false) := by
  refine returnsInHanded_of_change (C := Try.checked) own started (by kernel_rfl) Try.func8
    (ChangeSpec.witness6 (enc := enc) (C := Try.checked) false ⟨#[], #[.int .u64 0, .int .u64 0], []⟩ 8 (by kernel_rfl) (by kernel_rfl) (by kernel_rfl) (by kernel_rfl)) ?_
  intro W base args ds gs before hval hW _ _
  exact contract H enc W base args ds gs before hval hW

/-- THE STATEMENT. -/
theorem said : Rows.PackOrderSaid :=
  OpenClaim.holds_of_wide 8 Try.f8 rfl rfl rfl rfl rfl rfl rfl ⟨rfl, rfl, rfl, rfl, rfl⟩ rfl rfl rfl rfl rfl (by kernel_rfl) Try.func8 (by kernel_rfl)
    (of_decide_eq_true (by kernel_rfl)) (by unfold Func.isWrapper; first | (rw [if_pos (by decide +kernel)]; kernel_rfl) | (rw [if_neg (by decide +kernel)]; exact ⟨rfl, rfl⟩))
    (fun os started H enc _ => lifted os started H enc)
#print axioms said
end Go.Proofs.Ytkfkaijaenjngaa.packOrder
