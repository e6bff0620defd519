/-
  Contracts of the document's own Clock, Delay and Next (layers 10, 13). No condition.
-/
import Derived.LoopTactic
import Derived.Test.YtdkiainmjdcfmaaWrd
import Derived.Test.YtdkiainmjdcfmaaMi
import Derived.Test.YtdkiainmjdcfmaaRt
namespace Go.Proofs.Ytdkiainmjdcfmaa
open Go.RowKit

/-- What the calls tell, of any numbers. -/
def dlI (n : Int) : Int := (Rt.dl n.toNat : Int)
def sumI (a b : Int) : Int := (Rt.sum (max a 1).toNat (min b 1000000).toNat : Int)
def withinI (t e : Int) : Int := if t < 1 then 0 else sumI 1 (min t 1000000) + min t 1000000 * (max 1 (min e 1000000) - 1)
def triesI (t : Int) : Int := if t < 0 then 0 else (Rt.tries t.toNat : Int)
theorem dlI_le (n : Int) : 0 ≤ dlI n ∧ dlI n ≤ 64 := by
  unfold dlI
  have := Rt.dl_le n.toNat
  omega
theorem dlI_none (n : Int) (h : n < 1) : dlI n = 0 := by
  unfold dlI
  rw [show n.toNat = 0 by omega]
  rfl
theorem dl_low (k : Nat) (h : Rt.dl k < 64) : k ≤ 6 ∧ Rt.dl k ≤ 32 := by
  rcases Nat.lt_or_ge k 7 with h7 | h7
  · refine ⟨by omega, ?_⟩
    rcases (show k = 0 ∨ k = 1 ∨ k = 2 ∨ k = 3 ∨ k = 4 ∨ k = 5 ∨ k = 6 by omega) with rfl | rfl | rfl | rfl | rfl | rfl | rfl <;> decide
  · have := Rt.dl_great k h7
    omega
theorem dl_mono {a b : Nat} (h : a ≤ b) : Rt.dl a ≤ Rt.dl b := by
  obtain ⟨d, rfl⟩ : ∃ d, b = a + d := ⟨b - a, by omega⟩
  clear h
  induction d with
  | zero => exact Nat.le_refl _
  | succ d ih => exact Nat.le_trans ih (Rt.dl_rises (a + d))
theorem sum_le (a b : Nat) : Rt.sum a b ≤ 64 * b := by
  unfold Rt.sum
  have := Rt.sm_le b
  split <;> omega
theorem sumI_le (a b : Int) : 0 ≤ sumI a b ∧ sumI a b ≤ 64000000 := by
  unfold sumI
  have := sum_le (max a 1).toNat (min b 1000000).toNat
  omega
theorem rclock_any (n t : Int) (hn : -9223372036854775808 ≤ n ∧ n ≤ 9223372036854775807) (ht : -9223372036854775808 ≤ t ∧ t ≤ 9223372036854775807) (w : World) :
    Calls Try.prog 20 #[.int .i64 n, .int .i64 t] w fun e w' => e = .returned (.int .i64 (Mi.clock n t)) ∧ w = w' := by
  by_cases h1 : n < 0
  · rw [Mi.clock_neg n t (.inl h1)]
    go_enter Try.func20, Try.ntmps20
    go_wp2_with fail
    go_ret
    exact ⟨rfl, rfl⟩
  · by_cases h2 : t < 0
    · rw [Mi.clock_neg n t (.inr h2)]
      go_enter Try.func20, Try.ntmps20
      go_wp2_with fail
      go_ret
      exact ⟨rfl, rfl⟩
    · have hw1 : IntKind.i64.wrap (1099511627776 - t) = 1099511627776 - t := by rw [IntKind.wrap_i64]; omega
      by_cases h3 : n + t ≤ 1099511627776
      · rw [Mi.clock_low n t (by omega) (by omega) h3]
        have h4 : ¬ (1099511627776 - t < n) := by omega
        have h5 : ¬ (1099511627776 < t) := by omega
        have hw2 : IntKind.i64.wrap (n + t) = n + t := by rw [IntKind.wrap_i64]; omega
        go_enter Try.func20, Try.ntmps20
        go_wp2_with fail
        go_ret
        exact ⟨rfl, rfl⟩
      · rw [Mi.clock_high n t (by omega) (by omega) h3]
        have h4 : 1099511627776 - t < n := by omega
        go_enter Try.func20, Try.ntmps20
        go_wp2_with fail
        go_ret
        exact ⟨rfl, rfl⟩
set_option maxRecDepth 100000 in
set_option maxHeartbeats 2000000 in
theorem rdelay_any (n : Int) (_hn : -9223372036854775808 ≤ n ∧ n ≤ 9223372036854775807) (w : World) :
    Calls Try.prog 10 #[.int .i64 n] w fun e w' => e = .returned (.int .i64 (dlI n)) ∧ w = w' := by
  by_cases h1 : n < 1
  · rw [dlI_none n h1]
    go_enter Try.func10, Try.ntmps10
    go_wp2_with fail
    go_ret
    exact ⟨rfl, rfl⟩
  · obtain ⟨N, rfl⟩ : ∃ N : Nat, n = (N : Int) := ⟨n.toNat, by omega⟩
    obtain ⟨r, hr⟩ : ∃ r, Rt.dl N = r := ⟨_, rfl⟩
    have hd : dlI (N : Int) = (r : Int) := by unfold dlI; rw [Int.toNat_natCast, hr]
    rw [hd]
    have HR := Lib.hid hr
    clear hr hd
    go_enter Try.func10, Try.ntmps10
    go_wp2_with fail
    go_loop [3, 4] (fun v i => ∃ k m : Nat, v = .int .i64 (m : Int) ∧ i = .int .i64 (k : Int) ∧ Rt.dl k = m ∧ 1 ≤ k ∧ k ≤ N) (fun _ i => N - (intOf i).toNat)
    case atStart => exact ⟨1, 1, rfl, rfl, rfl, by omega, by omega⟩
    case round =>
      obtain ⟨k, m, rfl, rfl, hm, hk1, hkN⟩ := hrel
      have h64 := Rt.dl_le k
      by_cases c1 : k < N
      · have hc1 : (k : Int) < (N : Int) := by omega
        by_cases c2 : m < 64
        · have hc2 : (m : Int) < 64 := by omega
          have hlow := dl_low k (by omega)
          have hst := Rt.dl_step k hk1
          have HS : Hid (Rt.dl (k + 1) = 2 * m) := Lib.hid (by omega)
          have hm32 : m ≤ 32 := by omega
          clear hm h64 hlow hst c2
          go_wp2_with fail
          go_round
          case rel => exact ⟨k + 1, 2 * m, by go_num, by go_num, HS.out, by omega, by omega⟩
          case measure => simp [intOf]; omega
        · have hc2 : ¬ (m : Int) < 64 := by omega
          have HX : Hid ((m : Int) = (r : Int)) := Lib.hid (by
            have h2 := dl_mono (show k ≤ N by omega)
            have h3 := Rt.dl_le N
            have := HR.out
            omega)
          clear hm h64 c2
          go_wp2_with fail
          go_ret
          exact ⟨congrArg (fun z : Int => Ending.returned (.int .i64 z)) HX.out, rfl⟩
      · have e : k = N := by omega
        subst e
        have hc1 : ¬ (k : Int) < (k : Int) := by omega
        have HX : Hid ((m : Int) = (r : Int)) := Lib.hid (by have := HR.out; omega)
        clear hm h64 hkN c1
        go_wp2_with fail
        go_ret
        exact ⟨congrArg (fun z : Int => Ending.returned (.int .i64 z)) HX.out, rfl⟩
theorem rnext_any (t n : Int) (ht : -9223372036854775808 ≤ t ∧ t ≤ 9223372036854775807) (hn : -9223372036854775808 ≤ n ∧ n ≤ 9223372036854775807) (w : World) :
    Calls Try.prog 12 #[.int .i64 t, .int .i64 n] w fun e w' => e = .returned (.int .i64 (Mi.clock t (dlI n))) ∧ w = w' := by
  have HD := Lib.hid (rdelay_any n hn w)
  have hdl := dlI_le n
  generalize dlI n = d at HD hdl ⊢
  have HC := Lib.hid (rclock_any t d ht (by omega) w)
  go_enter Try.func12, Try.ntmps12
  go_wp2_with fail
  refine HD.out.mono ?_
  rintro e w1 ⟨rfl, rfl⟩
  go_wp2_with fail
  refine HC.out.mono ?_
  rintro e w2 ⟨rfl, rfl⟩
  go_wp2_with fail
  go_ret
  exact ⟨rfl, rfl⟩
end Go.Proofs.Ytdkiainmjdcfmaa
