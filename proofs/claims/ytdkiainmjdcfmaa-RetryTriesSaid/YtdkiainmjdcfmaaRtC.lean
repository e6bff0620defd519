/-
  Law 13's awake; low bits; remainders. No condition.
-/
import Derived.Test.YtdkiainmjdcfmaaRtB
import Derived.Test.YtdkiainmjdcfmaaTkT
namespace Go.Proofs.Ytdkiainmjdcfmaa
open Go.RowKit

theorem cells_i : Try.prog.cellsOf 3 = 1 := by kernel_rfl
/-- Low bits. -/
def lo (x : Int) (n : Nat) : Nat := (x % (n : Int)).toNat
theorem lo_lt (x : Int) (n : Nat) (h : 0 < n) : lo x n < n := by
  unfold lo
  have := Int.emod_nonneg x (show (n : Int) ≠ 0 by omega)
  have := Int.emod_lt_of_pos x (show (0 : Int) < (n : Int) by omega)
  omega
theorem and_mask (x : Int) (c : Int) (k : Nat) (hk : k ≤ 40) (hm : (BitVec.ofInt 64 c).toNat = 2 ^ k - 1) : bits .and .i64 x c = (lo x (2 ^ k) : Int) := by
  have key : (BitVec.ofInt 64 x &&& BitVec.ofInt 64 c).toNat = (x % ((2 ^ 64 : Nat) : Int)).toNat % 2 ^ k := by
    rw [BitVec.toNat_and, BitVec.toNat_ofInt, hm, Nat.and_two_pow_sub_one_eq_mod]
  show IntKind.i64.wrap ((BitVec.ofInt 64 x &&& BitVec.ofInt 64 c).toNat : Nat) = _
  have hp : 2 ^ k ≤ 2 ^ 40 := Nat.pow_le_pow_right (by decide) hk
  have hlt : (x % ((2 ^ 64 : Nat) : Int)).toNat % 2 ^ k < 2 ^ k := Nat.mod_lt _ (Nat.two_pow_pos k)
  rw [key, IntKind.wrap_i64]
  have e : (((x % ((2 ^ 64 : Nat) : Int)).toNat % 2 ^ k : Nat) : Int) = (lo x (2 ^ k) : Int) := by
    unfold lo
    have h0 := Int.emod_nonneg x (show ((2 ^ 64 : Nat) : Int) ≠ 0 by decide)
    have h1 := Int.emod_nonneg x (show ((2 ^ k : Nat) : Int) ≠ 0 by have := Nat.two_pow_pos k; omega)
    rw [Int.natCast_emod, Int.toNat_of_nonneg h0, Int.toNat_of_nonneg h1]
    refine Int.emod_emod_of_dvd x ?_
    exact Int.natCast_dvd_natCast.2 (Nat.pow_dvd_pow 2 (by omega))
  rw [← e]
  omega
theorem and15 (x : Int) : bits .and .i64 x 15 = (lo x 16 : Int) := and_mask x 15 4 (by decide) (by decide)
theorem and127 (x : Int) : bits .and .i64 x 127 = (lo x 128 : Int) := and_mask x 127 7 (by decide) (by decide)
theorem and255 (x : Int) : bits .and .i64 x 255 = (lo x 256 : Int) := and_mask x 255 8 (by decide) (by decide)
theorem and40 (x : Int) : bits .and .i64 x 1099511627775 = (lo x 1099511627776 : Int) := and_mask x 1099511627775 40 (by decide) (by decide)
/-- A remainder made positive. -/
theorem rem_pos (q : Int) (M : Nat) (h0 : 0 < M) (hM : M ≤ 1000000) : ∃ m : Nat, m < M ∧ IntKind.i64.wrap (q.tmod (M : Int)) = q.tmod (M : Int) ∧ IntKind.i64.wrap (q.tmod (M : Int) + (M : Int)) = q.tmod (M : Int) + (M : Int) ∧ (q.tmod (M : Int) + (M : Int)).tmod (M : Int) = (m : Int) := by
  have h1 := Int.tmod_lt_of_pos q (show (0 : Int) < (M : Int) by omega)
  have h2 : -(M : Int) < q.tmod (M : Int) := by
    have := Int.tmod_lt_of_pos (-q) (show (0 : Int) < (M : Int) by omega)
    rw [Int.neg_tmod] at this
    omega
  generalize q.tmod (M : Int) = t at h1 h2
  refine ⟨((t + (M : Int)) % (M : Int)).toNat, ?_, by rw [IntKind.wrap_i64]; omega, by rw [IntKind.wrap_i64]; omega, ?_⟩
  · have := Int.emod_nonneg (t + (M : Int)) (show (M : Int) ≠ 0 by omega)
    have := Int.emod_lt_of_pos (t + (M : Int)) (show (0 : Int) < (M : Int) by omega)
    omega
  · have := Int.emod_nonneg (t + (M : Int)) (show (M : Int) ≠ 0 by omega)
    rw [Int.tmod_eq_emod_of_nonneg (by omega)]
    omega
theorem rem_le (q : Int) : -2000 < q.tmod 2000 ∧ q.tmod 2000 < 2000 := by
  have h1 := Int.tmod_lt_of_pos q (show (0 : Int) < 2000 by omega)
  have := Int.tmod_lt_of_pos (-q) (show (0 : Int) < 2000 by omega)
  rw [Int.neg_tmod] at this
  omega
set_option maxRecDepth 100000 in
set_option maxHeartbeats 2000000 in
theorem awake_any (w : World) : Calls Try.prog 8 #[] w fun e w' => e = .returned (.bool true) ∧ Below w.heap.size w w' := by
  have H1 := Lib.hid (fun W => delay_any 1 (by omega) W)
  have H4 := Lib.hid (fun W => delay_any 4 (by omega) W)
  have H8 := Lib.hid (fun W => delay_any 8 (by omega) W)
  have H9 := Lib.hid (fun W => delay_any 99 (by omega) W)
  have HS := Lib.hid (fun W => sum_any 1 7 (by omega) (by omega) W)
  rw [show dlI 1 = 1 by decide] at H1
  rw [show dlI 4 = 8 by decide] at H4
  rw [show dlI 8 = 64 by decide] at H8
  rw [show dlI 99 = 64 by decide] at H9
  rw [show sumI 1 7 = 127 by decide] at HS
  go_enter Try.func8, Try.ntmps8
  go_wp2_with fail
  refine (H1.out _).mono ?_
  rintro e w1 ⟨rfl, hb1⟩
  have HB1 := Lib.hid hb1
  clear hb1
  go_wp2_with fail
  refine (H4.out _).mono ?_
  rintro e w2 ⟨rfl, hb2⟩
  have HB2 := Lib.hid (HB1.out.trans (hb2.mono HB1.out.size))
  clear hb2
  go_wp2_with fail
  refine (H8.out _).mono ?_
  rintro e w3 ⟨rfl, hb3⟩
  have HB3 := Lib.hid (HB2.out.trans (hb3.mono HB2.out.size))
  clear hb3
  go_wp2_with fail
  refine (H9.out _).mono ?_
  rintro e w4 ⟨rfl, hb4⟩
  have HB4 := Lib.hid (HB3.out.trans (hb4.mono HB3.out.size))
  clear hb4
  go_wp2_with fail
  refine (HS.out _).mono ?_
  rintro e w5 ⟨rfl, hb5⟩
  have HB5 := Lib.hid (HB4.out.trans (hb5.mono HB4.out.size))
  clear hb5
  go_wp2_with fail
  go_ret
  exact ⟨rfl, HB5.out⟩
end Go.Proofs.Ytdkiainmjdcfmaa
