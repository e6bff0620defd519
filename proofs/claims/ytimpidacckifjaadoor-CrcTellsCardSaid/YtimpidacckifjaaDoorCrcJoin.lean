/-
  Contracts of crc.shift, crc.multiply and crc.Join at every argument: what each returns, in terms of the shift; none touches memory. No condition.
-/
import Derived.Test.YtimpidacckifjaaDoorRows
import Derived.Test.YtimpidacckifjaaDoorCrcBase
namespace Go.Proofs.YtimpidacckifjaaDoor
open Go.RowKit

theorem shift_any (r : BitVec 32) (w : World) :
    Calls Tryd.prog 26 #[.int .u32 (R r)] w fun e w' => e = .returned (.int .u32 (R (Crc.sh r))) ∧ w = w' := by
  have h1 := R_1 r
  rw [R_low] at h1
  have hh := R_half r
  have hp := R_poly (r >>> 1)
  cases hb : r.getLsbD 0
  · rw [hb, if_neg (by simp)] at h1
    have HS : Hid (Crc.sh r = r >>> 1) := Crc.sh_even hb
    clear hb hp
    go_enter Tryd.func26, Tryd.ntmps26
    go_wp2
    go_ret
    exact ⟨ret_u32 HS.out.symm, rfl⟩
  · rw [hb, if_pos rfl] at h1
    have HS : Hid (Crc.sh r = r >>> 1 ^^^ Crc.poly) := Crc.sh_odd hb
    clear hb
    go_enter Tryd.func26, Tryd.ntmps26
    go_wp2
    go_ret
    exact ⟨ret_u32 HS.out.symm, rfl⟩

theorem multiply_any (a b : BitVec 32) (w : World) :
    Calls Tryd.prog 24 #[.int .u32 (R a), .int .u32 (R b)] w fun e w' => e = .returned (.int .u32 (R (Crc.mul a b))) ∧ w = w' := by
  go_enter Tryd.func24, Tryd.ntmps24
  go_wp2
  go_loop [1, 5, 6] (fun t1 t5 t6 => ∃ i : Nat, i ≤ 32 ∧ t1 = .int .u32 (R (Crc.shN i b)) ∧ t5 = .int .u32 (R (Crc.prodN a b i)) ∧ t6 = .int .u32 (R (Crc.one >>> i))) (fun _ _ t6 => (intOf t6).toNat)
  case atStart => exact ⟨0, by omega, rfl, rfl, rfl⟩
  case round =>
    obtain ⟨i, hi, rfl, rfl, rfl⟩ := hrel
    by_cases hlt : i < 32
    · have hpos := R_bit_pos i hlt
      have hand := R_and a (Crc.one >>> i)
      rw [R_bit a i hlt] at hand
      have hh := R_half (Crc.one >>> i)
      rw [bit_succ] at hh
      have HM : Hid (R (Crc.one >>> (i + 1)) < R (Crc.one >>> i)) := by rw [← bit_succ, ← R_half]; show R (Crc.one >>> i) / 2 < R (Crc.one >>> i); omega
      have hn := R_nonneg (Crc.one >>> (i + 1))
      cases hb : a.getLsbD (31 - i)
      · rw [hb, if_neg (by simp)] at hand
        have HP : Hid (Crc.prodN a b (i + 1) = Crc.prodN a b i) := by show Crc.prodN a b (i + 1) = _; simp [Crc.prodN, hb]
        clear hb
        go_wp2_with (go_at_call 26; refine (shift_any _ _).mono ?_; rintro e w' ⟨rfl, rfl⟩)
        go_round
        case rel => exact ⟨i + 1, by omega, rfl, by rw [HP.out], rfl⟩
        case measure => have := HM.out; simp [intOf]; omega
      · rw [hb, if_pos rfl] at hand
        have hx := R_xor (Crc.prodN a b i) (Crc.shN i b)
        have hne : (R (Crc.one >>> i) != 0) = true := by simp; omega
        have HP : Hid (Crc.prodN a b (i + 1) = Crc.prodN a b i ^^^ Crc.shN i b) := by show Crc.prodN a b (i + 1) = _; simp [Crc.prodN, hb]
        clear hb
        go_wp2_with (go_at_call 26; refine (shift_any _ _).mono ?_; rintro e w' ⟨rfl, rfl⟩)
        go_round
        case rel => exact ⟨i + 1, by omega, rfl, by rw [HP.out], rfl⟩
        case measure => have := HM.out; simp [intOf]; omega
    · obtain rfl : i = 32 := by omega
      have h0 := bit_32
      go_wp2
      go_ret
      exact ⟨rfl, rfl⟩

theorem i64_and1 (k : Nat) (h : k ≤ 9223372036854775807) : bits .and .i64 (k : Int) 1 = ((k % 2 : Nat) : Int) := by
  have h1 : (BitVec.ofInt 64 1).toNat = 2 ^ 1 - 1 := by decide
  have key : (BitVec.ofInt 64 (k : Int) &&& BitVec.ofInt 64 1).toNat = ((k : Int) % ((2 ^ 64 : Nat) : Int)).toNat % 2 ^ 1 := by
    rw [BitVec.toNat_and, BitVec.toNat_ofInt, h1, Nat.and_two_pow_sub_one_eq_mod]
  show IntKind.i64.wrap ((BitVec.ofInt 64 (k : Int) &&& BitVec.ofInt 64 1).toNat : Nat) = _
  rw [key, IntKind.wrap_i64]
  omega

/-- What is left to shift, and by what: the relation of the loop of Join. -/
def JoinRel (a : BitVec 32) (n : Nat) (t0 t2 t7 : Value) : Prop :=
  ∃ (m k : Nat) (x : BitVec 32), k ≤ n ∧ t0 = .int .u32 (R x) ∧ t2 = .int .i64 (k : Int) ∧ t7 = .int .u32 (R (Crc.shN m Crc.one)) ∧ Crc.shN (m * k) x = Crc.shN (8 * n) a

theorem join_pos (a b : BitVec 32) (n : Nat) (hn : n ≤ 9223372036854775807) (w : World) :
    Calls Tryd.prog 17 #[.int .u32 (R a), .int .u32 (R b), .int .i64 (n : Int)] w fun e w' => e = .returned (.int .u32 (R (Crc.join a b n))) ∧ w = w' := by
  go_enter Tryd.func17, Tryd.ntmps17
  go_wp2
  go_loop [0, 2, 7] (JoinRel a n) (fun _ t2 _ => (intOf t2).toNat)
  case atStart => exact ⟨8, n, a, Nat.le_refl _, rfl, rfl, rfl, rfl⟩
  case round =>
    obtain ⟨m, k, x, hk, rfl, rfl, rfl, hx⟩ := hrel
    have HX : Hid (Crc.shN (m * k) x = Crc.shN (8 * n) a) := hx
    clear hx
    by_cases hlt : 0 < k
    · have hand := i64_and1 k (by omega)
      rcases Nat.mod_two_eq_zero_or_one k with h2 | h2
      · rw [h2] at hand
        have HY := Hid.out HX
        rw [Crc.join_even m k x h2] at HY
        have HZ : Hid (Crc.shN (2 * m * (k / 2)) x = Crc.shN (8 * n) a) := HY
        clear HY HX h2
        go_wp2_with (go_at_call 24; refine (multiply_any _ _ _).mono ?_; rintro e w' ⟨rfl, rfl⟩)
        go_round
        case rel => exact ⟨2 * m, k / 2, x, by omega, rfl, by go_num, by rw [Crc.square], HZ.out⟩
        case measure => simp [intOf]; omega
      · rw [h2] at hand
        have HY := Hid.out HX
        rw [Crc.join_odd m k x h2] at HY
        have HZ : Hid (Crc.shN (2 * m * (k / 2)) (Crc.mul x (Crc.shN m Crc.one)) = Crc.shN (8 * n) a) := HY
        clear HY HX h2
        go_wp2_with (go_at_call 24; refine (multiply_any _ _ _).mono ?_; rintro e w' ⟨rfl, rfl⟩)
        go_round
        case rel => exact ⟨2 * m, k / 2, _, by omega, rfl, by go_num, by rw [Crc.square], HZ.out⟩
        case measure => simp [intOf]; omega
    · obtain rfl : k = 0 := by omega
      have hx := R_xor x b
      have HZ := Hid.out HX
      rw [Nat.mul_zero] at HZ
      have HW : Hid (x = Crc.shN (8 * n) a) := HZ
      clear HX HZ
      go_wp2
      go_ret
      exact ⟨ret_u32 (by rw [HW.out]; rfl), rfl⟩

theorem join_neg (a b : BitVec 32) (n : Int) (hn : n ≤ 0) (w : World) :
    Calls Tryd.prog 17 #[.int .u32 (R a), .int .u32 (R b), .int .i64 n] w fun e w' => e = .returned (.int .u32 (R (a ^^^ b))) ∧ w = w' := by
  have hx := R_xor a b
  go_enter Tryd.func17, Tryd.ntmps17
  go_wp2
  refine wp_loop_rounds 1 ?_
  rw [rounds_succ]
  go_wp2
  go_ret
  exact ⟨rfl, rfl⟩

/-- Join at every length. -/
theorem join_at (a b : BitVec 32) (n : Int) (hn : n ≤ 9223372036854775807) (w : World) :
    Calls Tryd.prog 17 #[.int .u32 (R a), .int .u32 (R b), .int .i64 n] w fun e w' => e = .returned (.int .u32 (R (Crc.join a b n.toNat))) ∧ w = w' := by
  by_cases h : n ≤ 0
  · rw [Int.toNat_eq_zero.2 h]
    exact join_neg a b n h w
  · obtain ⟨k, rfl⟩ : ∃ k : Nat, n = (k : Int) := ⟨n.toNat, by omega⟩
    exact join_pos a b k (by omega) w
theorem join_zero (a : BitVec 32) (n : Int) (hn : n ≤ 9223372036854775807) (w : World) :
    Calls Tryd.prog 17 #[.int .u32 (R a), .int .u32 0, .int .i64 n] w fun e w' => e = .returned (.int .u32 (R (Crc.join a 0#32 n.toNat))) ∧ w = w' :=
  join_at a 0#32 n hn w
end Go.Proofs.YtimpidacckifjaaDoor
