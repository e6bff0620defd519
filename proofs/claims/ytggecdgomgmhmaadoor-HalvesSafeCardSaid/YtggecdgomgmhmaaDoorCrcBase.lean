/-
  What the walks over package crc lean on: a register as the number that it is (R), and what the operations on uint32 make of it. No condition.
-/
import Derived.WalkKit
import Derived.Test.YtggecdgomgmhmaaDoorCrc
namespace Go.Proofs.YtggecdgomgmhmaaDoor
open Go.RowKit

/-- A register as a number. -/
def R (r : BitVec 32) : Int := (r.toNat : Int)

theorem R_nonneg (r : BitVec 32) : 0 ≤ R r := by unfold R; omega
theorem R_lt (r : BitVec 32) : R r < 4294967296 := by have := r.isLt; unfold R; omega
theorem R_inj {a b : BitVec 32} (h : R a = R b) : a = b := by
  unfold R at h
  exact BitVec.eq_of_toNat_eq (by omega)
theorem R_eq_iff (a b : BitVec 32) : R a = R b ↔ a = b := ⟨R_inj, fun h => by rw [h]⟩

theorem R_xor (a b : BitVec 32) : bits .xor .u32 (R a) (R b) = R (a ^^^ b) := by
  unfold R
  rw [u32_xor_nat _ _ a.isLt b.isLt, BitVec.toNat_xor]
theorem R_and (a b : BitVec 32) : bits .and .u32 (R a) (R b) = R (a &&& b) := by
  unfold R
  rw [u32_and_nat _ _ a.isLt b.isLt, BitVec.toNat_and]
theorem R_shr (a : BitVec 32) (k : Nat) : R a / ((2 ^ k : Nat) : Int) = R (a >>> k) := by
  unfold R
  rw [BitVec.toNat_ushiftRight, Nat.shiftRight_eq_div_pow]
  exact (Int.natCast_ediv _ _).symm
theorem R_half (a : BitVec 32) : R a / (2 : Int) = R (a >>> 1) := R_shr a 1
theorem R_16 (a : BitVec 32) : R a / (16 : Int) = R (a >>> 4) := R_shr a 4
theorem R_poly (a : BitVec 32) : bits .xor .u32 (R a) 3988292384 = R (a ^^^ Crc.poly) := R_xor a Crc.poly
theorem R_ones (a : BitVec 32) : bits .xor .u32 (R a) 4294967295 = R (a ^^^ Crc.ones) := R_xor a Crc.ones
theorem ones_R : (4294967295 : Int) = R Crc.ones := rfl
theorem R_15 (a : BitVec 32) : bits .and .u32 (R a) 15 = R (a &&& 15#32) := R_and a 15#32
theorem R_1 (a : BitVec 32) : bits .and .u32 (R a) 1 = R (a &&& 1#32) := R_and a 1#32

theorem R_low (a : BitVec 32) : R (a &&& 1#32) = if a.getLsbD 0 then 1 else 0 := by
  unfold R
  rw [BitVec.toNat_and, show (1#32).toNat = 1 from rfl, nat_mask1]
  have : a.getLsbD 0 = decide (a.toNat % 2 = 1) := by
    rw [BitVec.getLsbD, Nat.testBit_zero]
  rw [this]
  by_cases h : a.toNat % 2 = 1
  · simp [h]
  · have h0 : a.toNat % 2 = 0 := by omega
    simp [h0]

theorem R_bit (a : BitVec 32) (i : Nat) (h : i < 32) : R (a &&& (Crc.one >>> i)) = if a.getLsbD (31 - i) then R (Crc.one >>> i) else 0 := by
  have e : ∀ j : Fin 32, Crc.one >>> j.val = BitVec.twoPow 32 (31 - j.val) := by decide
  have e' : Crc.one >>> i = BitVec.twoPow 32 (31 - i) := e ⟨i, h⟩
  rw [e', BitVec.and_twoPow]
  split
  · rfl
  · rfl
theorem R_bit_pos (i : Nat) (h : i < 32) : 0 < R (Crc.one >>> i) := by
  have e : ∀ j : Fin 32, 0 < (Crc.one >>> j.val).toNat := by decide
  have := e ⟨i, h⟩
  unfold R
  exact Int.natCast_pos.2 this
theorem bit_32 : R (Crc.one >>> 32) = 0 := by decide
theorem bit_succ (i : Nat) : (Crc.one >>> i) >>> 1 = Crc.one >>> (i + 1) := (BitVec.shiftRight_add _ _ _).symm

theorem ret_u32 {a b : BitVec 32} (h : a = b) : Ending.returned (.int .u32 (R a)) = .returned (.int .u32 (R b)) := by rw [h]
end Go.Proofs.YtggecdgomgmhmaaDoor
