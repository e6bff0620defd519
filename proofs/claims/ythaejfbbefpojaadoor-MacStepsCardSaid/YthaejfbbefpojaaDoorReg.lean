/-
  Words of 32 bits as numbers: what the operations on uint32 make of them, without their sum. No condition.
-/
import Derived.WalkKit
import Derived.IntWalk
import Derived.Test.YthaejfbbefpojaaDoorRows
import Derived.Test.YthaejfbbefpojaaDoorSh
namespace Go.Proofs.YthaejfbbefpojaaDoor
open Go.RowKit

/-- A register as a number. -/
def R (r : BitVec 32) : Int := (r.toNat : Int)
theorem R_nonneg (r : BitVec 32) : 0 ≤ R r := by unfold R; omega
theorem R_lt (r : BitVec 32) : R r < 4294967296 := by have := r.isLt; unfold R; omega
theorem R_inj {a b : BitVec 32} (h : R a = R b) : a = b := by
  unfold R at h
  exact BitVec.eq_of_toNat_eq (by omega)
theorem R_xor (a b : BitVec 32) : bits .xor .u32 (R a) (R b) = R (a ^^^ b) := by
  unfold R
  rw [u32_xor_nat _ _ a.isLt b.isLt, BitVec.toNat_xor]
theorem R_and (a b : BitVec 32) : bits .and .u32 (R a) (R b) = R (a &&& b) := by
  unfold R
  rw [u32_and_nat _ _ a.isLt b.isLt, BitVec.toNat_and]
theorem R_or (a b : BitVec 32) : bits .or .u32 (R a) (R b) = R (a ||| b) := by
  unfold R
  rw [u32_or_nat _ _ a.isLt b.isLt, BitVec.toNat_or]
theorem R_add (a b : BitVec 32) : (R a + R b) % 4294967296 = R (a + b) := by
  unfold R
  rw [BitVec.toNat_add]
  omega
theorem R_shr (a : BitVec 32) (k : Nat) : R a / ((2 ^ k : Nat) : Int) = R (a >>> k) := by
  unfold R
  rw [BitVec.toNat_ushiftRight, Nat.shiftRight_eq_div_pow]
  exact (Int.natCast_ediv _ _).symm
theorem R_shl (a : BitVec 32) (k : Nat) : (R a * ((2 ^ k : Nat) : Int)) % 4294967296 = R (a <<< k) := by
  unfold R
  rw [BitVec.toNat_shiftLeft, Nat.shiftLeft_eq]
  omega
theorem R_not (a : BitVec 32) : 4294967295 - R a = R (~~~ a) := by
  unfold R
  rw [BitVec.toNat_not]
  have := a.isLt
  omega
theorem ret_u32 {a b : BitVec 32} (h : a = b) : Ending.returned (.int .u32 (R a)) = .returned (.int .u32 (R b)) := by rw [h]
/-- Words as values. -/
def ru (l : Sh.V) : Array Value := (l.map fun x => Value.int .u32 (R x)).toArray
theorem ru_size (l : Sh.V) : (ru l).size = l.length := by simp [ru]
theorem ru_get (l : Sh.V) (i : Nat) (h : i < l.length) : (ru l)[i]? = some (.int .u32 (R l[i])) := by simp [ru, h]
theorem ru_getD (l : Sh.V) (i : Nat) (h : i < l.length) : (ru l)[i]? = some (.int .u32 (R (l.getD i 0))) := by simp [ru, h]
theorem ru_one (l : Sh.V) : (ru l).all (·.oneCell') = true := by
  simp [ru, Value.oneCell']
theorem ru_set (l : Sh.V) (i : Nat) (x : BitVec 32) : (ru l).setIfInBounds i (.int .u32 (R x)) = ru (l.set i x) := by
  simp [ru, List.map_set]

def turns : List Nat := [2, 6, 7, 11, 13, 17, 18, 19, 22, 25]
set_option maxHeartbeats 1000000 in
theorem rot_2 (x : BitVec 32) (w : World) :
    Calls Tryd.prog 50 #[.int .u32 (R x), .int .i64 2] w fun e w' => e = .returned (.int .u32 (R (Sh.rr x 2))) ∧ w' = w := by
  have hb : bits BinOp.and IntKind.u64 (IntKind.u64.wrap (-2)) 31 = 30 := by decide
  have r1 : R x * (1073741824 : Int) % (4294967296 : Int) = R (x <<< 30) := R_shl x 30
  have r2 : R x / (4 : Int) = R (x >>> 2) := R_shr x 2
  have r3 : bits .or .u32 (R (x <<< 30)) (R (x >>> 2)) = R (Sh.rr x 2) := by rw [R_or, BitVec.or_comm]; rfl
  have r4 : bits .or .u32 (R (x >>> 2)) (R (x <<< 30)) = R (Sh.rr x 2) := R_or _ _
  go_enter Tryd.func50, Tryd.ntmps50
  go_wp2
  go_ret
  exact ⟨rfl, rfl⟩
set_option maxHeartbeats 1000000 in
theorem turn_2 (x : BitVec 32) (w : World) :
    Calls Tryd.prog 52 #[.int .u32 (R x), .int .i64 2] w fun e w' => e = .returned (.int .u32 (R (Sh.rr x 2))) ∧ w' = w := by
  have r1 : R x * (1073741824 : Int) % (4294967296 : Int) = R (x <<< 30) := R_shl x 30
  have r2 : R x / (4 : Int) = R (x >>> 2) := R_shr x 2
  have r3 : bits .or .u32 (R (x <<< 30)) (R (x >>> 2)) = R (Sh.rr x 2) := by rw [R_or, BitVec.or_comm]; rfl
  have r4 : bits .or .u32 (R (x >>> 2)) (R (x <<< 30)) = R (Sh.rr x 2) := R_or _ _
  go_enter Tryd.func52, Tryd.ntmps52
  go_wp2
  go_ret
  exact ⟨rfl, rfl⟩
set_option maxHeartbeats 1000000 in
theorem rot_6 (x : BitVec 32) (w : World) :
    Calls Tryd.prog 50 #[.int .u32 (R x), .int .i64 6] w fun e w' => e = .returned (.int .u32 (R (Sh.rr x 6))) ∧ w' = w := by
  have hb : bits BinOp.and IntKind.u64 (IntKind.u64.wrap (-6)) 31 = 26 := by decide
  have r1 : R x * (67108864 : Int) % (4294967296 : Int) = R (x <<< 26) := R_shl x 26
  have r2 : R x / (64 : Int) = R (x >>> 6) := R_shr x 6
  have r3 : bits .or .u32 (R (x <<< 26)) (R (x >>> 6)) = R (Sh.rr x 6) := by rw [R_or, BitVec.or_comm]; rfl
  have r4 : bits .or .u32 (R (x >>> 6)) (R (x <<< 26)) = R (Sh.rr x 6) := R_or _ _
  go_enter Tryd.func50, Tryd.ntmps50
  go_wp2
  go_ret
  exact ⟨rfl, rfl⟩
set_option maxHeartbeats 1000000 in
theorem turn_6 (x : BitVec 32) (w : World) :
    Calls Tryd.prog 52 #[.int .u32 (R x), .int .i64 6] w fun e w' => e = .returned (.int .u32 (R (Sh.rr x 6))) ∧ w' = w := by
  have r1 : R x * (67108864 : Int) % (4294967296 : Int) = R (x <<< 26) := R_shl x 26
  have r2 : R x / (64 : Int) = R (x >>> 6) := R_shr x 6
  have r3 : bits .or .u32 (R (x <<< 26)) (R (x >>> 6)) = R (Sh.rr x 6) := by rw [R_or, BitVec.or_comm]; rfl
  have r4 : bits .or .u32 (R (x >>> 6)) (R (x <<< 26)) = R (Sh.rr x 6) := R_or _ _
  go_enter Tryd.func52, Tryd.ntmps52
  go_wp2
  go_ret
  exact ⟨rfl, rfl⟩
set_option maxHeartbeats 1000000 in
theorem rot_7 (x : BitVec 32) (w : World) :
    Calls Tryd.prog 50 #[.int .u32 (R x), .int .i64 7] w fun e w' => e = .returned (.int .u32 (R (Sh.rr x 7))) ∧ w' = w := by
  have hb : bits BinOp.and IntKind.u64 (IntKind.u64.wrap (-7)) 31 = 25 := by decide
  have r1 : R x * (33554432 : Int) % (4294967296 : Int) = R (x <<< 25) := R_shl x 25
  have r2 : R x / (128 : Int) = R (x >>> 7) := R_shr x 7
  have r3 : bits .or .u32 (R (x <<< 25)) (R (x >>> 7)) = R (Sh.rr x 7) := by rw [R_or, BitVec.or_comm]; rfl
  have r4 : bits .or .u32 (R (x >>> 7)) (R (x <<< 25)) = R (Sh.rr x 7) := R_or _ _
  go_enter Tryd.func50, Tryd.ntmps50
  go_wp2
  go_ret
  exact ⟨rfl, rfl⟩
set_option maxHeartbeats 1000000 in
theorem turn_7 (x : BitVec 32) (w : World) :
    Calls Tryd.prog 52 #[.int .u32 (R x), .int .i64 7] w fun e w' => e = .returned (.int .u32 (R (Sh.rr x 7))) ∧ w' = w := by
  have r1 : R x * (33554432 : Int) % (4294967296 : Int) = R (x <<< 25) := R_shl x 25
  have r2 : R x / (128 : Int) = R (x >>> 7) := R_shr x 7
  have r3 : bits .or .u32 (R (x <<< 25)) (R (x >>> 7)) = R (Sh.rr x 7) := by rw [R_or, BitVec.or_comm]; rfl
  have r4 : bits .or .u32 (R (x >>> 7)) (R (x <<< 25)) = R (Sh.rr x 7) := R_or _ _
  go_enter Tryd.func52, Tryd.ntmps52
  go_wp2
  go_ret
  exact ⟨rfl, rfl⟩
set_option maxHeartbeats 1000000 in
theorem rot_11 (x : BitVec 32) (w : World) :
    Calls Tryd.prog 50 #[.int .u32 (R x), .int .i64 11] w fun e w' => e = .returned (.int .u32 (R (Sh.rr x 11))) ∧ w' = w := by
  have hb : bits BinOp.and IntKind.u64 (IntKind.u64.wrap (-11)) 31 = 21 := by decide
  have r1 : R x * (2097152 : Int) % (4294967296 : Int) = R (x <<< 21) := R_shl x 21
  have r2 : R x / (2048 : Int) = R (x >>> 11) := R_shr x 11
  have r3 : bits .or .u32 (R (x <<< 21)) (R (x >>> 11)) = R (Sh.rr x 11) := by rw [R_or, BitVec.or_comm]; rfl
  have r4 : bits .or .u32 (R (x >>> 11)) (R (x <<< 21)) = R (Sh.rr x 11) := R_or _ _
  go_enter Tryd.func50, Tryd.ntmps50
  go_wp2
  go_ret
  exact ⟨rfl, rfl⟩
set_option maxHeartbeats 1000000 in
theorem turn_11 (x : BitVec 32) (w : World) :
    Calls Tryd.prog 52 #[.int .u32 (R x), .int .i64 11] w fun e w' => e = .returned (.int .u32 (R (Sh.rr x 11))) ∧ w' = w := by
  have r1 : R x * (2097152 : Int) % (4294967296 : Int) = R (x <<< 21) := R_shl x 21
  have r2 : R x / (2048 : Int) = R (x >>> 11) := R_shr x 11
  have r3 : bits .or .u32 (R (x <<< 21)) (R (x >>> 11)) = R (Sh.rr x 11) := by rw [R_or, BitVec.or_comm]; rfl
  have r4 : bits .or .u32 (R (x >>> 11)) (R (x <<< 21)) = R (Sh.rr x 11) := R_or _ _
  go_enter Tryd.func52, Tryd.ntmps52
  go_wp2
  go_ret
  exact ⟨rfl, rfl⟩
set_option maxHeartbeats 1000000 in
theorem rot_13 (x : BitVec 32) (w : World) :
    Calls Tryd.prog 50 #[.int .u32 (R x), .int .i64 13] w fun e w' => e = .returned (.int .u32 (R (Sh.rr x 13))) ∧ w' = w := by
  have hb : bits BinOp.and IntKind.u64 (IntKind.u64.wrap (-13)) 31 = 19 := by decide
  have r1 : R x * (524288 : Int) % (4294967296 : Int) = R (x <<< 19) := R_shl x 19
  have r2 : R x / (8192 : Int) = R (x >>> 13) := R_shr x 13
  have r3 : bits .or .u32 (R (x <<< 19)) (R (x >>> 13)) = R (Sh.rr x 13) := by rw [R_or, BitVec.or_comm]; rfl
  have r4 : bits .or .u32 (R (x >>> 13)) (R (x <<< 19)) = R (Sh.rr x 13) := R_or _ _
  go_enter Tryd.func50, Tryd.ntmps50
  go_wp2
  go_ret
  exact ⟨rfl, rfl⟩
set_option maxHeartbeats 1000000 in
theorem turn_13 (x : BitVec 32) (w : World) :
    Calls Tryd.prog 52 #[.int .u32 (R x), .int .i64 13] w fun e w' => e = .returned (.int .u32 (R (Sh.rr x 13))) ∧ w' = w := by
  have r1 : R x * (524288 : Int) % (4294967296 : Int) = R (x <<< 19) := R_shl x 19
  have r2 : R x / (8192 : Int) = R (x >>> 13) := R_shr x 13
  have r3 : bits .or .u32 (R (x <<< 19)) (R (x >>> 13)) = R (Sh.rr x 13) := by rw [R_or, BitVec.or_comm]; rfl
  have r4 : bits .or .u32 (R (x >>> 13)) (R (x <<< 19)) = R (Sh.rr x 13) := R_or _ _
  go_enter Tryd.func52, Tryd.ntmps52
  go_wp2
  go_ret
  exact ⟨rfl, rfl⟩
set_option maxHeartbeats 1000000 in
theorem rot_17 (x : BitVec 32) (w : World) :
    Calls Tryd.prog 50 #[.int .u32 (R x), .int .i64 17] w fun e w' => e = .returned (.int .u32 (R (Sh.rr x 17))) ∧ w' = w := by
  have hb : bits BinOp.and IntKind.u64 (IntKind.u64.wrap (-17)) 31 = 15 := by decide
  have r1 : R x * (32768 : Int) % (4294967296 : Int) = R (x <<< 15) := R_shl x 15
  have r2 : R x / (131072 : Int) = R (x >>> 17) := R_shr x 17
  have r3 : bits .or .u32 (R (x <<< 15)) (R (x >>> 17)) = R (Sh.rr x 17) := by rw [R_or, BitVec.or_comm]; rfl
  have r4 : bits .or .u32 (R (x >>> 17)) (R (x <<< 15)) = R (Sh.rr x 17) := R_or _ _
  go_enter Tryd.func50, Tryd.ntmps50
  go_wp2
  go_ret
  exact ⟨rfl, rfl⟩
set_option maxHeartbeats 1000000 in
theorem turn_17 (x : BitVec 32) (w : World) :
    Calls Tryd.prog 52 #[.int .u32 (R x), .int .i64 17] w fun e w' => e = .returned (.int .u32 (R (Sh.rr x 17))) ∧ w' = w := by
  have r1 : R x * (32768 : Int) % (4294967296 : Int) = R (x <<< 15) := R_shl x 15
  have r2 : R x / (131072 : Int) = R (x >>> 17) := R_shr x 17
  have r3 : bits .or .u32 (R (x <<< 15)) (R (x >>> 17)) = R (Sh.rr x 17) := by rw [R_or, BitVec.or_comm]; rfl
  have r4 : bits .or .u32 (R (x >>> 17)) (R (x <<< 15)) = R (Sh.rr x 17) := R_or _ _
  go_enter Tryd.func52, Tryd.ntmps52
  go_wp2
  go_ret
  exact ⟨rfl, rfl⟩
set_option maxHeartbeats 1000000 in
theorem rot_18 (x : BitVec 32) (w : World) :
    Calls Tryd.prog 50 #[.int .u32 (R x), .int .i64 18] w fun e w' => e = .returned (.int .u32 (R (Sh.rr x 18))) ∧ w' = w := by
  have hb : bits BinOp.and IntKind.u64 (IntKind.u64.wrap (-18)) 31 = 14 := by decide
  have r1 : R x * (16384 : Int) % (4294967296 : Int) = R (x <<< 14) := R_shl x 14
  have r2 : R x / (262144 : Int) = R (x >>> 18) := R_shr x 18
  have r3 : bits .or .u32 (R (x <<< 14)) (R (x >>> 18)) = R (Sh.rr x 18) := by rw [R_or, BitVec.or_comm]; rfl
  have r4 : bits .or .u32 (R (x >>> 18)) (R (x <<< 14)) = R (Sh.rr x 18) := R_or _ _
  go_enter Tryd.func50, Tryd.ntmps50
  go_wp2
  go_ret
  exact ⟨rfl, rfl⟩
set_option maxHeartbeats 1000000 in
theorem turn_18 (x : BitVec 32) (w : World) :
    Calls Tryd.prog 52 #[.int .u32 (R x), .int .i64 18] w fun e w' => e = .returned (.int .u32 (R (Sh.rr x 18))) ∧ w' = w := by
  have r1 : R x * (16384 : Int) % (4294967296 : Int) = R (x <<< 14) := R_shl x 14
  have r2 : R x / (262144 : Int) = R (x >>> 18) := R_shr x 18
  have r3 : bits .or .u32 (R (x <<< 14)) (R (x >>> 18)) = R (Sh.rr x 18) := by rw [R_or, BitVec.or_comm]; rfl
  have r4 : bits .or .u32 (R (x >>> 18)) (R (x <<< 14)) = R (Sh.rr x 18) := R_or _ _
  go_enter Tryd.func52, Tryd.ntmps52
  go_wp2
  go_ret
  exact ⟨rfl, rfl⟩
set_option maxHeartbeats 1000000 in
theorem rot_19 (x : BitVec 32) (w : World) :
    Calls Tryd.prog 50 #[.int .u32 (R x), .int .i64 19] w fun e w' => e = .returned (.int .u32 (R (Sh.rr x 19))) ∧ w' = w := by
  have hb : bits BinOp.and IntKind.u64 (IntKind.u64.wrap (-19)) 31 = 13 := by decide
  have r1 : R x * (8192 : Int) % (4294967296 : Int) = R (x <<< 13) := R_shl x 13
  have r2 : R x / (524288 : Int) = R (x >>> 19) := R_shr x 19
  have r3 : bits .or .u32 (R (x <<< 13)) (R (x >>> 19)) = R (Sh.rr x 19) := by rw [R_or, BitVec.or_comm]; rfl
  have r4 : bits .or .u32 (R (x >>> 19)) (R (x <<< 13)) = R (Sh.rr x 19) := R_or _ _
  go_enter Tryd.func50, Tryd.ntmps50
  go_wp2
  go_ret
  exact ⟨rfl, rfl⟩
set_option maxHeartbeats 1000000 in
theorem turn_19 (x : BitVec 32) (w : World) :
    Calls Tryd.prog 52 #[.int .u32 (R x), .int .i64 19] w fun e w' => e = .returned (.int .u32 (R (Sh.rr x 19))) ∧ w' = w := by
  have r1 : R x * (8192 : Int) % (4294967296 : Int) = R (x <<< 13) := R_shl x 13
  have r2 : R x / (524288 : Int) = R (x >>> 19) := R_shr x 19
  have r3 : bits .or .u32 (R (x <<< 13)) (R (x >>> 19)) = R (Sh.rr x 19) := by rw [R_or, BitVec.or_comm]; rfl
  have r4 : bits .or .u32 (R (x >>> 19)) (R (x <<< 13)) = R (Sh.rr x 19) := R_or _ _
  go_enter Tryd.func52, Tryd.ntmps52
  go_wp2
  go_ret
  exact ⟨rfl, rfl⟩
set_option maxHeartbeats 1000000 in
theorem rot_22 (x : BitVec 32) (w : World) :
    Calls Tryd.prog 50 #[.int .u32 (R x), .int .i64 22] w fun e w' => e = .returned (.int .u32 (R (Sh.rr x 22))) ∧ w' = w := by
  have hb : bits BinOp.and IntKind.u64 (IntKind.u64.wrap (-22)) 31 = 10 := by decide
  have r1 : R x * (1024 : Int) % (4294967296 : Int) = R (x <<< 10) := R_shl x 10
  have r2 : R x / (4194304 : Int) = R (x >>> 22) := R_shr x 22
  have r3 : bits .or .u32 (R (x <<< 10)) (R (x >>> 22)) = R (Sh.rr x 22) := by rw [R_or, BitVec.or_comm]; rfl
  have r4 : bits .or .u32 (R (x >>> 22)) (R (x <<< 10)) = R (Sh.rr x 22) := R_or _ _
  go_enter Tryd.func50, Tryd.ntmps50
  go_wp2
  go_ret
  exact ⟨rfl, rfl⟩
set_option maxHeartbeats 1000000 in
theorem turn_22 (x : BitVec 32) (w : World) :
    Calls Tryd.prog 52 #[.int .u32 (R x), .int .i64 22] w fun e w' => e = .returned (.int .u32 (R (Sh.rr x 22))) ∧ w' = w := by
  have r1 : R x * (1024 : Int) % (4294967296 : Int) = R (x <<< 10) := R_shl x 10
  have r2 : R x / (4194304 : Int) = R (x >>> 22) := R_shr x 22
  have r3 : bits .or .u32 (R (x <<< 10)) (R (x >>> 22)) = R (Sh.rr x 22) := by rw [R_or, BitVec.or_comm]; rfl
  have r4 : bits .or .u32 (R (x >>> 22)) (R (x <<< 10)) = R (Sh.rr x 22) := R_or _ _
  go_enter Tryd.func52, Tryd.ntmps52
  go_wp2
  go_ret
  exact ⟨rfl, rfl⟩
set_option maxHeartbeats 1000000 in
theorem rot_25 (x : BitVec 32) (w : World) :
    Calls Tryd.prog 50 #[.int .u32 (R x), .int .i64 25] w fun e w' => e = .returned (.int .u32 (R (Sh.rr x 25))) ∧ w' = w := by
  have hb : bits BinOp.and IntKind.u64 (IntKind.u64.wrap (-25)) 31 = 7 := by decide
  have r1 : R x * (128 : Int) % (4294967296 : Int) = R (x <<< 7) := R_shl x 7
  have r2 : R x / (33554432 : Int) = R (x >>> 25) := R_shr x 25
  have r3 : bits .or .u32 (R (x <<< 7)) (R (x >>> 25)) = R (Sh.rr x 25) := by rw [R_or, BitVec.or_comm]; rfl
  have r4 : bits .or .u32 (R (x >>> 25)) (R (x <<< 7)) = R (Sh.rr x 25) := R_or _ _
  go_enter Tryd.func50, Tryd.ntmps50
  go_wp2
  go_ret
  exact ⟨rfl, rfl⟩
set_option maxHeartbeats 1000000 in
theorem turn_25 (x : BitVec 32) (w : World) :
    Calls Tryd.prog 52 #[.int .u32 (R x), .int .i64 25] w fun e w' => e = .returned (.int .u32 (R (Sh.rr x 25))) ∧ w' = w := by
  have r1 : R x * (128 : Int) % (4294967296 : Int) = R (x <<< 7) := R_shl x 7
  have r2 : R x / (33554432 : Int) = R (x >>> 25) := R_shr x 25
  have r3 : bits .or .u32 (R (x <<< 7)) (R (x >>> 25)) = R (Sh.rr x 25) := by rw [R_or, BitVec.or_comm]; rfl
  have r4 : bits .or .u32 (R (x >>> 25)) (R (x <<< 7)) = R (Sh.rr x 25) := R_or _ _
  go_enter Tryd.func52, Tryd.ntmps52
  go_wp2
  go_ret
  exact ⟨rfl, rfl⟩
theorem rot_all (x : BitVec 32) (n : Int) (hn : n ∈ ([2, 6, 7, 11, 13, 17, 18, 19, 22, 25] : List Int)) (w : World) :
    Calls Tryd.prog 50 #[.int .u32 (R x), .int .i64 n] w fun e w' => e = .returned (.int .u32 (R (Sh.rr x n.toNat))) ∧ w' = w := by
  simp only [List.mem_cons, List.not_mem_nil, or_false] at hn
  rcases hn with rfl | rfl | rfl | rfl | rfl | rfl | rfl | rfl | rfl | rfl
  · exact rot_2 x w
  · exact rot_6 x w
  · exact rot_7 x w
  · exact rot_11 x w
  · exact rot_13 x w
  · exact rot_17 x w
  · exact rot_18 x w
  · exact rot_19 x w
  · exact rot_22 x w
  · exact rot_25 x w
theorem turn_all (x : BitVec 32) (n : Int) (hn : n ∈ ([2, 6, 7, 11, 13, 17, 18, 19, 22, 25] : List Int)) (w : World) :
    Calls Tryd.prog 52 #[.int .u32 (R x), .int .i64 n] w fun e w' => e = .returned (.int .u32 (R (Sh.rr x n.toNat))) ∧ w' = w := by
  simp only [List.mem_cons, List.not_mem_nil, or_false] at hn
  rcases hn with rfl | rfl | rfl | rfl | rfl | rfl | rfl | rfl | rfl | rfl
  · exact turn_2 x w
  · exact turn_6 x w
  · exact turn_7 x w
  · exact turn_11 x w
  · exact turn_13 x w
  · exact turn_17 x w
  · exact turn_18 x w
  · exact turn_19 x w
  · exact turn_22 x w
  · exact turn_25 x w
end Go.Proofs.YthaejfbbefpojaaDoor
