/-
  The mathematics of layer 6: SHA-256, by the document's words: padding, the words of a block, a block's rounds, digests, digits; its numbers by roots of primes. No condition.
  Words of 32 bits as numbers: what the operations on uint32 make of them, without their sum. No condition.
  More of the mathematics of layer 6: a block's words told by their places; bytes as words of 32 bits; a row that is filled place by place. No condition.
  Contracts of sha.bigEndian and of sha.size. Condition: the numbers and the parts lie in memory; at most 1000000 of them, and bytes of the parts.
  Contract of sha.words: the 64 words of a block. Condition: the block has 64 bytes.
  The two tables of package sha in memory; a whole array out of its cells; an array by value at a place; a round's words as the program reckons them. No condition.
  Contract of sha.process: a block goes in. Condition: the tables hold what their text says; eight numbers; a block of 64 bytes.
-/
import Derived.WalkKit
import Derived.IntWalk
import Derived.LoopTactic
import Derived.BigRegion
import Derived.Deep.WholeRow
import Derived.StillTailTactics
import Derived.BigQuiet
import Derived.Deep.RegionLaw
import Derived.Deep.QuietTactic
import Derived.Test.YtfjdcopndkdbmaaGreatDoorRows
import Derived.Test.YtfjdcopndkdbmaaGreatDoorBas

namespace Go.Proofs.YtfjdcopndkdbmaaGreatDoor.Sh

abbrev V := List (BitVec 32)
def rr (x : BitVec 32) (n : Nat) : BitVec 32 := x >>> n ||| x <<< (32 - n)
def s0 (x : BitVec 32) : BitVec 32 := rr x 7 ^^^ rr x 18 ^^^ (x >>> 3)
def s1 (x : BitVec 32) : BitVec 32 := rr x 17 ^^^ rr x 19 ^^^ (x >>> 10)
def S0 (x : BitVec 32) : BitVec 32 := rr x 2 ^^^ rr x 13 ^^^ rr x 22
def S1 (x : BitVec 32) : BitVec 32 := rr x 6 ^^^ rr x 11 ^^^ rr x 25
def ch (e f g : BitVec 32) : BitVec 32 := (e &&& f) ||| (~~~ e &&& g)
def maj (a b c : BitVec 32) : BitVec 32 := (a &&& b) ||| (a &&& c) ||| (b &&& c)
/-- Four bytes as a number, the greatest first. -/
def be4 (l : List UInt8) (i : Nat) : BitVec 32 := BitVec.ofNat 32 ((l.getD (4 * i) 0).toNat * 16777216 + (l.getD (4 * i + 1) 0).toNat * 65536 + (l.getD (4 * i + 2) 0).toNat * 256 + (l.getD (4 * i + 3) 0).toNat)
/-- The words of a block, as far as they are reckoned: 16, and n more. -/
def words (l : List UInt8) : Nat → V
  | 0 => (List.range 16).map (be4 l)
  | n + 1 => words l n ++ [(words l n).getD n 0 + s0 ((words l n).getD (n + 1) 0) + (words l n).getD (n + 9) 0 + s1 ((words l n).getD (n + 14) 0)]
theorem words_length (l : List UInt8) : ∀ n, (words l n).length = 16 + n
  | 0 => by simp [words]
  | n + 1 => by simp [words, words_length l n]; omega
theorem words_more (l : List UInt8) (n : Nat) (i : Nat) (h : i < 16 + n) : (words l (n + 1)).getD i 0 = (words l n).getD i 0 := by
  have hl := words_length l n
  rw [words]
  simp only [List.getD_eq_getElem?_getD]
  rw [List.getElem?_append_left (by omega)]
theorem words_from (l : List UInt8) (i : Nat) : ∀ (k n : Nat), i < 16 + n → (words l (n + k)).getD i 0 = (words l n).getD i 0
  | 0, _, _ => rfl
  | k + 1, n, h => by rw [show n + (k + 1) = (n + k) + 1 by omega, words_more l (n + k) i (by omega), words_from l i k n h]
/-- One round. -/
def round (k w : BitVec 32) (x : V) : V := match x with
  | [a, b, c, d, e, f, g, h] => [(h + S1 e + ch e f g + k + w) + (S0 a + maj a b c), a, b, c, d + (h + S1 e + ch e f g + k + w), e, f, g]
  | _ => x
def K : V := [0x428a2f98#32, 0x71374491#32, 0xb5c0fbcf#32, 0xe9b5dba5#32, 0x3956c25b#32, 0x59f111f1#32, 0x923f82a4#32, 0xab1c5ed5#32, 0xd807aa98#32, 0x12835b01#32, 0x243185be#32, 0x550c7dc3#32, 0x72be5d74#32, 0x80deb1fe#32, 0x9bdc06a7#32, 0xc19bf174#32, 0xe49b69c1#32, 0xefbe4786#32, 0x0fc19dc6#32, 0x240ca1cc#32, 0x2de92c6f#32, 0x4a7484aa#32, 0x5cb0a9dc#32, 0x76f988da#32, 0x983e5152#32, 0xa831c66d#32, 0xb00327c8#32, 0xbf597fc7#32, 0xc6e00bf3#32, 0xd5a79147#32, 0x06ca6351#32, 0x14292967#32, 0x27b70a85#32, 0x2e1b2138#32, 0x4d2c6dfc#32, 0x53380d13#32, 0x650a7354#32, 0x766a0abb#32, 0x81c2c92e#32, 0x92722c85#32, 0xa2bfe8a1#32, 0xa81a664b#32, 0xc24b8b70#32, 0xc76c51a3#32, 0xd192e819#32, 0xd6990624#32, 0xf40e3585#32, 0x106aa070#32, 0x19a4c116#32, 0x1e376c08#32, 0x2748774c#32, 0x34b0bcb5#32, 0x391c0cb3#32, 0x4ed8aa4a#32, 0x5b9cca4f#32, 0x682e6ff3#32, 0x748f82ee#32, 0x78a5636f#32, 0x84c87814#32, 0x8cc70208#32, 0x90befffa#32, 0xa4506ceb#32, 0xbef9a3f7#32, 0xc67178f2#32]
def H0 : V := [0x6a09e667#32, 0xbb67ae85#32, 0x3c6ef372#32, 0xa54ff53a#32, 0x510e527f#32, 0x9b05688c#32, 0x1f83d9ab#32, 0x5be0cd19#32]
/-- So many rounds. -/
def rounds (ws : V) (x : V) : Nat → V
  | 0 => x
  | n + 1 => round (K.getD n 0) (ws.getD n 0) (rounds ws x n)
def block (h : V) (l : List UInt8) : V := List.zipWith (· + ·) h (rounds (words l 48) h 64)
theorem round_length (k w : BitVec 32) (x : V) (h : x.length = 8) : (round k w x).length = 8 := by
  match x, h with
  | [a, b, c, d, e, f, g, h], _ => rfl
theorem rounds_length (ws x : V) (h : x.length = 8) : ∀ n, (rounds ws x n).length = 8
  | 0 => h
  | n + 1 => round_length _ _ _ (rounds_length ws x h n)
theorem block_length (h : V) (l : List UInt8) (hh : h.length = 8) : (block h l).length = 8 := by
  unfold block
  rw [List.length_zipWith, rounds_length _ _ hh, hh]
  rfl
/-- All blocks, one after the other; what is less than a block is left. -/
def blocks (h : V) (l : List UInt8) : V := if _h64 : 64 ≤ l.length then blocks (block h (l.take 64)) (l.drop 64) else h
termination_by l.length
decreasing_by rw [List.length_drop]; omega
theorem blocks_low (h : V) (l : List UInt8) (hl : l.length < 64) : blocks h l = h := by rw [blocks, dif_neg (by omega)]
theorem blocks_step (h : V) (l r : List UInt8) (hl : l.length = 64) : blocks h (l ++ r) = blocks (block h l) r := by
  rw [blocks, dif_pos (by rw [List.length_append]; omega), ← hl, List.take_left, List.drop_left]
/-- Whole blocks ahead. -/
theorem blocks_append : ∀ (n : Nat) (h : V) (l r : List UInt8), l.length = 64 * n → blocks h (l ++ r) = blocks (blocks h l) r
  | 0, h, l, r, hl => by
    have : l = [] := List.eq_nil_of_length_eq_zero (by omega)
    subst this
    rw [blocks_low h [] (by simp)]
    rfl
  | n + 1, h, l, r, hl => by
    have e : l = l.take 64 ++ l.drop 64 := (List.take_append_drop 64 l).symm
    have h1 : (l.take 64).length = 64 := by rw [List.length_take]; omega
    have h2 : (l.drop 64).length = 64 * n := by rw [List.length_drop]; omega
    have e1 : blocks h (l ++ r) = blocks (block h (l.take 64)) (l.drop 64 ++ r) := by
      conv => lhs; rw [e, List.append_assoc]
      exact blocks_step h _ _ h1
    have e2 : blocks h l = blocks (block h (l.take 64)) (l.drop 64) := by
      conv => lhs; rw [e]
      exact blocks_step h _ _ h1
    rw [e1, e2, blocks_append n _ _ _ h2]
theorem blocks_length : ∀ (n : Nat) (h : V) (l : List UInt8), l.length ≤ n → h.length = 8 → (blocks h l).length = 8 := by
  intro n
  induction n with
  | zero => intro h l hl hh; rw [blocks_low h l (by omega)]; exact hh
  | succ n ih =>
    intro h l hl hh
    by_cases h64 : 64 ≤ l.length
    · rw [blocks, dif_pos h64]
      exact ih _ _ (by rw [List.length_drop]; omega) (block_length _ _ hh)
    · rw [blocks_low h l (by omega)]; exact hh
/-- How many bytes 0 stand behind the byte 80. -/
def zeros (n : Nat) : Nat := (119 - n % 64) % 64
def be8 (n : Nat) : List UInt8 := [UInt8.ofNat (n / 72057594037927936), UInt8.ofNat (n / 281474976710656), UInt8.ofNat (n / 1099511627776), UInt8.ofNat (n / 4294967296), UInt8.ofNat (n / 16777216), UInt8.ofNat (n / 65536), UInt8.ofNat (n / 256), UInt8.ofNat n]
def pad (l : List UInt8) : List UInt8 := l ++ (0x80 :: (List.replicate (zeros l.length) 0 ++ be8 (8 * l.length)))
theorem pad_length (l : List UInt8) : (pad l).length % 64 = 0 := by
  simp only [pad, be8, zeros, List.length_append, List.length_cons, List.length_replicate, List.length_nil]
  omega
def out4 (x : BitVec 32) : List UInt8 := [UInt8.ofNat (x.toNat / 16777216), UInt8.ofNat (x.toNat / 65536), UInt8.ofNat (x.toNat / 256), UInt8.ofNat x.toNat]
def out (v : V) : List UInt8 := v.flatMap out4
theorem out_length (v : V) : (out v).length = 4 * v.length := by
  induction v with
  | nil => rfl
  | cons a r ih =>
    have e : out (a :: r) = out4 a ++ out r := by simp [out]
    rw [e, List.length_append, ih, List.length_cons]
    show 4 + 4 * r.length = _
    omega
/-- THE DIGEST. -/
def sum (l : List UInt8) : List UInt8 := out (blocks H0 (pad l))
theorem sum_length (l : List UInt8) : (sum l).length = 32 := by
  unfold sum
  rw [out_length, blocks_length _ H0 (pad l) (Nat.le_refl _) rfl]
def digit (n : Nat) : UInt8 := if n < 10 then UInt8.ofNat (48 + n) else UInt8.ofNat (87 + n)
def hex (l : List UInt8) : List UInt8 := l.flatMap fun b => [digit (b.toNat / 16), digit (b.toNat % 16)]
theorem hex_cons (b : UInt8) (l : List UInt8) : hex (b :: l) = digit (b.toNat / 16) :: digit (b.toNat % 16) :: hex l := by simp [hex]
theorem hex_length : ∀ l : List UInt8, (hex l).length = 2 * l.length
  | [] => rfl
  | b :: l => by rw [hex_cons, List.length_cons, List.length_cons, hex_length l, List.length_cons]; omega
theorem hex_get (l : List UInt8) : ∀ (i : Nat) (h : i < l.length), (hex l)[2 * i]? = some (digit (l[i].toNat / 16)) ∧ (hex l)[2 * i + 1]? = some (digit (l[i].toNat % 16)) := by
  induction l with
  | nil => intro i h; simp at h
  | cons b l ih =>
    intro i h
    rw [hex_cons]
    cases i with
    | zero => exact ⟨rfl, rfl⟩
    | succ i =>
      have := ih i (by simpa using h)
      rw [show 2 * (i + 1) = 2 * i + 1 + 1 by omega]
      simpa using this
/-- The chapter's example. -/
theorem sum_abc : hex (sum [97, 98, 99]) = [98, 97, 55, 56, 49, 54, 98, 102, 56, 102, 48, 49, 99, 102, 101, 97, 52, 49, 52, 49, 52, 48, 100, 101, 53, 100, 97, 101, 50, 50, 50, 51, 98, 48, 48, 51, 54, 49, 97, 51, 57, 54, 49, 55, 55, 97, 57, 99, 98, 52, 49, 48, 102, 102, 54, 49, 102, 50, 48, 48, 49, 53, 97, 100] := by decide +kernel

/-! ### The numbers, by roots of primes -/
def primes : List Nat := [2, 3, 5, 7, 11, 13, 17, 19, 23, 29, 31, 37, 41, 43, 47, 53, 59, 61, 67, 71, 73, 79, 83, 89, 97, 101, 103, 107, 109, 113, 127, 131, 137, 139, 149, 151, 157, 163, 167, 173, 179, 181, 191, 193, 197, 199, 211, 223, 227, 229, 233, 239, 241, 251, 257, 263, 269, 271, 277, 281, 283, 293, 307, 311]
/-- The greatest number below 2^35 whose square, or third power, is not above p times 2^64, or 2^96; its last 32 bits. -/
def rootFrom (p : Nat) (third : Bool) : Nat → Nat → Nat
  | 0, r => r
  | b + 1, r => rootFrom p third b (if (if third then (r + 2 ^ b) ^ 3 ≤ p * 2 ^ 96 else (r + 2 ^ b) ^ 2 ≤ p * 2 ^ 64) then r + 2 ^ b else r)
def root (p : Nat) (third : Bool) : Nat := rootFrom p third 35 0 % 4294967296
theorem roots_K : primes.map (fun p => BitVec.ofNat 32 (root p true)) = K := by decide +kernel
theorem roots_H : (primes.take 8).map (fun p => BitVec.ofNat 32 (root p false)) = H0 := by decide +kernel
end Go.Proofs.YtfjdcopndkdbmaaGreatDoor.Sh

namespace Go.Proofs.YtfjdcopndkdbmaaGreatDoor
open Go.RowKit

/-- A register as a number. -/
def R (r : BitVec 32) : Int := (r.toNat : Int)
theorem R_nonneg (r : BitVec 32) : 0 ≤ R r := by unfold R; omega
theorem R_lt (r : BitVec 32) : R r < 4294967296 := by have := r.isLt; unfold R; omega
theorem R_inj {a b : BitVec 32} (h : R a = R b) : a = b := by
  unfold R at h
  exact BitVec.eq_of_toNat_eq (by omega)
theorem R_xor (a b : BitVec 32) : bits .xor .u32 (R a) (R b) = R (a ^^^ b) := by
  unfold R
  rw [u32_xor_nat _ _ a.isLt b.isLt, BitVec.toNat_xor]
theorem R_and (a b : BitVec 32) : bits .and .u32 (R a) (R b) = R (a &&& b) := by
  unfold R
  rw [u32_and_nat _ _ a.isLt b.isLt, BitVec.toNat_and]
theorem R_or (a b : BitVec 32) : bits .or .u32 (R a) (R b) = R (a ||| b) := by
  unfold R
  rw [u32_or_nat _ _ a.isLt b.isLt, BitVec.toNat_or]
theorem R_add (a b : BitVec 32) : (R a + R b) % 4294967296 = R (a + b) := by
  unfold R
  rw [BitVec.toNat_add]
  omega
theorem R_shr (a : BitVec 32) (k : Nat) : R a / ((2 ^ k : Nat) : Int) = R (a >>> k) := by
  unfold R
  rw [BitVec.toNat_ushiftRight, Nat.shiftRight_eq_div_pow]
  exact (Int.natCast_ediv _ _).symm
theorem R_shl (a : BitVec 32) (k : Nat) : (R a * ((2 ^ k : Nat) : Int)) % 4294967296 = R (a <<< k) := by
  unfold R
  rw [BitVec.toNat_shiftLeft, Nat.shiftLeft_eq]
  omega
theorem R_not (a : BitVec 32) : 4294967295 - R a = R (~~~ a) := by
  unfold R
  rw [BitVec.toNat_not]
  have := a.isLt
  omega
theorem ret_u32 {a b : BitVec 32} (h : a = b) : Ending.returned (.int .u32 (R a)) = .returned (.int .u32 (R b)) := by rw [h]
/-- Words as values. -/
def ru (l : Sh.V) : Array Value := (l.map fun x => Value.int .u32 (R x)).toArray
theorem ru_size (l : Sh.V) : (ru l).size = l.length := by simp [ru]
theorem ru_get (l : Sh.V) (i : Nat) (h : i < l.length) : (ru l)[i]? = some (.int .u32 (R l[i])) := by simp [ru, h]
theorem ru_getD (l : Sh.V) (i : Nat) (h : i < l.length) : (ru l)[i]? = some (.int .u32 (R (l.getD i 0))) := by simp [ru, h]
theorem ru_one (l : Sh.V) : (ru l).all (·.oneCell') = true := by
  simp [ru, Value.oneCell']
theorem ru_set (l : Sh.V) (i : Nat) (x : BitVec 32) : (ru l).setIfInBounds i (.int .u32 (R x)) = ru (l.set i x) := by
  simp [ru, List.map_set]

def turns : List Nat := [2, 6, 7, 11, 13, 17, 18, 19, 22, 25]
set_option maxHeartbeats 1000000 in
theorem rot_2 (x : BitVec 32) (w : World) :
    Calls Tryz.prog 114 #[.int .u32 (R x), .int .i64 2] w fun e w' => e = .returned (.int .u32 (R (Sh.rr x 2))) ∧ w' = w := by
  have hb : bits BinOp.and IntKind.u64 (IntKind.u64.wrap (-2)) 31 = 30 := by decide
  have r1 : R x * (1073741824 : Int) % (4294967296 : Int) = R (x <<< 30) := R_shl x 30
  have r2 : R x / (4 : Int) = R (x >>> 2) := R_shr x 2
  have r3 : bits .or .u32 (R (x <<< 30)) (R (x >>> 2)) = R (Sh.rr x 2) := by rw [R_or, BitVec.or_comm]; rfl
  have r4 : bits .or .u32 (R (x >>> 2)) (R (x <<< 30)) = R (Sh.rr x 2) := R_or _ _
  go_enter Tryz.func114, Tryz.ntmps114
  go_wp2
  go_ret
  exact ⟨rfl, rfl⟩
set_option maxHeartbeats 1000000 in
theorem rot_6 (x : BitVec 32) (w : World) :
    Calls Tryz.prog 114 #[.int .u32 (R x), .int .i64 6] w fun e w' => e = .returned (.int .u32 (R (Sh.rr x 6))) ∧ w' = w := by
  have hb : bits BinOp.and IntKind.u64 (IntKind.u64.wrap (-6)) 31 = 26 := by decide
  have r1 : R x * (67108864 : Int) % (4294967296 : Int) = R (x <<< 26) := R_shl x 26
  have r2 : R x / (64 : Int) = R (x >>> 6) := R_shr x 6
  have r3 : bits .or .u32 (R (x <<< 26)) (R (x >>> 6)) = R (Sh.rr x 6) := by rw [R_or, BitVec.or_comm]; rfl
  have r4 : bits .or .u32 (R (x >>> 6)) (R (x <<< 26)) = R (Sh.rr x 6) := R_or _ _
  go_enter Tryz.func114, Tryz.ntmps114
  go_wp2
  go_ret
  exact ⟨rfl, rfl⟩
set_option maxHeartbeats 1000000 in
theorem rot_7 (x : BitVec 32) (w : World) :
    Calls Tryz.prog 114 #[.int .u32 (R x), .int .i64 7] w fun e w' => e = .returned (.int .u32 (R (Sh.rr x 7))) ∧ w' = w := by
  have hb : bits BinOp.and IntKind.u64 (IntKind.u64.wrap (-7)) 31 = 25 := by decide
  have r1 : R x * (33554432 : Int) % (4294967296 : Int) = R (x <<< 25) := R_shl x 25
  have r2 : R x / (128 : Int) = R (x >>> 7) := R_shr x 7
  have r3 : bits .or .u32 (R (x <<< 25)) (R (x >>> 7)) = R (Sh.rr x 7) := by rw [R_or, BitVec.or_comm]; rfl
  have r4 : bits .or .u32 (R (x >>> 7)) (R (x <<< 25)) = R (Sh.rr x 7) := R_or _ _
  go_enter Tryz.func114, Tryz.ntmps114
  go_wp2
  go_ret
  exact ⟨rfl, rfl⟩
set_option maxHeartbeats 1000000 in
theorem rot_11 (x : BitVec 32) (w : World) :
    Calls Tryz.prog 114 #[.int .u32 (R x), .int .i64 11] w fun e w' => e = .returned (.int .u32 (R (Sh.rr x 11))) ∧ w' = w := by
  have hb : bits BinOp.and IntKind.u64 (IntKind.u64.wrap (-11)) 31 = 21 := by decide
  have r1 : R x * (2097152 : Int) % (4294967296 : Int) = R (x <<< 21) := R_shl x 21
  have r2 : R x / (2048 : Int) = R (x >>> 11) := R_shr x 11
  have r3 : bits .or .u32 (R (x <<< 21)) (R (x >>> 11)) = R (Sh.rr x 11) := by rw [R_or, BitVec.or_comm]; rfl
  have r4 : bits .or .u32 (R (x >>> 11)) (R (x <<< 21)) = R (Sh.rr x 11) := R_or _ _
  go_enter Tryz.func114, Tryz.ntmps114
  go_wp2
  go_ret
  exact ⟨rfl, rfl⟩
set_option maxHeartbeats 1000000 in
theorem rot_13 (x : BitVec 32) (w : World) :
    Calls Tryz.prog 114 #[.int .u32 (R x), .int .i64 13] w fun e w' => e = .returned (.int .u32 (R (Sh.rr x 13))) ∧ w' = w := by
  have hb : bits BinOp.and IntKind.u64 (IntKind.u64.wrap (-13)) 31 = 19 := by decide
  have r1 : R x * (524288 : Int) % (4294967296 : Int) = R (x <<< 19) := R_shl x 19
  have r2 : R x / (8192 : Int) = R (x >>> 13) := R_shr x 13
  have r3 : bits .or .u32 (R (x <<< 19)) (R (x >>> 13)) = R (Sh.rr x 13) := by rw [R_or, BitVec.or_comm]; rfl
  have r4 : bits .or .u32 (R (x >>> 13)) (R (x <<< 19)) = R (Sh.rr x 13) := R_or _ _
  go_enter Tryz.func114, Tryz.ntmps114
  go_wp2
  go_ret
  exact ⟨rfl, rfl⟩
set_option maxHeartbeats 1000000 in
theorem rot_17 (x : BitVec 32) (w : World) :
    Calls Tryz.prog 114 #[.int .u32 (R x), .int .i64 17] w fun e w' => e = .returned (.int .u32 (R (Sh.rr x 17))) ∧ w' = w := by
  have hb : bits BinOp.and IntKind.u64 (IntKind.u64.wrap (-17)) 31 = 15 := by decide
  have r1 : R x * (32768 : Int) % (4294967296 : Int) = R (x <<< 15) := R_shl x 15
  have r2 : R x / (131072 : Int) = R (x >>> 17) := R_shr x 17
  have r3 : bits .or .u32 (R (x <<< 15)) (R (x >>> 17)) = R (Sh.rr x 17) := by rw [R_or, BitVec.or_comm]; rfl
  have r4 : bits .or .u32 (R (x >>> 17)) (R (x <<< 15)) = R (Sh.rr x 17) := R_or _ _
  go_enter Tryz.func114, Tryz.ntmps114
  go_wp2
  go_ret
  exact ⟨rfl, rfl⟩
set_option maxHeartbeats 1000000 in
theorem rot_18 (x : BitVec 32) (w : World) :
    Calls Tryz.prog 114 #[.int .u32 (R x), .int .i64 18] w fun e w' => e = .returned (.int .u32 (R (Sh.rr x 18))) ∧ w' = w := by
  have hb : bits BinOp.and IntKind.u64 (IntKind.u64.wrap (-18)) 31 = 14 := by decide
  have r1 : R x * (16384 : Int) % (4294967296 : Int) = R (x <<< 14) := R_shl x 14
  have r2 : R x / (262144 : Int) = R (x >>> 18) := R_shr x 18
  have r3 : bits .or .u32 (R (x <<< 14)) (R (x >>> 18)) = R (Sh.rr x 18) := by rw [R_or, BitVec.or_comm]; rfl
  have r4 : bits .or .u32 (R (x >>> 18)) (R (x <<< 14)) = R (Sh.rr x 18) := R_or _ _
  go_enter Tryz.func114, Tryz.ntmps114
  go_wp2
  go_ret
  exact ⟨rfl, rfl⟩
set_option maxHeartbeats 1000000 in
theorem rot_19 (x : BitVec 32) (w : World) :
    Calls Tryz.prog 114 #[.int .u32 (R x), .int .i64 19] w fun e w' => e = .returned (.int .u32 (R (Sh.rr x 19))) ∧ w' = w := by
  have hb : bits BinOp.and IntKind.u64 (IntKind.u64.wrap (-19)) 31 = 13 := by decide
  have r1 : R x * (8192 : Int) % (4294967296 : Int) = R (x <<< 13) := R_shl x 13
  have r2 : R x / (524288 : Int) = R (x >>> 19) := R_shr x 19
  have r3 : bits .or .u32 (R (x <<< 13)) (R (x >>> 19)) = R (Sh.rr x 19) := by rw [R_or, BitVec.or_comm]; rfl
  have r4 : bits .or .u32 (R (x >>> 19)) (R (x <<< 13)) = R (Sh.rr x 19) := R_or _ _
  go_enter Tryz.func114, Tryz.ntmps114
  go_wp2
  go_ret
  exact ⟨rfl, rfl⟩
set_option maxHeartbeats 1000000 in
theorem rot_22 (x : BitVec 32) (w : World) :
    Calls Tryz.prog 114 #[.int .u32 (R x), .int .i64 22] w fun e w' => e = .returned (.int .u32 (R (Sh.rr x 22))) ∧ w' = w := by
  have hb : bits BinOp.and IntKind.u64 (IntKind.u64.wrap (-22)) 31 = 10 := by decide
  have r1 : R x * (1024 : Int) % (4294967296 : Int) = R (x <<< 10) := R_shl x 10
  have r2 : R x / (4194304 : Int) = R (x >>> 22) := R_shr x 22
  have r3 : bits .or .u32 (R (x <<< 10)) (R (x >>> 22)) = R (Sh.rr x 22) := by rw [R_or, BitVec.or_comm]; rfl
  have r4 : bits .or .u32 (R (x >>> 22)) (R (x <<< 10)) = R (Sh.rr x 22) := R_or _ _
  go_enter Tryz.func114, Tryz.ntmps114
  go_wp2
  go_ret
  exact ⟨rfl, rfl⟩
set_option maxHeartbeats 1000000 in
theorem rot_25 (x : BitVec 32) (w : World) :
    Calls Tryz.prog 114 #[.int .u32 (R x), .int .i64 25] w fun e w' => e = .returned (.int .u32 (R (Sh.rr x 25))) ∧ w' = w := by
  have hb : bits BinOp.and IntKind.u64 (IntKind.u64.wrap (-25)) 31 = 7 := by decide
  have r1 : R x * (128 : Int) % (4294967296 : Int) = R (x <<< 7) := R_shl x 7
  have r2 : R x / (33554432 : Int) = R (x >>> 25) := R_shr x 25
  have r3 : bits .or .u32 (R (x <<< 7)) (R (x >>> 25)) = R (Sh.rr x 25) := by rw [R_or, BitVec.or_comm]; rfl
  have r4 : bits .or .u32 (R (x >>> 25)) (R (x <<< 7)) = R (Sh.rr x 25) := R_or _ _
  go_enter Tryz.func114, Tryz.ntmps114
  go_wp2
  go_ret
  exact ⟨rfl, rfl⟩
theorem rot_all (x : BitVec 32) (n : Int) (hn : n ∈ ([2, 6, 7, 11, 13, 17, 18, 19, 22, 25] : List Int)) (w : World) :
    Calls Tryz.prog 114 #[.int .u32 (R x), .int .i64 n] w fun e w' => e = .returned (.int .u32 (R (Sh.rr x n.toNat))) ∧ w' = w := by
  simp only [List.mem_cons, List.not_mem_nil, or_false] at hn
  rcases hn with rfl | rfl | rfl | rfl | rfl | rfl | rfl | rfl | rfl | rfl
  · exact rot_2 x w
  · exact rot_6 x w
  · exact rot_7 x w
  · exact rot_11 x w
  · exact rot_13 x w
  · exact rot_17 x w
  · exact rot_18 x w
  · exact rot_19 x w
  · exact rot_22 x w
  · exact rot_25 x w
end Go.Proofs.YtfjdcopndkdbmaaGreatDoor

namespace Go.Proofs.YtfjdcopndkdbmaaGreatDoor
open Go.RowKit

/-- A byte as a word. -/
def zw (b : UInt8) : BitVec 32 := BitVec.ofNat 32 b.toNat
theorem zw_toNat (b : UInt8) : (zw b).toNat = b.toNat := by
  unfold zw
  rw [BitVec.toNat_ofNat]
  have := b.toNat_lt
  omega
theorem R_zw (b : UInt8) : R (zw b) = (b.toNat : Int) := by unfold R; rw [zw_toNat]
theorem shl_or {a b k : Nat} (h : b < 2 ^ k) : a * 2 ^ k ||| b = a * 2 ^ k + b := by
  have := Nat.shiftLeft_add_eq_or_of_lt h a
  rw [Nat.shiftLeft_eq] at this
  exact this.symm
theorem be4_or (l : List UInt8) (i : Nat) : Sh.be4 l i = zw (l.getD (4 * i) 0) <<< 24 ||| zw (l.getD (4 * i + 1) 0) <<< 16 ||| zw (l.getD (4 * i + 2) 0) <<< 8 ||| zw (l.getD (4 * i + 3) 0) := by
  unfold Sh.be4
  generalize l.getD (4 * i) 0 = a
  generalize l.getD (4 * i + 1) 0 = b
  generalize l.getD (4 * i + 2) 0 = c
  generalize l.getD (4 * i + 3) 0 = d
  have ha := a.toNat_lt
  have hb := b.toNat_lt
  have hc := c.toNat_lt
  have hd := d.toNat_lt
  apply BitVec.eq_of_toNat_eq
  simp only [BitVec.toNat_or, BitVec.toNat_shiftLeft, zw_toNat, Nat.shiftLeft_eq, BitVec.toNat_ofNat]
  rw [Nat.mod_eq_of_lt (a := a.toNat * 2 ^ 24) (by omega), Nat.mod_eq_of_lt (a := b.toNat * 2 ^ 16) (by omega), Nat.mod_eq_of_lt (a := c.toNat * 2 ^ 8) (by omega)]
  rw [shl_or (a := a.toNat) (b := b.toNat * 2 ^ 16) (k := 24) (by omega)]
  rw [show a.toNat * 2 ^ 24 + b.toNat * 2 ^ 16 = (a.toNat * 256 + b.toNat) * 2 ^ 16 by omega, shl_or (b := c.toNat * 2 ^ 8) (k := 16) (by omega)]
  rw [show (a.toNat * 256 + b.toNat) * 2 ^ 16 + c.toNat * 2 ^ 8 = (a.toNat * 65536 + b.toNat * 256 + c.toNat) * 2 ^ 8 by omega, shl_or (b := d.toNat) (k := 8) (by omega)]
  omega
theorem be4_add (l : List UInt8) (i : Nat) : Sh.be4 l i = zw (l.getD (4 * i) 0) <<< 24 + zw (l.getD (4 * i + 1) 0) <<< 16 + zw (l.getD (4 * i + 2) 0) <<< 8 + zw (l.getD (4 * i + 3) 0) := by
  unfold Sh.be4
  generalize l.getD (4 * i) 0 = a
  generalize l.getD (4 * i + 1) 0 = b
  generalize l.getD (4 * i + 2) 0 = c
  generalize l.getD (4 * i + 3) 0 = d
  have ha := a.toNat_lt
  have hb := b.toNat_lt
  have hc := c.toNat_lt
  have hd := d.toNat_lt
  apply BitVec.eq_of_toNat_eq
  simp only [BitVec.toNat_add, BitVec.toNat_shiftLeft, zw_toNat, Nat.shiftLeft_eq, BitVec.toNat_ofNat]
  omega
/-- The words of a block, all of them. -/
noncomputable def W64 (l : List UInt8) : Sh.V := Classical.choose (⟨Sh.words l 48, rfl⟩ : ∃ v, v = Sh.words l 48)
theorem W64_eq (l : List UInt8) : W64 l = Sh.words l 48 := Classical.choose_spec (⟨Sh.words l 48, rfl⟩ : ∃ v, v = Sh.words l 48)
theorem W64_length (l : List UInt8) : (W64 l).length = 64 := by rw [W64_eq]; exact Sh.words_length l 48
theorem W64_low (l : List UInt8) (i : Nat) (h : i < 16) : (W64 l).getD i 0 = Sh.be4 l i := by
  have := Sh.words_from l i 48 0 (by omega)
  rw [Nat.zero_add] at this
  rw [W64_eq, this]
  simp [Sh.words, h]
theorem W64_rec (l : List UInt8) (i : Nat) (h1 : 16 ≤ i) (h2 : i < 64) :
    (W64 l).getD i 0 = (W64 l).getD (i - 16) 0 + Sh.s0 ((W64 l).getD (i - 15) 0) + (W64 l).getD (i - 7) 0 + Sh.s1 ((W64 l).getD (i - 2) 0) := by
  obtain ⟨n, rfl⟩ : ∃ n, i = 16 + n := ⟨i - 16, by omega⟩
  have key : ∀ j, j < 16 + n → (W64 l).getD j 0 = (Sh.words l n).getD j 0 := fun j hj => by
    have := Sh.words_from l j (48 - n) n hj
    rw [show n + (48 - n) = 48 by omega, ← W64_eq] at this
    exact this
  have h3 : (W64 l).getD (16 + n) 0 = (Sh.words l (n + 1)).getD (16 + n) 0 := by
    have := Sh.words_from l (16 + n) (47 - n) (n + 1) (by omega)
    rw [show n + 1 + (47 - n) = 48 by omega, ← W64_eq] at this
    exact this
  rw [h3, key _ (by omega), key _ (by omega), key _ (by omega), key _ (by omega), Sh.words]
  have hl := Sh.words_length l n
  rw [List.getD_eq_getElem?_getD, List.getElem?_append_right (by omega), hl]
  rw [show 16 + n - (16 + n) = 0 by omega, show 16 + n - 16 = n by omega, show 16 + n - 15 = n + 1 by omega, show 16 + n - 7 = n + 9 by omega, show 16 + n - 2 = n + 14 by omega]
  rfl

/-- A row that is filled place by place. -/
structure Fill (W : Sh.V) (i : Nat) (l : Sh.V) : Prop where
  len : l.length = W.length
  low : ∀ j, j < i → l.getD j 0 = W.getD j 0
theorem Fill.zero (W : Sh.V) : Fill W 0 (List.replicate W.length 0) := ⟨by simp, fun j hj => by omega⟩
theorem Fill.next {W l : Sh.V} {i : Nat} (h : Fill W i l) (hi : i < W.length) {x : BitVec 32} (hx : x = W.getD i 0) : Fill W (i + 1) (l.set i x) := by
  subst hx
  refine ⟨by rw [List.length_set, h.len], fun j hj => ?_⟩
  have hl := h.len
  by_cases e : j = i
  · subst e
    simp [show j < l.length by omega]
  · have := h.low j (by omega)
    rw [← this]
    simp only [List.getD_eq_getElem?_getD]
    rw [List.getElem?_set_ne (by omega)]
theorem Fill.done {W l : Sh.V} {i : Nat} (h : Fill W i l) (hi : W.length ≤ i) : l = W := by
  apply List.ext_getElem h.len
  intro j h1 h2
  have := h.low j (by omega)
  simpa [h1, h2] using this
/-- A block of words, its cells. -/
theorem Blk.ru {w : World} {g : Nat} {t : TypeId} {l : Sh.V} (h : Blk w g t (ru l)) (i : Nat) (hi : i < l.length) : w.cell? ⟨g, i, none⟩ = some (.int .u32 (R (l.getD i 0))) := by
  rw [h.cell, ru_getD l i hi]
theorem Blk.ruSet {w : World} {g : Nat} {t : TypeId} {l : Sh.V} (h : Blk w g t (Go.Proofs.YtfjdcopndkdbmaaGreatDoor.ru l)) (i : Nat) (x : BitVec 32) : Blk (w.setCell ⟨g, i, none⟩ (.int .u32 (R x))) g t (Go.Proofs.YtfjdcopndkdbmaaGreatDoor.ru (l.set i x)) := by
  rw [← ru_set]
  exact h.set_ i _
/-- A block of bytes, its cells as words. -/
theorem Blk.by {w : World} {g : Nat} {t : TypeId} {l : List UInt8} (h : Blk w g t (cb l).toArray) (i : Nat) (hi : i < l.length) : w.cell? ⟨g, i, none⟩ = some (.int .u8 (R (zw (l.getD i 0)))) := by
  rw [h.cell, R_zw]
  have := cb_get l i hi
  simp only [List.getElem?_toArray, this]
  simp [hi]
end Go.Proofs.YtfjdcopndkdbmaaGreatDoor

namespace Go.Proofs.YtfjdcopndkdbmaaGreatDoor
open Go.RowKit

theorem out_snoc (l : Sh.V) (x : BitVec 32) : Sh.out (l ++ [x]) = Sh.out l ++ Sh.out4 x := by simp [Sh.out]
theorem out_take (l : Sh.V) (i : Nat) (h : i < l.length) : Sh.out (l.take (i + 1)) = Sh.out (l.take i) ++ Sh.out4 (l.getD i 0) := by
  rw [take_more l i h, out_snoc]
  simp [h]
theorem cb_out4 (x : BitVec 32) : cb (Sh.out4 x) = [.int .u8 (R x / 16777216 % 256), .int .u8 (R x / 65536 % 256), .int .u8 (R x / 256 % 256), .int .u8 (R x % 256)] := by
  simp only [Sh.out4, cb, List.map_cons, List.map_nil, R, UInt8.toNat_ofNat']
  congr <;> omega

set_option maxRecDepth 100000 in
set_option maxHeartbeats 4000000 in
theorem bigEndian_any (l : Sh.V) (hl : l.length ≤ 1000000) (A : Option Addr) (c : Nat) (w : World) (hA : Lies (fun _ => False) w A (ru l).toList) :
    Calls Tryz.prog 99 #[.slice A l.length c] w fun e w' => e = .returned (.string (ba (Sh.out l))) ∧ Below w.heap.size w w' := by
  obtain ⟨i0, hi, hz0, hz1, hz2⟩ := info_u8
  go_enter Tryz.func99, Tryz.ntmps99
  go_wp2_with (refine wpList_make_own _ rfl _ _ 98 rfl w.heap.size 5 i0 (.int .u8 0) 1 Tryz.underlying98 hi hz0 hz1 .i64 .i64 _ (4 * l.length) rfl rfl (by omega) (by rw [hz2]; omega) (by unfold maxLen; omega) (Nat.le_refl _) ?_)
  intro w1 hown1 hg1
  have hK1 := Kept.grown (S := fun _ => False) (Kept.refl _ w) hg1 (by simp)
  have hb1 : Below w.heap.size w w1 := Kept.below (Below.refl _ w) hK1 (by simp) (Nat.le_refl _)
  have hsz1 : w.heap.size ≤ w1.heap.size := hb1.size
  have hA1 := lies_off (S := fun b => w.heap.size ≤ b) hA hb1 (fun _ h => h)
  clear hK1 hg1
  go_wp2_with fail
  go_loopw [3, 5, 12] (fun v _ i wr => ∃ (k : Nat) (A' : Option Addr) (c' : Nat), i = .int .i64 k ∧ k ≤ l.length ∧ v = .slice A' (Sh.out (l.take k)).length c' ∧ wr.ownsRow w.heap.size 5 1 v (Sh.out (l.take k)).length (cb (Sh.out (l.take k))) ∧ Lies (fun b => w.heap.size ≤ b) wr A (ru l).toList ∧ Below w.heap.size w wr)
    (fun _ _ i _ => l.length - (intOf i).toNat)
  case atStart => exact ⟨0, _, _, rfl, by omega, rfl, hown1, hA1, hb1⟩
  case round =>
    obtain ⟨k, A', c', rfl, hk, rfl, hown, hAr, hb⟩ := hrel
    by_cases hlt : k < l.length
    · have hget : (ru l).toList[k]? = some (.int .u32 (R (l.getD k 0))) := by have := ru_getD l k hlt; simpa using this
      obtain ⟨a, hAa, _, _, ha3⟩ := hAr k _ hget
      subst hAa
      have HE := Lib.hid (out_take l k hlt)
      have HO := Lib.hid (cb_out4 (l.getD k 0))
      have hlen : (Sh.out (l.take k)).length = 4 * k := by rw [Sh.out_length, List.length_take]; omega
      generalize l.getD k 0 = x at ha3 HE HO
      have HAr := Lib.hid hAr
      have Hb := Lib.hid hb
      have Hown := Lib.hid hown
      have hki : (k : Int) < (l.length : Int) := by omega
      generalize Sh.out (l.take k) = o at hlen Hown HE
      clear hAr hb hown
      go_wp2_with (at_builtin; refine wpList_append_own _ rfl _ _ 98 rfl w.heap.size 5 i0 (.int .u8 0) 1 1 Tryz.underlying98 hi hz0 hz1 hz2 rfl (by decide) _ _ _ rfl (Hown.out.alloc _) ⟨wr.heap.size, 0, none⟩ 4 4 (cb (Sh.out4 x)) rfl rfl ?c1 ?c2 ?c3 ?c4 ?c5 ?_)
      case c1 =>
        rw [HO.out]
        intro j u hj
        match j, hj with
        | 0, hj => simp at hj; subst hj; rfl
        | 1, hj => simp at hj; subst hj; rfl
        | 2, hj => simp at hj; subst hj; rfl
        | 3, hj => simp at hj; subst hj; rfl
      case c2 => exact cb_one _
      case c3 => unfold maxLen; omega
      case c4 => omega
      case c5 => have := Hb.out.size; simp; omega
      intro v' w2 hown' hgrow _
      have hl4 : 4 * k + 4 = (Sh.out (l.take (k + 1))).length := by rw [Sh.out_length, List.length_take]; omega
      rw [← show cb (o ++ Sh.out4 x) = cb o ++ cb (Sh.out4 x) by simp [cb], ← HE.out, hl4] at hown'
      obtain ⟨A2, c2, rfl⟩ := own_form hown'
      have hown2 := Lib.hid hown'
      have hsz := Hb.out.size
      have hK2 := Lib.hid (Kept.grown (S := fun b => w.heap.size ≤ b) (Kept.alloc (Kept.refl _ wr) _) hgrow (fun b hb => .inl (own_base Hown.out (b := b) (by rw [hlen]; exact hb))))
      have hHb := Lib.hid (Kept.below Hb.out hK2.out (fun _ h => h) hsz)
      have hAr2 := Lib.hid (HAr.out.kept hK2.out)
      clear hown' hgrow
      go_wp2_with fail
      go_roundw
      case rel => exact ⟨k + 1, A2, c2, by go_num, by omega, rfl, hown2.out, hAr2.out, hHb.out⟩
      case measure => simp [intOf]; omega
    · obtain rfl : k = l.length := by omega
      rw [List.take_length] at hown
      have HT := run_own_text hown
      have Hb := Lib.hid hb
      clear hown hAr hb
      go_wp2_with fail
      go_ret
      exact ⟨rfl, Hb.out⟩
end Go.Proofs.YtfjdcopndkdbmaaGreatDoor

namespace Go.Proofs.YtfjdcopndkdbmaaGreatDoor
open Go.RowKit

theorem words_size : (Tryz.prog.info? 117).map (·.size) = some 64 := by kernel_rfl
theorem size_u8 : (Tryz.prog.info? 5).map (·.size) = some 1 := by kernel_rfl
/-- A cut of an array. -/
theorem run_cut_array {P : Program} (t e : TypeId) (n : Nat) (ht : P.underlying t = some (.array n e)) (hsz : (P.info? e).map (·.size) = some 1) (g l h : Nat) (hl : l < n) (h1 : l ≤ h) (h2 : h ≤ n) (x y : Int) (hx : x = l) (hy : y = h) (w : World) :
    (Instr.sliceAt t (.pointer (some ⟨g, 0, none⟩)) (some (.int .i64 x)) (some (.int .i64 y)) none).run P w = .ok (.slice (some ⟨g, l, none⟩) (h - l) (n - l)) w := by
  subst hx
  subst hy
  cases hq : P.info? e with
  | none => simp [hq] at hsz
  | some i =>
    have hi : i.size = 1 := by simpa [hq] using hsz
    have hadd : (⟨g, 0, none⟩ : Addr).add l = ⟨g, l, none⟩ := by unfold Addr.add; split <;> simp_all
    simp [Instr.sliceAt, Instr.sureAddr, run_underlying ht, Instr.sliceBounds, Instr.sliceBound, asIntOf, sizeOf, typeInfo, hq, hi, h1, h2, show ¬ n = l by omega, hadd]
theorem run_cut_array_from {P : Program} (t e : TypeId) (n : Nat) (ht : P.underlying t = some (.array n e)) (hsz : (P.info? e).map (·.size) = some 1) (g l : Nat) (hl : l < n) (x : Int) (hx : x = l) (w : World) :
    (Instr.sliceAt t (.pointer (some ⟨g, 0, none⟩)) (some (.int .i64 x)) none none).run P w = .ok (.slice (some ⟨g, l, none⟩) (n - l) (n - l)) w := by
  subst hx
  cases hq : P.info? e with
  | none => simp [hq] at hsz
  | some i =>
    have hi : i.size = 1 := by simpa [hq] using hsz
    have hadd : (⟨g, 0, none⟩ : Addr).add l = ⟨g, l, none⟩ := by unfold Addr.add; split <;> simp_all
    simp [Instr.sliceAt, Instr.sureAddr, run_underlying ht, Instr.sliceBounds, Instr.sliceBound, asIntOf, sizeOf, typeInfo, hq, hi, show ¬ n = l by omega, hadd, show l ≤ n by omega]
theorem Blk.new3 (w : World) (o1 o2 : Obj) (t : TypeId) (cs : Array Value) : Blk (((w.alloc o1).alloc o2).alloc (.cells cs t)) (w.heap.size + 1 + 1) t cs := by
  have := Blk.new ((w.alloc o1).alloc o2) t cs
  simpa using this
theorem Blk.new2 (w : World) (o1 : Obj) (t : TypeId) (cs : Array Value) : Blk ((w.alloc o1).alloc (.cells cs t)) (w.heap.size + 1) t cs := by
  have := Blk.new (w.alloc o1) t cs
  simpa using this
theorem words_sz (L : List UInt8) : (Tryz.prog.info? 117).map (·.size) = some (ru (W64 L)).size := by rw [ru_size, W64_length]; exact words_size
theorem words_zs (L : List UInt8) : (ru (List.replicate 64 0)).size = (ru (W64 L)).size := by rw [ru_size, ru_size, W64_length]; simp
theorem R_mod (a : BitVec 32) : R a % 4294967296 = R a := by have h1 := R_nonneg a; have h2 := R_lt a; omega
theorem R_add4 (a b c d : BitVec 32) : (R a + R b + R c + R d) % 4294967296 = R (a + b + c + d) := by
  unfold R
  simp only [BitVec.toNat_add]
  omega
theorem ru_zeros : ru (List.replicate 64 0) = Array.replicate 64 (.int .u32 0) := by
  simp [ru]
  rfl
set_option maxRecDepth 100000 in
set_option maxHeartbeats 4000000 in
theorem words_any (L : List UInt8) (hL : L.length = 64) (w : World) :
    Calls Tryz.prog 113 #[.agg (cb L).toArray] w fun e w' => e = .returned (.agg (ru (W64 L))) ∧ Below w.heap.size w w' := by
  go_enter Tryz.func113, Tryz.ntmps113
  go_wp2_with fail
  go_loopw [4, 5, 11] (fun _ _ i wr => ∃ (k : Nat) (l : Sh.V), i = .int .i64 k ∧ k ≤ 16 ∧ Fill (W64 L) k l ∧ Blk wr w.heap.size 146 (cb L).toArray ∧ Blk wr (w.heap.size + 1) 117 (ru (List.replicate 64 0)) ∧ Blk wr (w.heap.size + 1 + 1) 117 (ru l) ∧ Below w.heap.size w wr ∧ w.heap.size + 3 ≤ wr.heap.size)
    (fun _ _ i _ => 16 - (intOf i).toNat)
  case atStart =>
    refine ⟨0, List.replicate 64 0, rfl, by omega, ?_, ?_, ?_, ?_, ?_, ?_⟩
    · have := Fill.zero (W64 L)
      rw [W64_length] at this
      exact this
    · exact ((Blk.new w _ _).alloc _).alloc _
    · rw [ru_zeros]
      exact (Blk.new2 _ _ _ _).alloc _
    · rw [ru_zeros]
      exact Blk.new3 _ _ _ _ _
    · exact (((Below.refl _ w).alloc (Nat.le_refl _) _).alloc (by simp) _).alloc (by simp; omega) _
    · simp
  case round =>
    obtain ⟨k, l, rfl, hk, HF, H1, H2, H3, HB, hsz⟩ := hrel
    have hH2 := Lib.hid H2
    have hHF := Lib.hid HF
    have hH1 := Lib.hid H1
    have hH3 := Lib.hid H3
    have hHB := Lib.hid HB
    have hlen : l.length = 64 := by rw [HF.len, W64_length]
    by_cases hlt : k < 16
    · have c0 := Blk.by H1 (4 * k) (by omega)
      have c1 := Blk.by H1 (4 * k + 1) (by omega)
      have c2 := Blk.by H1 (4 * k + 2) (by omega)
      have c3 := Blk.by H1 (4 * k + 3) (by omega)
      have d1 := Blk.ru H3 k (by omega)
      have d2 := Blk.frozen H3 k
      have hcut := run_cut_array 146 5 64 Tryz.underlying146 size_u8 w.heap.size (4 * k) (4 * k + 4) (by omega) (by omega) (by omega) (4 * (k : Int)) (4 * (k : Int) + 4) (by omega) (by omega)
      rw [show 4 * k + 4 - 4 * k = 4 by omega] at hcut
      have hbe := be4_or L k
      generalize zw (L.getD (4 * k) 0) = a0 at c0 hbe
      generalize zw (L.getD (4 * k + 1) 0) = a1 at c1 hbe
      generalize zw (L.getD (4 * k + 2) 0) = a2 at c2 hbe
      generalize zw (L.getD (4 * k + 3) 0) = a3 at c3 hbe
      have HBE := Lib.hid hbe
      generalize l.getD k 0 = x0 at d1
      have HV : Hid (bits BinOp.or IntKind.u32 (bits BinOp.or IntKind.u32 (bits BinOp.or IntKind.u32 (R a0 % 4294967296 * 16777216 % 4294967296) (R a1 % 4294967296 * 65536 % 4294967296)) (R a2 % 4294967296 * 256 % 4294967296)) (R a3 % 4294967296) = R (Sh.be4 L k)) := by
        refine Lib.hid ?_
        have r0 : R a0 * (16777216 : Int) % (4294967296 : Int) = R (a0 <<< 24) := R_shl _ 24
        have r1 : R a1 * (65536 : Int) % (4294967296 : Int) = R (a1 <<< 16) := R_shl _ 16
        have r2 : R a2 * (256 : Int) % (4294967296 : Int) = R (a2 <<< 8) := R_shl _ 8
        rw [hbe, R_mod, R_mod, R_mod, R_mod, r0, r1, r2, R_or, R_or, R_or]
      clear HF H1 H2 H3 HB hbe
      go_wp2_with fail
      go_region
      go_wp2_with fail
      rw [HV.out]
      go_roundw
      case rel =>
        exact ⟨k + 1, l.set k (Sh.be4 L k), by go_num, by omega, hHF.out.next (by rw [W64_length]; omega) (W64_low L k hlt).symm, ((hH1.out.far (by simp; omega) _)).drew, ((hH2.out.far (by simp) _)).drew, (hH3.out.ruSet k _).drew, (hHB.out.setCell (by simp; omega) _).drew, by simpa [World.setCell] using hsz⟩
      case measure => simp [intOf]; omega
    · obtain rfl : k = 16 := by omega
      clear HF H1 H2 H3 HB hlen
      rw [show ((16 : Nat) : Int) = 16 from rfl]
      go_wp2_with fail
      go_loopw [6, 7, 8, 9, 10] (fun i _ _ _ _ wr => ∃ (k : Nat) (l : Sh.V), i = .int .i64 (k : Int) ∧ 16 ≤ k ∧ k ≤ 64 ∧ Fill (W64 L) k l ∧ Blk wr (w.heap.size + 1) 117 (ru (List.replicate 64 0)) ∧ Blk wr (w.heap.size + 1 + 1) 117 (ru l) ∧ Below w.heap.size w wr ∧ w.heap.size + 3 ≤ wr.heap.size)
        (fun i _ _ _ _ _ => 64 - (intOf i).toNat)
      case atStart => exact ⟨16, l, rfl, by omega, by omega, hHF.out, hH2.out, hH3.out, hHB.out, hsz⟩
      case round =>
        obtain ⟨k, l, rfl, hk1, hk2, HF, H2, H3, HB, hsz⟩ := hrel
        have hHF := Lib.hid HF
        have hH2 := Lib.hid H2
        have hH3 := Lib.hid H3
        have hHB := Lib.hid HB
        have hlen : l.length = 64 := by rw [HF.len, W64_length]
        by_cases hlt : k < 64
        · obtain ⟨n, hkn⟩ : ∃ n, k = n + 16 := ⟨k - 16, by omega⟩
          have c0 := Blk.ru H3 n (by omega)
          have c1 := Blk.ru H3 (n + 1) (by omega)
          have c2 := Blk.ru H3 (n + 9) (by omega)
          have c3 := Blk.ru H3 (n + 14) (by omega)
          have d1 := Blk.ru H3 k (by omega)
          have d2 := Blk.frozen H3 k
          have hre := W64_rec L k hk1 hlt
          rw [show k - 16 = n by omega, show k - 15 = n + 1 by omega, show k - 7 = n + 9 by omega, show k - 2 = n + 14 by omega, ← HF.low n (by omega), ← HF.low (n + 1) (by omega), ← HF.low (n + 9) (by omega), ← HF.low (n + 14) (by omega)] at hre
          generalize l.getD n 0 = a0 at c0 hre
          generalize l.getD (n + 1) 0 = a1 at c1 hre
          generalize l.getD (n + 9) 0 = a2 at c2 hre
          generalize l.getD (n + 14) 0 = a3 at c3 hre
          generalize l.getD k 0 = x0 at d1
          have HRE := Lib.hid hre
          have e1 : (k : Int) - 15 = ((n + 1 : Nat) : Int) := by omega
          have e2 : (k : Int) - 2 = ((n + 14 : Nat) : Int) := by omega
          have e3 : (k : Int) - 16 = (n : Int) := by omega
          have e4 : (k : Int) - 7 = ((n + 9 : Nat) : Int) := by omega
          have hki : (k : Int) < 64 := by omega
          clear hkn
          have r1 : R a1 / (8 : Int) = R (a1 >>> 3) := R_shr _ 3
          have r2 : R a3 / (1024 : Int) = R (a3 >>> 10) := R_shr _ 10
          have x1 := R_xor (Sh.rr a1 7) (Sh.rr a1 18)
          have x2 : bits BinOp.xor IntKind.u32 (R (Sh.rr a1 7 ^^^ Sh.rr a1 18)) (R (a1 >>> 3)) = R (Sh.s0 a1) := R_xor _ _
          have x3 := R_xor (Sh.rr a3 17) (Sh.rr a3 19)
          have x4 : bits BinOp.xor IntKind.u32 (R (Sh.rr a3 17 ^^^ Sh.rr a3 19)) (R (a3 >>> 10)) = R (Sh.s1 a3) := R_xor _ _
          clear HF H2 H3 HB hre hlen
          go_wp2_with fail
          go_quiet (fail)
          go_wp2_with fail
          refine (rot_7 a1 _).mono ?_
          rintro e w1 ⟨rfl, rfl⟩
          go_wp2_with fail
          refine (rot_18 a1 _).mono ?_
          rintro e w1 ⟨rfl, rfl⟩
          go_wp2_with fail
          refine (rot_17 a3 _).mono ?_
          rintro e w1 ⟨rfl, rfl⟩
          go_wp2_with fail
          refine (rot_19 a3 _).mono ?_
          rintro e w1 ⟨rfl, rfl⟩
          go_wp2_with fail
          go_region
          go_wp2_with fail
          have HV : Hid ((R a0 + R (Sh.s0 a1) + R a2 + R (Sh.s1 a3)) % 4294967296 = R ((W64 L).getD k 0)) := Lib.hid (by rw [HRE.out]; exact R_add4 _ _ _ _)
          rw [HV.out]
          go_roundw
          case rel => exact ⟨k + 1, l.set k ((W64 L).getD k 0), by go_num, by omega, by omega, hHF.out.next (by rw [W64_length]; omega) rfl, Blk.far (w := wr.drewN _) hH2.out (by simp) _, Blk.ruSet (w := wr.drewN _) hH3.out k _, (below_drewN hHB.out _).setCell (by simp; omega) _, by simpa [World.setCell] using hsz⟩
          case measure => simp [intOf]; omega
        · obtain rfl : k = 64 := by omega
          have hl := hHF.out.done (by rw [W64_length]; exact Nat.le_refl 64)
          subst hl
          have hz := hHB.out
          clear HF H2 H3 HB
          go_wp2_with (first | (refine wpList_load_row rfl 117 _ rfl (w.heap.size + 1 + 1) rfl 117 (ru (W64 L)) (0, 0) _ hH3.out Tryz.underlying117 rfl (words_sz L) ?_) | (refine wpList_store_row rfl 117 _ _ rfl (w.heap.size + 1) (ru (W64 L)) rfl rfl 117 (ru (List.replicate 64 0)) hH2.out (words_sz L) (words_zs L) (ru_one _) ?_))
          refine bodyPost_ret (results_cell_row rfl _ _ (w.heap.size + 1) 117 (ru (W64 L)) (0, 0) _ rfl (hH2.out.row _) Tryz.underlying117 rfl (words_sz L)) rfl ?_
          exact ⟨rfl, Kept.below hz (Kept.setRow (S := fun x => x = w.heap.size + 1) (Kept.refl _ _) (.inl rfl) _) (fun x hx => by omega) (by omega)⟩
end Go.Proofs.YtfjdcopndkdbmaaGreatDoor

namespace Go.Proofs.YtfjdcopndkdbmaaGreatDoor
open Go.RowKit

/-- The tables hold what their text says. -/
structure Tab (w : World) : Prop where
  K : ∀ i, i < 64 → w.cell? ⟨1, i, none⟩ = some (.int .u32 (R (Sh.K.getD i 0)))
  H : ∀ i, i < 8 → w.cell? ⟨0, i, none⟩ = some (.int .u32 (R (Sh.H0.getD i 0)))
theorem cell_lt {w : World} {g i : Nat} {v : Value} (h : w.cell? ⟨g, i, none⟩ = some v) : g < w.heap.size := by
  rcases Nat.lt_or_ge g w.heap.size with hlt | hge
  · exact hlt
  · simp [World.cell?, Array.getElem?_eq_none hge] at h
theorem Tab.ltK {w : World} (h : Tab w) : 1 < w.heap.size := cell_lt (h.K 0 (by decide))
theorem Tab.ltH {w : World} (h : Tab w) : 0 < w.heap.size := cell_lt (h.H 0 (by decide))
theorem Tab.below {w w' : World} {B : Nat} (h : Tab w) (hb : Below B w w') (hK : 1 < B) (hH : 0 < B) : Tab w' :=
  ⟨fun i hi => (hb.cell (p := ⟨1, i, none⟩) hK).trans (h.K i hi), fun i hi => (hb.cell (p := ⟨0, i, none⟩) hH).trans (h.H i hi)⟩
theorem Tab.next {w w' : World} (h : Tab w) (hb : Below w.heap.size w w') : Tab w' := h.below hb h.ltK h.ltH

/-- An array by value, at a place. -/
theorem run_index_arr {P : Program} (t e : TypeId) (n : Nat) (cs : Array Value) (i : Nat) (z : Int) (k : IntKind) (h : P.underlying t = some (.array n e)) (hs : (P.info? e).map (·.size) = some 1) (hue : P.underlying e = some (.int k)) (hi : i < n) (hc : cs[i]? = some (.int k z)) (w : World) :
    (Instr.index t (.agg cs) (.int .i64 (i : Int))).run P w = .ok (.int k z) w := by
  cases hq : P.info? e with
  | none => simp [hq] at hs
  | some j =>
    have hj : j.size = 1 := by simpa [hq] using hs
    have hsz : i < cs.size := (Array.getElem?_eq_some_iff.1 hc).1
    have hg : cs[i] = .int k z := (Array.getElem?_eq_some_iff.1 hc).2
    have hagg : (isAgg e).run P w = .ok false w := by
      unfold isAgg
      rw [Sem.run_bind, run_underlying hue w]
      rfl
    simp [Instr.index, run_underlying h, asIntOf, sizeOf, typeInfo, hq, hj, hi, hagg, hc, go_sem]

/-- A whole array out of its cells. -/
theorem run_loadVar_cells {P : Program} (w : World) (a : Addr) (ty : TypeId) (cs : List Value) (d : TypeDesc) (hc : ∀ j v, cs[j]? = some v → w.cell? (a.add j) = some v)
    (hu : P.underlying ty = some d) (hd : (match d with | .struct _ | .array _ _ => true | _ => false) = true) (hi : (P.info? ty).map (·.size) = some cs.length) :
    (loadVar ty a).run P w = .ok (.agg cs.toArray) w := by
  have hl := run_loadCells_list (P := P) w a cs hc
  cases hq : P.info? ty with
  | none => simp [hq] at hi
  | some i =>
    have hs : i.size = cs.length := by simpa [hq] using hi
    have hagg : (isAgg ty).run P w = .ok true w := by
      unfold isAgg
      rw [Sem.run_bind, run_underlying hu w]
      cases d <;> simp_all
    simp [loadVar, Sem.run_bind, hagg, sizeOf, typeInfo, hq, hs, hl]
theorem wpList_load_cells {P : Program} {ops : Array Oper} {rest : List Oper} {o : Oper} {a : Act} {w : World} {Q : Exit → Act → World → Prop} (hgd : o.guard = none) (ty : TypeId) (x : Operand) (ho : o.op = .load ty x)
    (p : Addr) (hx : a.eval x = .pointer (some p)) (cs : List Value) (d : TypeDesc) (hc : ∀ j v, cs[j]? = some v → w.cell? (p.add j) = some v)
    (hu : P.underlying ty = some d) (hd : (match d with | .struct _ | .array _ _ => true | _ => false) = true) (hi : (P.info? ty).map (·.size) = some cs.length)
    (h : wpList P ops Q rest (a.put o.dst (.agg cs.toArray)) w) : wpList P ops Q (o :: rest) a w := by
  refine wpList_plain hgd fun K hK => ?_
  unfold Oper.wp execOp
  simp only [ho, hx, Instr.loadAt, Instr.sureAddr, Sem.run_bind, Sem.run_pure, Result.andThen_ok, run_loadVar_cells w p ty cs d hc hu hd hi]
  exact hK _ _ h

theorem ch_xor (e f g : BitVec 32) : (e &&& f) ^^^ (~~~ e &&& g) = Sh.ch e f g := by
  unfold Sh.ch
  apply BitVec.eq_of_getLsbD_eq
  intro i hi
  simp only [BitVec.getLsbD_xor, BitVec.getLsbD_and, BitVec.getLsbD_or, BitVec.getLsbD_not, hi, decide_true, Bool.true_and]
  cases e.getLsbD i <;> cases f.getLsbD i <;> cases g.getLsbD i <;> rfl
theorem maj_xor (a b c : BitVec 32) : (a &&& b) ^^^ (a &&& c) ^^^ (b &&& c) = Sh.maj a b c := by
  unfold Sh.maj
  apply BitVec.eq_of_getLsbD_eq
  intro i hi
  simp only [BitVec.getLsbD_xor, BitVec.getLsbD_and, BitVec.getLsbD_or]
  cases a.getLsbD i <;> cases b.getLsbD i <;> cases c.getLsbD i <;> rfl
end Go.Proofs.YtfjdcopndkdbmaaGreatDoor

namespace Go.Proofs.YtfjdcopndkdbmaaGreatDoor
open Go.RowKit

theorem sz8 : (Tryz.prog.info? 116).map (·.size) = some 8 := by kernel_rfl
theorem sz8_of {l : Sh.V} (h : l.length = 8) : (Tryz.prog.info? 116).map (·.size) = some (ru l).size := by rw [ru_size, h]; exact sz8
theorem sz64b : (Tryz.prog.info? 146).map (·.size) = some 64 := by kernel_rfl
theorem sz64b_of {l : List UInt8} (h : l.length = 64) : (Tryz.prog.info? 146).map (·.size) = some (cb l).toArray.size := by rw [List.size_toArray, cb_length, h]; exact sz64b
theorem info_u32 : (Tryz.prog.info? 115).map (·.size) = some 1 := by kernel_rfl
theorem R_com (a : BitVec 32) : bits BinOp.xor IntKind.u32 IntKind.u32.max (R a) = R (~~~ a) := by
  have h := R_xor (BitVec.allOnes 32) a
  rw [BitVec.allOnes_xor] at h
  exact h
theorem R_add5 (a b c d e : BitVec 32) : (R a + R b + R c + R d + R e) % 4294967296 = R (a + b + c + d + e) := by
  unfold R
  simp only [BitVec.toNat_add]
  omega
/-- Rounds, one by one. -/
theorem rounds_next (ws x : Sh.V) (n : Nat) {a b c d e f g h : BitVec 32} (hx : Sh.rounds ws x n = [a, b, c, d, e, f, g, h]) :
    Sh.rounds ws x (n + 1) = [(h + Sh.S1 e + Sh.ch e f g + Sh.K.getD n 0 + ws.getD n 0) + (Sh.S0 a + Sh.maj a b c), a, b, c, d + (h + Sh.S1 e + Sh.ch e f g + Sh.K.getD n 0 + ws.getD n 0), e, f, g] := by
  rw [Sh.rounds, hx]
  rfl
theorem eight {l : Sh.V} (h : l.length = 8) : ∃ a b c d e f g i, l = [a, b, c, d, e, f, g, i] := by
  match l, h with
  | [a, b, c, d, e, f, g, i], _ => exact ⟨a, b, c, d, e, f, g, i, rfl⟩
/-- The numbers behind a block. -/
noncomputable def blk (h : Sh.V) (L : List UInt8) : Sh.V := Classical.choose (⟨Sh.block h L, rfl⟩ : ∃ v, v = Sh.block h L)
theorem blk_eq (h : Sh.V) (L : List UInt8) : blk h L = Sh.block h L := Classical.choose_spec (⟨Sh.block h L, rfl⟩ : ∃ v, v = Sh.block h L)
theorem blk_of (h : Sh.V) (L : List UInt8) : blk h L = List.zipWith (· + ·) h (Sh.rounds (W64 L) h 64) := by rw [blk_eq, W64_eq]; rfl
theorem blk_length (h : Sh.V) (L : List UInt8) (hh : h.length = 8) : (blk h L).length = 8 := by rw [blk_eq]; exact Sh.block_length h L hh
theorem blk_at (h : Sh.V) (L : List UInt8) (X : Sh.V) (hX : Sh.rounds (W64 L) h 64 = X) (hh : h.length = 8) (hl : X.length = 8) (i : Nat) (hi : i < 8) : (blk h L).getD i 0 = h.getD i 0 + X.getD i 0 := by
  rw [blk_of, hX]
  simp [List.getD_eq_getElem?_getD, hh, hl, hi]
/-- A row that is turned place by place. -/
structure Turn (h W : Sh.V) (i : Nat) (l : Sh.V) : Prop where
  len : l.length = W.length
  low : ∀ j, j < i → l.getD j 0 = W.getD j 0
  high : ∀ j, i ≤ j → l.getD j 0 = h.getD j 0
theorem Turn.next {h W l : Sh.V} {i : Nat} (t : Turn h W i l) (hi : i < W.length) {x : BitVec 32} (hx : x = W.getD i 0) : Turn h W (i + 1) (l.set i x) := by
  have f := (Fill.mk t.len t.low).next hi hx
  refine ⟨f.len, f.low, fun j hj => ?_⟩
  have := t.high j (by omega)
  rw [← this]
  simp only [List.getD_eq_getElem?_getD]
  rw [List.getElem?_set_ne (by omega)]
theorem Turn.done {h W l : Sh.V} {i : Nat} (t : Turn h W i l) (hi : W.length ≤ i) : l = W := (Fill.mk t.len t.low).done hi

set_option maxRecDepth 100000 in
set_option maxHeartbeats 4000000 in
theorem process_any (h : Sh.V) (hh : h.length = 8) (L : List UInt8) (hL : L.length = 64) (w : World) (hT : Tab w) :
    Calls Tryz.prog 98 #[.agg (ru h), .agg (cb L).toArray] w fun e w' => e = .returned (.agg (ru (blk h L))) ∧ Below w.heap.size w w' := by
  have hTl := hT.ltK
  have hTh := hT.ltH
  have hHT := Lib.hid hT
  clear hT
  go_enter Tryz.func98, Tryz.ntmps98
  go_wp2_with (refine wpList_load_row rfl 146 _ rfl (w.heap.size + 1) rfl 146 (cb L).toArray (0, 0) _ (Blk.alloc (Blk.new2 _ _ _ _) _) Tryz.underlying146 rfl (sz64b_of hL) ?_)
  refine (words_any L hL _).mono ?_
  rintro e w1 ⟨rfl, hb1⟩
  have hbA : Below w.heap.size w (((w.alloc (.cells (ru h) 116)).alloc (.cells (cb L).toArray 146)).alloc (.cells #[.int .u32 0, .int .u32 0, .int .u32 0, .int .u32 0, .int .u32 0, .int .u32 0, .int .u32 0, .int .u32 0] 116)) :=
    (((Below.refl _ w).alloc (Nat.le_refl _) _).alloc (by simp) _).alloc (by simp; omega) _
  have hsz1 : w.heap.size + 3 ≤ w1.heap.size := by have := hb1.size; simp at this; omega
  have B0 : Blk w1 w.heap.size 116 (ru h) := Blk.of (((Blk.new w _ _).alloc _).alloc _) (hb1.block _ (by simp; omega))
  have B2 : Blk w1 (w.heap.size + 1 + 1) 116 _ := Blk.of (Blk.new3 _ _ _ _ _) (hb1.block _ (by simp))
  have hB1 : Below w.heap.size w w1 := hbA.trans (hb1.mono hbA.size)
  have hB0 := Lib.hid B0
  have hB2 := Lib.hid B2
  have hHB := Lib.hid hB1
  clear hb1 hbA B0 B2 hB1
  go_wp2_with (refine wpList_store_row rfl 117 _ _ rfl w1.heap.size (ru (W64 L)) rfl rfl 117 _ (Blk.new w1 _ _) (words_sz L) (by rw [ru_size, W64_length]; rfl) (ru_one _) ?_)
  have C0 := Lib.hid ((hB0.out.alloc _).rowFar (by omega) _ : Blk ((w1.alloc (.cells (Array.replicate 64 (.int .u32 0)) 117)).setRow w1.heap.size (ru (W64 L))) w.heap.size 116 (ru h))
  have C2 := Lib.hid ((hB2.out.alloc _).rowFar (by omega) _ : Blk ((w1.alloc (.cells (Array.replicate 64 (.int .u32 0)) 117)).setRow w1.heap.size (ru (W64 L))) (w.heap.size + 1 + 1) 116 _)
  have CW := Lib.hid ((Blk.new w1 117 (Array.replicate 64 (.int .u32 0))).row (ru (W64 L)))
  have CB := Lib.hid (Kept.below hHB.out (Kept.setRow (S := fun b => b = w1.heap.size) (Kept.alloc (Kept.refl _ w1) (.cells (Array.replicate 64 (.int .u32 0)) 117)) (.inl rfl) (ru (W64 L))) (fun x hx => by omega) (by omega))
  rw [show (#[.int .u32 0, .int .u32 0, .int .u32 0, .int .u32 0, .int .u32 0, .int .u32 0, .int .u32 0, .int .u32 0, .int .u32 0, .int .u32 0, .int .u32 0, .int .u32 0, .int .u32 0, .int .u32 0, .int .u32 0, .int .u32 0, .int .u32 0, .int .u32 0, .int .u32 0, .int .u32 0, .int .u32 0, .int .u32 0, .int .u32 0, .int .u32 0, .int .u32 0, .int .u32 0, .int .u32 0, .int .u32 0, .int .u32 0, .int .u32 0, .int .u32 0, .int .u32 0, .int .u32 0, .int .u32 0, .int .u32 0, .int .u32 0, .int .u32 0, .int .u32 0, .int .u32 0, .int .u32 0, .int .u32 0, .int .u32 0, .int .u32 0, .int .u32 0, .int .u32 0, .int .u32 0, .int .u32 0, .int .u32 0, .int .u32 0, .int .u32 0, .int .u32 0, .int .u32 0, .int .u32 0, .int .u32 0, .int .u32 0, .int .u32 0, .int .u32 0, .int .u32 0, .int .u32 0, .int .u32 0, .int .u32 0, .int .u32 0, .int .u32 0, .int .u32 0] : Array Value) = Array.replicate 64 (.int .u32 0) from rfl]
  generalize (w1.alloc (.cells (Array.replicate 64 (.int .u32 0)) 117)).setRow w1.heap.size (ru (W64 L)) = w2 at C0 C2 CW CB ⊢
  have CT := Lib.hid (hHT.out.below CB.out hTl hTh)
  obtain ⟨h0, h1, h2, h3, h4, h5, h6, h7, rfl⟩ := eight hh
  have c0 : w2.cell? ⟨w.heap.size, 0, none⟩ = some (.int .u32 (R h0)) := Blk.ru C0.out 0 (by simp)
  have c1 : w2.cell? ⟨w.heap.size, 1, none⟩ = some (.int .u32 (R h1)) := Blk.ru C0.out 1 (by simp)
  have c2 : w2.cell? ⟨w.heap.size, 2, none⟩ = some (.int .u32 (R h2)) := Blk.ru C0.out 2 (by simp)
  have c3 : w2.cell? ⟨w.heap.size, 3, none⟩ = some (.int .u32 (R h3)) := Blk.ru C0.out 3 (by simp)
  have c4 : w2.cell? ⟨w.heap.size, 4, none⟩ = some (.int .u32 (R h4)) := Blk.ru C0.out 4 (by simp)
  have c5 : w2.cell? ⟨w.heap.size, 5, none⟩ = some (.int .u32 (R h5)) := Blk.ru C0.out 5 (by simp)
  have c6 : w2.cell? ⟨w.heap.size, 6, none⟩ = some (.int .u32 (R h6)) := Blk.ru C0.out 6 (by simp)
  have c7 : w2.cell? ⟨w.heap.size, 7, none⟩ = some (.int .u32 (R h7)) := Blk.ru C0.out 7 (by simp)
  go_wp2_with fail
  go_quiet (fail)
  go_wp2_with fail
  go_quiet (fail)
  go_wp2_with fail
  go_loopw [6, 7, 8, 9, 10, 11, 12, 13, 14, 15, 16, 17, 18, 39] (fun s0 s1 s2 s3 s4 s5 s6 s7 _ _ _ _ _ i wr => ∃ (k q : Nat) (x0 x1 x2 x3 x4 x5 x6 x7 : BitVec 32), i = .int .i64 k ∧ k ≤ 64 ∧ s0 = .int .u32 (R x0) ∧ s1 = .int .u32 (R x1) ∧ s2 = .int .u32 (R x2) ∧ s3 = .int .u32 (R x3) ∧ s4 = .int .u32 (R x4) ∧ s5 = .int .u32 (R x5) ∧ s6 = .int .u32 (R x6) ∧ s7 = .int .u32 (R x7) ∧ Sh.rounds (W64 L) [h0, h1, h2, h3, h4, h5, h6, h7] k = [x0, x1, x2, x3, x4, x5, x6, x7] ∧ wr = w2.drewN q)
    (fun _ _ _ _ _ _ _ _ _ _ _ _ _ i _ => 64 - (intOf i).toNat)
  case atStart => exact ⟨0, _, h0, h1, h2, h3, h4, h5, h6, h7, rfl, by omega, rfl, rfl, rfl, rfl, rfl, rfl, rfl, rfl, rfl, World.drewN_drewN _ _ _⟩
  case round =>
    obtain ⟨k, q, x0, x1, x2, x3, x4, x5, x6, x7, rfl, hk, rfl, rfl, rfl, rfl, rfl, rfl, rfl, rfl, hro, rfl⟩ := hrel
    clear c0 c1 c2 c3 c4 c5 c6 c7
    have hRO := Lib.hid hro
    by_cases hlt : k < 64
    · have cK : (w2.drewN q).cell? ⟨1, k, none⟩ = some (.int .u32 (R (Sh.K.getD k 0))) := CT.out.K k hlt
      have cW : (w2.drewN q).cell? ⟨w1.heap.size, k, none⟩ = some (.int .u32 (R ((W64 L).getD k 0))) := Blk.ru CW.out k (by rw [W64_length]; omega)
      have HNX := Lib.hid (rounds_next _ _ k hro)
      generalize Sh.K.getD k 0 = kk at cK HNX
      generalize (W64 L).getD k 0 = ww at cW HNX
      generalize hw3 : w2.drewN q = w3 at cK cW ⊢
      have HW3 := Lib.hid hw3
      clear hw3
      have n4 : bits BinOp.xor IntKind.u32 IntKind.u32.max (R x4) = R (~~~ x4) := R_com x4
      have a1 := R_and x4 x5
      have a2 := R_and (~~~ x4) x6
      have a3 : bits BinOp.xor IntKind.u32 (R (x4 &&& x5)) (R (~~~ x4 &&& x6)) = R (Sh.ch x4 x5 x6) := by rw [R_xor, ch_xor]
      have m1 := R_and x0 x1
      have m2 := R_and x0 x2
      have m3 := R_and x1 x2
      have m4 := R_xor (x0 &&& x1) (x0 &&& x2)
      have m5 : bits BinOp.xor IntKind.u32 (R (x0 &&& x1 ^^^ x0 &&& x2)) (R (x1 &&& x2)) = R (Sh.maj x0 x1 x2) := by rw [R_xor, maj_xor]
      have t1 := R_xor (Sh.rr x4 6) (Sh.rr x4 11)
      have t2 : bits BinOp.xor IntKind.u32 (R (Sh.rr x4 6 ^^^ Sh.rr x4 11)) (R (Sh.rr x4 25)) = R (Sh.S1 x4) := R_xor _ _
      have u1 := R_xor (Sh.rr x0 2) (Sh.rr x0 13)
      have u2 : bits BinOp.xor IntKind.u32 (R (Sh.rr x0 2 ^^^ Sh.rr x0 13)) (R (Sh.rr x0 22)) = R (Sh.S0 x0) := R_xor _ _
      clear hro
      go_wp2_with fail
      go_big_quiet (exact Calls.quiet_of_same (rot_all _ _ (by decide) _))
      go_wp2_with fail
      refine (rot_2 x0 _).mono ?_
      rintro e w4 ⟨rfl, rfl⟩
      go_wp2_with fail
      refine (rot_13 x0 _).mono ?_
      rintro e w4 ⟨rfl, rfl⟩
      go_wp2_with fail
      refine (rot_22 x0 _).mono ?_
      rintro e w4 ⟨rfl, rfl⟩
      go_wp2_with fail
      rw [R_add5, R_add (Sh.S0 x0), R_add, R_add]
      go_roundw
      case rel => exact ⟨k + 1, _, _, x0, x1, x2, _, x4, x5, x6, by go_num, by omega, rfl, rfl, rfl, rfl, rfl, rfl, rfl, rfl, HNX.out, by rw [← HW3.out]; exact World.drewN_drewN _ _ _⟩
      case measure => simp [intOf]; omega
    · obtain rfl : k = 64 := by omega
      clear hro
      have D0 := Lib.hid (show Blk (w2.drewN q) w.heap.size 116 (ru [h0, h1, h2, h3, h4, h5, h6, h7]) from C0.out)
      have D2 := Lib.hid (show Blk (w2.drewN q) (w.heap.size + 1 + 1) 116 _ from C2.out)
      have DB := Lib.hid (below_drewN CB.out q)
      generalize w2.drewN q = w3 at D0 D2 DB ⊢
      rw [show ((64 : Nat) : Int) = 64 from rfl]
      have hX := hRO.out
      have HW := Lib.hid (fun i (hi : i < 8) => blk_at [h0, h1, h2, h3, h4, h5, h6, h7] L [x0, x1, x2, x3, x4, x5, x6, x7] hX rfl rfl i hi)
      have hwl := Lib.hid (blk_length [h0, h1, h2, h3, h4, h5, h6, h7] L rfl)
      clear hX hRO
      go_wp2_with fail
      go_loopw [19, 20, 113] (fun _ _ i wr => ∃ (k : Nat) (l : Sh.V), i = .int .i64 k ∧ k ≤ 8 ∧ Turn [h0, h1, h2, h3, h4, h5, h6, h7] (blk [h0, h1, h2, h3, h4, h5, h6, h7] L) k l ∧ Blk wr w.heap.size 116 (ru l) ∧ Blk wr (w.heap.size + 1 + 1) 116 (ru (List.replicate 8 0)) ∧ Below w.heap.size w wr)
        (fun _ _ i _ => 8 - (intOf i).toNat)
      case atStart => exact ⟨0, _, rfl, by omega, ⟨by rw [hwl.out]; rfl, fun j hj => by omega, fun j _ => rfl⟩, D0.out, D2.out, DB.out⟩
      case round =>
        obtain ⟨k, l, rfl, hk, ht, E0, E2, EB⟩ := hrel
        have HT := Lib.hid ht
        have hE0 := Lib.hid E0
        have hE2 := Lib.hid E2
        have hEB := Lib.hid EB
        have hll : l.length = 8 := by rw [ht.len, hwl.out]
        by_cases hlt : k < 8
        · have c0 := Blk.ru E0 k (by omega)
          have c1 := Blk.frozen E0 k
          have hv := HW.out k hlt
          rw [← ht.high k (Nat.le_refl _)] at hv
          have hix := fun W => run_index_arr (P := Tryz.prog) 116 115 8 (ru [x0, x1, x2, x3, x4, x5, x6, x7]) k (R (([x0, x1, x2, x3, x4, x5, x6, x7] : Sh.V).getD k 0)) .u32 Tryz.underlying116 info_u32 Tryz.underlying115 hlt (ru_getD _ k hlt) W
          rw [show ru [x0, x1, x2, x3, x4, x5, x6, x7] = #[.int .u32 (R x0), .int .u32 (R x1), .int .u32 (R x2), .int .u32 (R x3), .int .u32 (R x4), .int .u32 (R x5), .int .u32 (R x6), .int .u32 (R x7)] from rfl] at hix
          generalize ([x0, x1, x2, x3, x4, x5, x6, x7] : Sh.V).getD k 0 = y at hix hv
          generalize l.getD k 0 = z at c0 hv
          have ha := R_add z y
          have HV := Lib.hid hv
          clear ht E0 E2 EB hv hll
          go_wp2_with fail
          go_roundw
          case rel => exact ⟨k + 1, l.set k (z + y), by go_num, by omega, HT.out.next (by rw [hwl.out]; omega) HV.out.symm, hE0.out.ruSet k _, hE2.out.far (by simp; omega) _, hEB.out.setCell (by simp) _⟩
          case measure => simp [intOf]; omega
        · obtain rfl : k = 8 := by omega
          have hl := ht.done (by rw [hwl.out]; exact Nat.le_refl 8)
          rw [hl] at hE0
          have hs := sz8_of hwl.out
          clear ht E0 E2 EB hll
          go_wp2_with (first | (refine wpList_load_row rfl 116 _ rfl w.heap.size rfl 116 (ru (blk [h0, h1, h2, h3, h4, h5, h6, h7] L)) (0, 0) _ hE0.out Tryz.underlying116 rfl hs ?_) | (refine wpList_store_row rfl 116 _ _ rfl (w.heap.size + 1 + 1) (ru (blk [h0, h1, h2, h3, h4, h5, h6, h7] L)) rfl rfl 116 (ru (List.replicate 8 0)) hE2.out hs (by rw [ru_size, ru_size, hwl.out]; rfl) (ru_one _) ?_))
          refine bodyPost_ret (results_cell_row rfl _ _ (w.heap.size + 1 + 1) 116 (ru (blk [h0, h1, h2, h3, h4, h5, h6, h7] L)) (0, 0) _ rfl (hE2.out.row _) Tryz.underlying116 rfl hs) rfl ?_
          exact ⟨rfl, Kept.below hEB.out (Kept.setRow (S := fun x => x = w.heap.size + 1 + 1) (Kept.refl _ _) (.inl rfl) _) (fun x hx => by omega) hEB.out.size⟩
end Go.Proofs.YtfjdcopndkdbmaaGreatDoor
