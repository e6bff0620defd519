/-
  The mathematics of layer 6: SHA-256, by the document's words: padding, the words of a block, a block's rounds, digests, digits; its numbers by roots of primes. No condition.
-/
namespace Go.Proofs.YthaejfbbefpojaaDoor.Sh

abbrev V := List (BitVec 32)
def rr (x : BitVec 32) (n : Nat) : BitVec 32 := x >>> n ||| x <<< (32 - n)
def s0 (x : BitVec 32) : BitVec 32 := rr x 7 ^^^ rr x 18 ^^^ (x >>> 3)
def s1 (x : BitVec 32) : BitVec 32 := rr x 17 ^^^ rr x 19 ^^^ (x >>> 10)
def S0 (x : BitVec 32) : BitVec 32 := rr x 2 ^^^ rr x 13 ^^^ rr x 22
def S1 (x : BitVec 32) : BitVec 32 := rr x 6 ^^^ rr x 11 ^^^ rr x 25
def ch (e f g : BitVec 32) : BitVec 32 := (e &&& f) ||| (~~~ e &&& g)
def maj (a b c : BitVec 32) : BitVec 32 := (a &&& b) ||| (a &&& c) ||| (b &&& c)
/-- Four bytes as a number, the greatest first. -/
def be4 (l : List UInt8) (i : Nat) : BitVec 32 := BitVec.ofNat 32 ((l.getD (4 * i) 0).toNat * 16777216 + (l.getD (4 * i + 1) 0).toNat * 65536 + (l.getD (4 * i + 2) 0).toNat * 256 + (l.getD (4 * i + 3) 0).toNat)
/-- The words of a block, as far as they are reckoned: 16, and n more. -/
def words (l : List UInt8) : Nat → V
  | 0 => (List.range 16).map (be4 l)
  | n + 1 => words l n ++ [(words l n).getD n 0 + s0 ((words l n).getD (n + 1) 0) + (words l n).getD (n + 9) 0 + s1 ((words l n).getD (n + 14) 0)]
theorem words_length (l : List UInt8) : ∀ n, (words l n).length = 16 + n
  | 0 => by simp [words]
  | n + 1 => by simp [words, words_length l n]; omega
theorem words_more (l : List UInt8) (n : Nat) (i : Nat) (h : i < 16 + n) : (words l (n + 1)).getD i 0 = (words l n).getD i 0 := by
  have hl := words_length l n
  rw [words]
  simp only [List.getD_eq_getElem?_getD]
  rw [List.getElem?_append_left (by omega)]
theorem words_from (l : List UInt8) (i : Nat) : ∀ (k n : Nat), i < 16 + n → (words l (n + k)).getD i 0 = (words l n).getD i 0
  | 0, _, _ => rfl
  | k + 1, n, h => by rw [show n + (k + 1) = (n + k) + 1 by omega, words_more l (n + k) i (by omega), words_from l i k n h]
/-- One round. -/
def round (k w : BitVec 32) (x : V) : V := match x with
  | [a, b, c, d, e, f, g, h] => [(h + S1 e + ch e f g + k + w) + (S0 a + maj a b c), a, b, c, d + (h + S1 e + ch e f g + k + w), e, f, g]
  | _ => x
def K : V := [0x428a2f98#32, 0x71374491#32, 0xb5c0fbcf#32, 0xe9b5dba5#32, 0x3956c25b#32, 0x59f111f1#32, 0x923f82a4#32, 0xab1c5ed5#32, 0xd807aa98#32, 0x12835b01#32, 0x243185be#32, 0x550c7dc3#32, 0x72be5d74#32, 0x80deb1fe#32, 0x9bdc06a7#32, 0xc19bf174#32, 0xe49b69c1#32, 0xefbe4786#32, 0x0fc19dc6#32, 0x240ca1cc#32, 0x2de92c6f#32, 0x4a7484aa#32, 0x5cb0a9dc#32, 0x76f988da#32, 0x983e5152#32, 0xa831c66d#32, 0xb00327c8#32, 0xbf597fc7#32, 0xc6e00bf3#32, 0xd5a79147#32, 0x06ca6351#32, 0x14292967#32, 0x27b70a85#32, 0x2e1b2138#32, 0x4d2c6dfc#32, 0x53380d13#32, 0x650a7354#32, 0x766a0abb#32, 0x81c2c92e#32, 0x92722c85#32, 0xa2bfe8a1#32, 0xa81a664b#32, 0xc24b8b70#32, 0xc76c51a3#32, 0xd192e819#32, 0xd6990624#32, 0xf40e3585#32, 0x106aa070#32, 0x19a4c116#32, 0x1e376c08#32, 0x2748774c#32, 0x34b0bcb5#32, 0x391c0cb3#32, 0x4ed8aa4a#32, 0x5b9cca4f#32, 0x682e6ff3#32, 0x748f82ee#32, 0x78a5636f#32, 0x84c87814#32, 0x8cc70208#32, 0x90befffa#32, 0xa4506ceb#32, 0xbef9a3f7#32, 0xc67178f2#32]
def H0 : V := [0x6a09e667#32, 0xbb67ae85#32, 0x3c6ef372#32, 0xa54ff53a#32, 0x510e527f#32, 0x9b05688c#32, 0x1f83d9ab#32, 0x5be0cd19#32]
/-- So many rounds. -/
def rounds (ws : V) (x : V) : Nat → V
  | 0 => x
  | n + 1 => round (K.getD n 0) (ws.getD n 0) (rounds ws x n)
def block (h : V) (l : List UInt8) : V := List.zipWith (· + ·) h (rounds (words l 48) h 64)
theorem round_length (k w : BitVec 32) (x : V) (h : x.length = 8) : (round k w x).length = 8 := by
  match x, h with
  | [a, b, c, d, e, f, g, h], _ => rfl
theorem rounds_length (ws x : V) (h : x.length = 8) : ∀ n, (rounds ws x n).length = 8
  | 0 => h
  | n + 1 => round_length _ _ _ (rounds_length ws x h n)
theorem block_length (h : V) (l : List UInt8) (hh : h.length = 8) : (block h l).length = 8 := by
  unfold block
  rw [List.length_zipWith, rounds_length _ _ hh, hh]
  rfl
/-- All blocks, one after the other; what is less than a block is left. -/
def blocks (h : V) (l : List UInt8) : V := if _h64 : 64 ≤ l.length then blocks (block h (l.take 64)) (l.drop 64) else h
termination_by l.length
decreasing_by rw [List.length_drop]; omega
theorem blocks_low (h : V) (l : List UInt8) (hl : l.length < 64) : blocks h l = h := by rw [blocks, dif_neg (by omega)]
theorem blocks_step (h : V) (l r : List UInt8) (hl : l.length = 64) : blocks h (l ++ r) = blocks (block h l) r := by
  rw [blocks, dif_pos (by rw [List.length_append]; omega), ← hl, List.take_left, List.drop_left]
/-- Whole blocks ahead. -/
theorem blocks_append : ∀ (n : Nat) (h : V) (l r : List UInt8), l.length = 64 * n → blocks h (l ++ r) = blocks (blocks h l) r
  | 0, h, l, r, hl => by
    have : l = [] := List.eq_nil_of_length_eq_zero (by omega)
    subst this
    rw [blocks_low h [] (by simp)]
    rfl
  | n + 1, h, l, r, hl => by
    have e : l = l.take 64 ++ l.drop 64 := (List.take_append_drop 64 l).symm
    have h1 : (l.take 64).length = 64 := by rw [List.length_take]; omega
    have h2 : (l.drop 64).length = 64 * n := by rw [List.length_drop]; omega
    have e1 : blocks h (l ++ r) = blocks (block h (l.take 64)) (l.drop 64 ++ r) := by
      conv => lhs; rw [e, List.append_assoc]
      exact blocks_step h _ _ h1
    have e2 : blocks h l = blocks (block h (l.take 64)) (l.drop 64) := by
      conv => lhs; rw [e]
      exact blocks_step h _ _ h1
    rw [e1, e2, blocks_append n _ _ _ h2]
theorem blocks_length : ∀ (n : Nat) (h : V) (l : List UInt8), l.length ≤ n → h.length = 8 → (blocks h l).length = 8 := by
  intro n
  induction n with
  | zero => intro h l hl hh; rw [blocks_low h l (by omega)]; exact hh
  | succ n ih =>
    intro h l hl hh
    by_cases h64 : 64 ≤ l.length
    · rw [blocks, dif_pos h64]
      exact ih _ _ (by rw [List.length_drop]; omega) (block_length _ _ hh)
    · rw [blocks_low h l (by omega)]; exact hh
/-- How many bytes 0 stand behind the byte 80. -/
def zeros (n : Nat) : Nat := (119 - n % 64) % 64
def be8 (n : Nat) : List UInt8 := [UInt8.ofNat (n / 72057594037927936), UInt8.ofNat (n / 281474976710656), UInt8.ofNat (n / 1099511627776), UInt8.ofNat (n / 4294967296), UInt8.ofNat (n / 16777216), UInt8.ofNat (n / 65536), UInt8.ofNat (n / 256), UInt8.ofNat n]
def pad (l : List UInt8) : List UInt8 := l ++ (0x80 :: (List.replicate (zeros l.length) 0 ++ be8 (8 * l.length)))
theorem pad_length (l : List UInt8) : (pad l).length % 64 = 0 := by
  simp only [pad, be8, zeros, List.length_append, List.length_cons, List.length_replicate, List.length_nil]
  omega
def out4 (x : BitVec 32) : List UInt8 := [UInt8.ofNat (x.toNat / 16777216), UInt8.ofNat (x.toNat / 65536), UInt8.ofNat (x.toNat / 256), UInt8.ofNat x.toNat]
def out (v : V) : List UInt8 := v.flatMap out4
theorem out_length (v : V) : (out v).length = 4 * v.length := by
  induction v with
  | nil => rfl
  | cons a r ih =>
    have e : out (a :: r) = out4 a ++ out r := by simp [out]
    rw [e, List.length_append, ih, List.length_cons]
    show 4 + 4 * r.length = _
    omega
/-- THE DIGEST. -/
def sum (l : List UInt8) : List UInt8 := out (blocks H0 (pad l))
theorem sum_length (l : List UInt8) : (sum l).length = 32 := by
  unfold sum
  rw [out_length, blocks_length _ H0 (pad l) (Nat.le_refl _) rfl]
def digit (n : Nat) : UInt8 := if n < 10 then UInt8.ofNat (48 + n) else UInt8.ofNat (87 + n)
def hex (l : List UInt8) : List UInt8 := l.flatMap fun b => [digit (b.toNat / 16), digit (b.toNat % 16)]
theorem hex_cons (b : UInt8) (l : List UInt8) : hex (b :: l) = digit (b.toNat / 16) :: digit (b.toNat % 16) :: hex l := by simp [hex]
theorem hex_length : ∀ l : List UInt8, (hex l).length = 2 * l.length
  | [] => rfl
  | b :: l => by rw [hex_cons, List.length_cons, List.length_cons, hex_length l, List.length_cons]; omega
theorem hex_get (l : List UInt8) : ∀ (i : Nat) (h : i < l.length), (hex l)[2 * i]? = some (digit (l[i].toNat / 16)) ∧ (hex l)[2 * i + 1]? = some (digit (l[i].toNat % 16)) := by
  induction l with
  | nil => intro i h; simp at h
  | cons b l ih =>
    intro i h
    rw [hex_cons]
    cases i with
    | zero => exact ⟨rfl, rfl⟩
    | succ i =>
      have := ih i (by simpa using h)
      rw [show 2 * (i + 1) = 2 * i + 1 + 1 by omega]
      simpa using this
/-- The chapter's example. -/
theorem sum_abc : hex (sum [97, 98, 99]) = [98, 97, 55, 56, 49, 54, 98, 102, 56, 102, 48, 49, 99, 102, 101, 97, 52, 49, 52, 49, 52, 48, 100, 101, 53, 100, 97, 101, 50, 50, 50, 51, 98, 48, 48, 51, 54, 49, 97, 51, 57, 54, 49, 55, 55, 97, 57, 99, 98, 52, 49, 48, 102, 102, 54, 49, 102, 50, 48, 48, 49, 53, 97, 100] := by decide +kernel

/-! ### The numbers, by roots of primes -/
def primes : List Nat := [2, 3, 5, 7, 11, 13, 17, 19, 23, 29, 31, 37, 41, 43, 47, 53, 59, 61, 67, 71, 73, 79, 83, 89, 97, 101, 103, 107, 109, 113, 127, 131, 137, 139, 149, 151, 157, 163, 167, 173, 179, 181, 191, 193, 197, 199, 211, 223, 227, 229, 233, 239, 241, 251, 257, 263, 269, 271, 277, 281, 283, 293, 307, 311]
/-- The greatest number below 2^35 whose square, or third power, is not above p times 2^64, or 2^96; its last 32 bits. -/
def rootFrom (p : Nat) (third : Bool) : Nat → Nat → Nat
  | 0, r => r
  | b + 1, r => rootFrom p third b (if (if third then (r + 2 ^ b) ^ 3 ≤ p * 2 ^ 96 else (r + 2 ^ b) ^ 2 ≤ p * 2 ^ 64) then r + 2 ^ b else r)
def root (p : Nat) (third : Bool) : Nat := rootFrom p third 35 0 % 4294967296
theorem roots_K : primes.map (fun p => BitVec.ofNat 32 (root p true)) = K := by decide +kernel
theorem roots_H : (primes.take 8).map (fun p => BitVec.ofNat 32 (root p false)) = H0 := by decide +kernel
end Go.Proofs.YthaejfbbefpojaaDoor.Sh
