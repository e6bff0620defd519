/-
  Plain mathematics of the checksum of chapter 1, over BitVec 32 and lists of bytes: the shift is linear and loses nothing; half a byte by the table is four shifts; a product by a power of the shift is that power. No condition. Nothing of the program is imported.
-/
namespace Go.Proofs.YtggecdgomgmhmaaDoor.Crc

def poly : BitVec 32 := 0xedb88320#32
def ones : BitVec 32 := 0xffffffff#32
def one : BitVec 32 := 0x80000000#32

/-- One of the eight shifts of a byte. -/
def sh (r : BitVec 32) : BitVec 32 := (r >>> 1) ^^^ (if r.getLsbD 0 then poly else 0#32)

theorem sh_odd {r : BitVec 32} (h : r.getLsbD 0 = true) : sh r = (r >>> 1) ^^^ poly := by unfold sh; rw [if_pos h]
theorem sh_even {r : BitVec 32} (h : r.getLsbD 0 = false) : sh r = r >>> 1 := by unfold sh; rw [h]; exact BitVec.xor_zero

theorem xor4 (a b c d : BitVec 32) : (a ^^^ b) ^^^ (c ^^^ d) = (a ^^^ c) ^^^ (b ^^^ d) := by ac_rfl

theorem sh_xor (a b : BitVec 32) : sh (a ^^^ b) = sh a ^^^ sh b := by
  unfold sh
  rw [xor4, BitVec.ushiftRight_xor_distrib]
  congr 1
  rw [BitVec.getLsbD_xor]
  cases a.getLsbD 0 <;> cases b.getLsbD 0 <;> decide

theorem sh_zero : sh 0#32 = 0#32 := by decide

theorem sh_eq_zero {r : BitVec 32} (h : sh r = 0#32) : r = 0#32 := by
  have hb : r.getLsbD 0 = false := by
    cases hr : r.getLsbD 0
    · rfl
    · rw [sh_odd hr] at h
      have := congrArg (·.getLsbD 31) h
      simp [poly] at this
  rw [sh_even hb] at h
  apply BitVec.eq_of_getLsbD_eq
  intro i hi
  cases i with
  | zero => simpa using hb
  | succ i =>
    have := congrArg (·.getLsbD i) h
    simp only [BitVec.getLsbD_ushiftRight, BitVec.getLsbD_zero] at this
    rw [show 1 + i = i + 1 by omega] at this
    rw [this]; simp

/-- k shifts. -/
def shN : Nat → BitVec 32 → BitVec 32
  | 0, r => r
  | k + 1, r => sh (shN k r)

theorem shN_add (i j : Nat) (r : BitVec 32) : shN (i + j) r = shN i (shN j r) := by
  induction i with
  | zero => simp [shN]
  | succ i ih => rw [show i + 1 + j = (i + j) + 1 by omega]; simp [shN, ih]

theorem shN_succ' (k : Nat) (r : BitVec 32) : shN (k + 1) r = shN k (sh r) := by
  rw [shN_add]; rfl

theorem shN_xor (k : Nat) (a b : BitVec 32) : shN k (a ^^^ b) = shN k a ^^^ shN k b := by
  induction k with
  | zero => rfl
  | succ k ih => simp [shN, ih, sh_xor]

theorem shN_zero (k : Nat) : shN k 0#32 = 0#32 := by
  induction k with
  | zero => rfl
  | succ k ih => simp [shN, ih, sh_zero]

theorem shN_eq_zero {k : Nat} {r : BitVec 32} (h : shN k r = 0#32) : r = 0#32 := by
  induction k with
  | zero => exact h
  | succ k ih => exact ih (sh_eq_zero h)

theorem xor_eq_zero {a b : BitVec 32} : a ^^^ b = 0#32 ↔ a = b := by
  constructor
  · intro h
    have : (a ^^^ b) ^^^ b = 0#32 ^^^ b := by rw [h]
    rw [BitVec.xor_assoc, BitVec.xor_self, BitVec.xor_zero, BitVec.zero_xor] at this
    exact this
  · rintro rfl; exact BitVec.xor_self

theorem shN_inj {k : Nat} {a b : BitVec 32} (h : shN k a = shN k b) : a = b := by
  rw [← xor_eq_zero, ← shN_xor] at h
  exact xor_eq_zero.1 (shN_eq_zero h)

/-- A register whose lowest k bits are 0 is only shifted. -/
theorem shN_low (k : Nat) (r : BitVec 32) (h : ∀ i, i < k → r.getLsbD i = false) : shN k r = r >>> k := by
  induction k with
  | zero => simp [shN]
  | succ k ih =>
    have e := ih (fun i hi => h i (by omega))
    simp only [shN]
    rw [e, sh_even (by simpa using h k (by omega)), ← BitVec.shiftRight_add]

/-- The registers that four shifts make of 0 to 15. -/
def tab : List Nat := [0x00000000, 0x1db71064, 0x3b6e20c8, 0x26d930ac, 0x76dc4190, 0x6b6b51f4, 0x4db26158, 0x5005713c, 0xedb88320, 0xf00f9344, 0xd6d6a3e8, 0xcb61b38c, 0x9b64c2b0, 0x86d3d2d4, 0xa00ae278, 0xbdbdf21c]

theorem tab_all : ∀ n : Fin 16, shN 4 (BitVec.ofNat 32 n.val) = BitVec.ofNat 32 (tab.getD n.val 0) := by decide

theorem low_le (r : BitVec 32) : (r &&& 15#32).toNat < 16 := by
  rw [BitVec.toNat_and]
  exact Nat.lt_of_le_of_lt Nat.and_le_right (by decide)

theorem bit15 (i : Nat) (h : i < 32) : (15#32).getLsbD i = decide (i < 4) := by
  have : ∀ j : Fin 32, (15#32).getLsbD j.val = decide (j.val < 4) := by decide
  exact this ⟨i, h⟩

theorem split16 (r : BitVec 32) : r = ((r >>> 4) <<< 4) ^^^ (r &&& 15#32) := by
  apply BitVec.eq_of_getLsbD_eq
  intro i hi
  rw [BitVec.getLsbD_xor, BitVec.getLsbD_and, BitVec.getLsbD_shiftLeft, BitVec.getLsbD_ushiftRight, bit15 i hi]
  by_cases h : i < 4
  · simp [h]
  · have : 4 + (i - 4) = i := by omega
    simp [h, hi, this]

/-- Half a byte by the table is four shifts. -/
theorem half (r : BitVec 32) : (r >>> 4) ^^^ BitVec.ofNat 32 (tab.getD (r &&& 15#32).toNat 0) = shN 4 r := by
  have e1 : shN 4 ((r >>> 4) <<< 4) = r >>> 4 := by
    rw [shN_low 4 _ (fun i hi => by rw [BitVec.getLsbD_shiftLeft]; simp [hi])]
    apply BitVec.eq_of_getLsbD_eq
    intro i hi
    rw [BitVec.getLsbD_ushiftRight, BitVec.getLsbD_shiftLeft, BitVec.getLsbD_ushiftRight, BitVec.getLsbD_ushiftRight]
    by_cases hl : i < 28
    · have h1 : 4 + i < 32 := by omega
      have h2 : ¬ 4 + i < 4 := by omega
      have h3 : 4 + i - 4 = i := by omega
      simp [h1, h3]
    · have : r.getLsbD (4 + i) = false := BitVec.getLsbD_of_ge _ _ (by omega)
      have h1 : ¬ 4 + i < 32 := by omega
      simp [h1, this]
  have e2 : shN 4 (r &&& 15#32) = BitVec.ofNat 32 (tab.getD (r &&& 15#32).toNat 0) := by
    have := tab_all ⟨(r &&& 15#32).toNat, low_le r⟩
    rw [BitVec.ofNat_toNat, BitVec.setWidth_eq] at this
    exact this
  conv => rhs; rw [split16 r, shN_xor, e1, e2]

/-- A byte as a register. -/
def bw (b : UInt8) : BitVec 32 := b.toBitVec.setWidth 32
theorem bw_toNat (b : UInt8) : (bw b).toNat = b.toNat := by simp [bw]
theorem bw_xor (b c : UInt8) : bw (b ^^^ c) = bw b ^^^ bw c := by simp [bw]
theorem bw_zero : bw 0 = 0#32 := by decide

/-- A byte is processed. -/
def inB (r : BitVec 32) (b : UInt8) : BitVec 32 := shN 8 (r ^^^ bw b)
theorem inB_xor (r s : BitVec 32) (b c : UInt8) : inB (r ^^^ s) (b ^^^ c) = inB r b ^^^ inB s c := by
  unfold inB
  rw [bw_xor, ← shN_xor]
  congr 1
  ext i hi
  simp
  cases r[i] <;> cases s[i] <;> cases (bw b)[i] <;> cases (bw c)[i] <;> rfl
theorem inB_zero (r : BitVec 32) : inB r 0 = shN 8 r := by simp [inB, bw_zero]

/-- All bytes are processed. -/
def fold (r : BitVec 32) (l : List UInt8) : BitVec 32 := l.foldl inB r
theorem fold_nil (r : BitVec 32) : fold r [] = r := rfl
theorem fold_cons (r : BitVec 32) (b : UInt8) (l : List UInt8) : fold r (b :: l) = fold (inB r b) l := rfl
theorem fold_append (r : BitVec 32) (l m : List UInt8) : fold r (l ++ m) = fold (fold r l) m := by simp [fold]
theorem fold_snoc (r : BitVec 32) (l : List UInt8) (b : UInt8) : fold r (l ++ [b]) = inB (fold r l) b := by simp [fold]

theorem fold_xor : ∀ (l m : List UInt8) (r s : BitVec 32), l.length = m.length → fold (r ^^^ s) (List.zipWith (· ^^^ ·) l m) = fold r l ^^^ fold s m
  | [], [], r, s, _ => rfl
  | [], _ :: _, _, _, h => by simp at h
  | _ :: _, [], _, _, h => by simp at h
  | b :: l, c :: m, r, s, h => by
    rw [List.zipWith_cons_cons, fold_cons, fold_cons, fold_cons, inB_xor]
    exact fold_xor l m _ _ (by simpa using h)

theorem fold_zeros (n : Nat) (r : BitVec 32) : fold r (List.replicate n 0) = shN (8 * n) r := by
  induction n generalizing r with
  | zero => rfl
  | succ n ih => rw [List.replicate_succ, fold_cons, ih, inB_zero, ← shN_add, show 8 * n + 8 = 8 * (n + 1) by omega]

theorem zip_zeros : ∀ l : List UInt8, List.zipWith (· ^^^ ·) l (List.replicate l.length 0) = l
  | [] => rfl
  | b :: l => by simp [List.replicate_succ, zip_zeros l]

/-- From another register the difference goes through as if all bytes were 0. -/
theorem fold_from (r d : BitVec 32) (l : List UInt8) : fold (r ^^^ d) l = fold r l ^^^ shN (8 * l.length) d := by
  have := fold_xor l (List.replicate l.length 0) r d (by simp)
  rw [zip_zeros, fold_zeros] at this
  exact this

/-- The checksum. -/
def sum (l : List UInt8) : BitVec 32 := fold ones l ^^^ ones

theorem sum_nil : sum [] = 0#32 := by decide
theorem sum_append (l m : List UInt8) : sum (l ++ m) = shN (8 * m.length) (sum l) ^^^ sum m := by
  unfold sum
  have e : fold ones l = ones ^^^ (fold ones l ^^^ ones) := by
    rw [BitVec.xor_comm (fold ones l), ← BitVec.xor_assoc, BitVec.xor_self, BitVec.zero_xor]
  rw [fold_append]
  conv => lhs; rw [e, fold_from]
  ext i hi
  simp
  cases (fold ones m)[i] <;> cases (shN (8 * m.length) (fold ones l ^^^ ones))[i] <;> cases ones[i] <;> rfl
/-- Going on from a checksum. -/
def ext (s : BitVec 32) (l : List UInt8) : BitVec 32 := fold (s ^^^ ones) l ^^^ ones
theorem ext_sum (l m : List UInt8) : ext (sum l) m = sum (l ++ m) := by
  unfold ext sum
  rw [BitVec.xor_assoc, BitVec.xor_self, BitVec.xor_zero, fold_append]

/-! ### Products -/
def prodN (a b : BitVec 32) : Nat → BitVec 32
  | 0 => 0#32
  | i + 1 => if a.getLsbD (31 - i) then prodN a b i ^^^ shN i b else prodN a b i
def mul (a b : BitVec 32) : BitVec 32 := prodN a b 32

theorem prodN_sh (a b : BitVec 32) (i : Nat) : prodN a (sh b) i = sh (prodN a b i) := by
  induction i with
  | zero => exact sh_zero.symm
  | succ i ih =>
    simp only [prodN]
    split
    · rw [ih, sh_xor, ← shN_succ']; rfl
    · exact ih

theorem shN_one (i : Nat) (h : i < 32) : shN i one = BitVec.twoPow 32 (31 - i) := by
  have : ∀ j : Fin 32, shN j.val one = BitVec.twoPow 32 (31 - j.val) := by decide
  exact this ⟨i, h⟩

theorem prodN_one (a : BitVec 32) (i : Nat) (h : i ≤ 32) (j : Nat) : (prodN a one i).getLsbD j = (decide (32 - i ≤ j) && a.getLsbD j) := by
  induction i with
  | zero =>
    simp [prodN]
    intro hj
    exact BitVec.getLsbD_of_ge _ _ hj
  | succ i ih =>
    have e := ih (by omega)
    have hp := shN_one i (by omega)
    simp only [prodN]
    have key : ∀ c : Bool, c = a.getLsbD (31 - i) → ((decide (32 - i ≤ j) && a.getLsbD j) ^^ (c && decide (31 - i = j))) = (decide (32 - (i + 1) ≤ j) && a.getLsbD j) := by
      intro c hc
      by_cases hj : 31 - i = j
      · have h1 : ¬ (32 - i ≤ j) := by omega
        have h2 : 32 - (i + 1) ≤ j := by omega
        rw [hj] at hc
        rw [decide_eq_false h1, decide_eq_true h2, decide_eq_true hj, hc]; simp
      · rw [decide_eq_false hj]
        by_cases h2 : 32 - i ≤ j
        · rw [decide_eq_true h2, decide_eq_true (show 32 - (i + 1) ≤ j by omega)]; simp
        · rw [decide_eq_false h2, decide_eq_false (show ¬ 32 - (i + 1) ≤ j by omega)]; simp
    have ht : (BitVec.twoPow 32 (31 - i)).getLsbD j = decide (31 - i = j) := by
      rw [BitVec.getLsbD_twoPow, decide_eq_true (show 31 - i < 32 by omega)]; simp
    cases hb : a.getLsbD (31 - i)
    · rw [if_neg (by simp), e, ← key false hb.symm]; simp
    · rw [if_pos rfl, BitVec.getLsbD_xor, e, hp, ht, ← key true hb.symm]; simp

theorem mul_one (a : BitVec 32) : mul a one = a := by
  apply BitVec.eq_of_getLsbD_eq
  intro j hj
  rw [mul, prodN_one a 32 (Nat.le_refl _)]
  simp

theorem mul_shN (a : BitVec 32) (m : Nat) : mul a (shN m one) = shN m a := by
  induction m with
  | zero => exact mul_one a
  | succ m ih => simp only [shN, mul]; rw [prodN_sh]; exact congrArg sh ih

/-- Two checksums joined. -/
def join (a b : BitVec 32) (n : Nat) : BitVec 32 := shN (8 * n) a ^^^ b

/-- A round of the loop of Join. -/
theorem join_odd (m n : Nat) (a : BitVec 32) (h : n % 2 = 1) : shN (m * n) a = shN (2 * m * (n / 2)) (mul a (shN m one)) := by
  rw [mul_shN, ← shN_add]
  congr 1
  have e : n = 2 * (n / 2) + 1 := by omega
  conv => lhs; rw [e]
  rw [Nat.mul_add, Nat.mul_one, ← Nat.mul_assoc, Nat.mul_comm m 2]
theorem join_even (m n : Nat) (a : BitVec 32) (h : n % 2 = 0) : shN (m * n) a = shN (2 * m * (n / 2)) a := by
  congr 1
  have e : n = 2 * (n / 2) := by omega
  conv => lhs; rw [e]
  rw [← Nat.mul_assoc, Nat.mul_comm m 2]
theorem square (m : Nat) : mul (shN m one) (shN m one) = shN (2 * m) one := by
  rw [mul_shN, ← shN_add, show m + m = 2 * m by omega]
theorem zeroByte : shN 8 one = 0x00800000#32 := by decide

/-! ### Seals -/
def le4 (w : BitVec 32) : List UInt8 := [UInt8.ofNat w.toNat, UInt8.ofNat (w.toNat / 256), UInt8.ofNat (w.toNat / 65536), UInt8.ofNat (w.toNat / 16777216)]
def word (b0 b1 b2 b3 : UInt8) : BitVec 32 := bw b0 ^^^ (bw b1 <<< 8) ^^^ (bw b2 <<< 16) ^^^ (bw b3 <<< 24)

theorem shN_shl (k : Nat) (b : UInt8) (h : k ≤ 24) : shN k (bw b <<< k) = bw b := by
  rw [shN_low k _ (fun i hi => by rw [BitVec.getLsbD_shiftLeft]; simp [hi])]
  apply BitVec.eq_of_getLsbD_eq
  intro i hi
  rw [BitVec.getLsbD_ushiftRight, BitVec.getLsbD_shiftLeft, show k + i - k = i by omega, decide_eq_false (show ¬ k + i < k by omega)]
  by_cases h8 : i < 8
  · rw [decide_eq_true (show k + i < 32 by omega)]; simp
  · have : (bw b).getLsbD i = false := by
      unfold bw
      rw [BitVec.getLsbD_setWidth, BitVec.getLsbD_of_ge b.toBitVec i (by omega)]; simp
    rw [this]; simp

theorem fold_four (r : BitVec 32) (b0 b1 b2 b3 : UInt8) : fold r [b0, b1, b2, b3] = shN 32 (r ^^^ word b0 b1 b2 b3) := by
  have x16 : ∀ x : BitVec 32, shN 16 x = shN 8 (shN 8 x) := fun x => shN_add 8 8 x
  have x24 : ∀ x : BitVec 32, shN 24 x = shN 8 (shN 8 (shN 8 x)) := fun x => (shN_add 8 16 x).trans (congrArg (shN 8) (x16 x))
  have e0 : ∀ x : BitVec 32, shN 32 x = shN 8 (shN 8 (shN 8 (shN 8 x))) := fun x => (shN_add 8 24 x).trans (congrArg (shN 8) (x24 x))
  have e1 : shN 32 (bw b1 <<< 8) = shN 8 (shN 8 (shN 8 (bw b1))) := by
    rw [← x24]
    exact (shN_add 24 8 _).trans (congrArg (shN 24) (shN_shl 8 b1 (by omega)))
  have e2 : shN 32 (bw b2 <<< 16) = shN 8 (shN 8 (bw b2)) := by
    rw [← x16]
    exact (shN_add 16 16 _).trans (congrArg (shN 16) (shN_shl 16 b2 (by omega)))
  have e3 : shN 32 (bw b3 <<< 24) = shN 8 (bw b3) :=
    (shN_add 8 24 _).trans (congrArg (shN 8) (shN_shl 24 b3 (by omega)))
  simp only [fold_cons, fold_nil, inB, word, shN_xor]
  rw [e1, e2, e3, e0 r, e0 (bw b0)]
  ac_rfl

theorem bw_ofNat (n : Nat) : bw (UInt8.ofNat n) = BitVec.ofNat 32 (n % 256) := by
  apply BitVec.eq_of_toNat_eq
  rw [bw_toNat]
  simp
  omega

theorem word_le4 (w : BitVec 32) : word (UInt8.ofNat w.toNat) (UInt8.ofNat (w.toNat / 256)) (UInt8.ofNat (w.toNat / 65536)) (UInt8.ofNat (w.toNat / 16777216)) = w := by
  have hb : ∀ (k i : Nat), (bw (UInt8.ofNat (w.toNat / 2 ^ k))).getLsbD i = (decide (i < 8) && w.getLsbD (k + i)) := by
    intro k i
    rw [bw_ofNat, BitVec.getLsbD_ofNat, show (256 : Nat) = 2 ^ 8 from rfl, Nat.testBit_mod_two_pow, Nat.testBit_div_two_pow]
    by_cases h : i < 8
    · rw [decide_eq_true h, decide_eq_true (show i < 32 by omega)]; simp [BitVec.getLsbD, Nat.add_comm]
    · rw [decide_eq_false h]; simp
  have h0 := hb 0; have h1 := hb 8; have h2 := hb 16; have h3 := hb 24
  simp only [Nat.pow_zero, Nat.div_one, Nat.zero_add] at h0
  rw [show (2 : Nat) ^ 8 = 256 from rfl] at h1
  rw [show (2 : Nat) ^ 16 = 65536 from rfl] at h2
  rw [show (2 : Nat) ^ 24 = 16777216 from rfl] at h3
  apply BitVec.eq_of_getLsbD_eq
  intro i hi
  unfold word
  rw [BitVec.getLsbD_xor, BitVec.getLsbD_xor, BitVec.getLsbD_xor, BitVec.getLsbD_shiftLeft, BitVec.getLsbD_shiftLeft, BitVec.getLsbD_shiftLeft, h0, h1, h2, h3]
  rcases (show i < 8 ∨ (8 ≤ i ∧ i < 16) ∨ (16 ≤ i ∧ i < 24) ∨ 24 ≤ i by omega) with h | ⟨h, h'⟩ | ⟨h, h'⟩ | h
  · have a1 : i < 16 := by omega
    have a2 : i < 24 := by omega
    simp [h, a1, a2]
  · have a0 : ¬ i < 8 := by omega
    have a1 : i < 24 := by omega
    have a2 : i - 8 < 8 := by omega
    have a3 : 8 + (i - 8) = i := by omega
    simp [a0, h', a1, a2, a3, hi]
  · have a0 : ¬ i < 8 := by omega
    have a1 : ¬ i < 16 := by omega
    have a2 : ¬ i - 8 < 8 := by omega
    have a3 : i - 16 < 8 := by omega
    have a4 : 16 + (i - 16) = i := by omega
    simp [a0, a1, a2, a3, a4, h', hi]
  · have a0 : ¬ i < 8 := by omega
    have a1 : ¬ i < 16 := by omega
    have a2 : ¬ i - 8 < 8 := by omega
    have a3 : ¬ i - 16 < 8 := by omega
    have a4 : ¬ i < 24 := by omega
    have a5 : i - 24 < 8 := by omega
    have a6 : 24 + (i - 24) = i := by omega
    simp [a0, a1, a2, a3, a4, a5, a6, hi]

theorem word_zero {b0 b1 b2 b3 : UInt8} (h : word b0 b1 b2 b3 = 0#32) : b0 = 0 ∧ b1 = 0 ∧ b2 = 0 ∧ b3 = 0 := by
  have hb : ∀ (b : UInt8) (i : Nat), (bw b).getLsbD i = b.toBitVec.getLsbD i := by
    intro b i
    unfold bw
    rw [BitVec.getLsbD_setWidth]
    by_cases h : i < 32
    · simp [h]
    · rw [BitVec.getLsbD_of_ge b.toBitVec i (by omega)]; simp
  have hz : ∀ (b : UInt8) (i : Nat), 8 ≤ i → b.toBitVec.getLsbD i = false := fun b i hi => BitVec.getLsbD_of_ge _ _ hi
  have key : ∀ i, (word b0 b1 b2 b3).getLsbD i = false := by intro i; rw [h]; simp
  simp only [word, BitVec.getLsbD_xor, BitVec.getLsbD_shiftLeft, hb] at key
  have fin : ∀ b : UInt8, (∀ i, i < 8 → b.toBitVec.getLsbD i = false) → b = 0 := by
    intro b hb
    apply UInt8.toBitVec_inj.1
    apply BitVec.eq_of_getLsbD_eq
    intro i hi
    rw [hb i hi]; simp
  refine ⟨fin _ fun i hi => ?_, fin _ fun i hi => ?_, fin _ fun i hi => ?_, fin _ fun i hi => ?_⟩
  · have h := key i
    rw [decide_eq_true (show i < 8 by omega), decide_eq_true (show i < 16 by omega), decide_eq_true (show i < 24 by omega)] at h
    simpa using h
  · have h := key (8 + i)
    rw [hz b0 (8 + i) (by omega), decide_eq_false (show ¬ 8 + i < 8 by omega), decide_eq_true (show 8 + i < 16 by omega), decide_eq_true (show 8 + i < 24 by omega), decide_eq_true (show 8 + i < 32 by omega), show 8 + i - 8 = i by omega] at h
    simpa using h
  · have h := key (16 + i)
    rw [hz b0 (16 + i) (by omega), hz b1 (16 + i - 8) (by omega), decide_eq_false (show ¬ 16 + i < 16 by omega), decide_eq_true (show 16 + i < 24 by omega), decide_eq_true (show 16 + i < 32 by omega), show 16 + i - 16 = i by omega] at h
    simpa using h
  · have h := key (24 + i)
    rw [hz b0 (24 + i) (by omega), hz b1 (24 + i - 8) (by omega), hz b2 (24 + i - 16) (by omega), decide_eq_false (show ¬ 24 + i < 24 by omega), decide_eq_true (show 24 + i < 32 by omega), show 24 + i - 24 = i by omega] at h
    simpa using h

theorem xor8 (a b c d x y z u : BitVec 32) : (a ^^^ x) ^^^ (b ^^^ y) ^^^ (c ^^^ z) ^^^ (d ^^^ u) = (a ^^^ b ^^^ c ^^^ d) ^^^ (x ^^^ y ^^^ z ^^^ u) := by ac_rfl

theorem word_xor (c0 c1 c2 c3 d0 d1 d2 d3 : UInt8) : word (c0 ^^^ d0) (c1 ^^^ d1) (c2 ^^^ d2) (c3 ^^^ d3) = word c0 c1 c2 c3 ^^^ word d0 d1 d2 d3 := by
  unfold word
  rw [bw_xor, bw_xor, bw_xor, bw_xor, BitVec.shiftLeft_xor_distrib, BitVec.shiftLeft_xor_distrib, BitVec.shiftLeft_xor_distrib]
  exact xor8 _ _ _ _ _ _ _ _

/-- What a right seal leaves, whatever was sealed. -/
def residue : BitVec 32 := shN 32 ones

theorem word_inj {w : BitVec 32} {b0 b1 b2 b3 : UInt8} (h : word b0 b1 b2 b3 = w) : le4 w = [b0, b1, b2, b3] := by
  have e : word (UInt8.ofNat w.toNat ^^^ b0) (UInt8.ofNat (w.toNat / 256) ^^^ b1) (UInt8.ofNat (w.toNat / 65536) ^^^ b2) (UInt8.ofNat (w.toNat / 16777216) ^^^ b3) = 0#32 := by
    rw [word_xor, word_le4, h, BitVec.xor_self]
  obtain ⟨h0, h1, h2, h3⟩ := word_zero e
  have z : ∀ a b : UInt8, a ^^^ b = 0 → a = b := by
    intro a b hab
    exact UInt8.xor_eq_zero_iff.1 hab
  unfold le4
  rw [z _ _ h0, z _ _ h1, z _ _ h2, z _ _ h3]

/-- The seal is right just if the residue is left. -/
theorem sealed_iff (l : List UInt8) (b0 b1 b2 b3 : UInt8) : le4 (sum l) = [b0, b1, b2, b3] ↔ fold ones (l ++ [b0, b1, b2, b3]) = residue := by
  rw [fold_append, fold_four, residue]
  constructor
  · intro h
    unfold le4 at h
    simp only [List.cons.injEq, and_true] at h
    obtain ⟨rfl, rfl, rfl, rfl⟩ := h
    rw [word_le4]
    unfold sum
    rw [← BitVec.xor_assoc, BitVec.xor_self, BitVec.zero_xor]
  · intro h
    have h' := shN_inj h
    apply word_inj
    unfold sum
    conv => rhs; rhs; rw [← h']
    rw [← BitVec.xor_assoc, BitVec.xor_self, BitVec.zero_xor]

theorem sealed_sum (l : List UInt8) : fold ones (l ++ le4 (sum l)) = residue := (sealed_iff l _ _ _ _).1 rfl

/-- Four bytes that stand beside one another are turned: the residue stays just if they stay. -/
theorem turned (p q : List UInt8) (c0 c1 c2 c3 d0 d1 d2 d3 : UInt8) (h : fold ones (p ++ [c0, c1, c2, c3] ++ q) = residue) :
    fold ones (p ++ [c0 ^^^ d0, c1 ^^^ d1, c2 ^^^ d2, c3 ^^^ d3] ++ q) = residue ↔ d0 = 0 ∧ d1 = 0 ∧ d2 = 0 ∧ d3 = 0 := by
  have e : fold ones (p ++ [c0 ^^^ d0, c1 ^^^ d1, c2 ^^^ d2, c3 ^^^ d3] ++ q) = residue ^^^ shN (8 * q.length + 32) (word d0 d1 d2 d3) := by
    rw [fold_append, fold_append, fold_four, word_xor, ← BitVec.xor_assoc, shN_xor, fold_from, ← shN_add]
    congr 1
    rw [← h, fold_append, fold_append, fold_four]
  rw [e]
  constructor
  · intro h
    have : shN (8 * q.length + 32) (word d0 d1 d2 d3) = 0#32 := by
      have h2 : residue ^^^ (residue ^^^ shN (8 * q.length + 32) (word d0 d1 d2 d3)) = residue ^^^ residue := by rw [h]
      rw [← BitVec.xor_assoc, BitVec.xor_self, BitVec.zero_xor] at h2
      exact h2
    exact word_zero (shN_eq_zero this)
  · rintro ⟨rfl, rfl, rfl, rfl⟩
    rw [show word 0 0 0 0 = 0#32 by decide, shN_zero, BitVec.xor_zero]

theorem le4_length (w : BitVec 32) : (le4 w).length = 4 := rfl

/-- Three texts of one length, turned by one another. -/
theorem linear (a b c : List UInt8) (h1 : a.length = b.length) (h2 : b.length = c.length) :
    sum (List.zipWith (· ^^^ ·) (List.zipWith (· ^^^ ·) a b) c) = sum a ^^^ sum b ^^^ sum c := by
  unfold sum
  have e1 := fold_xor a b ones ones h1
  have e2 := fold_xor (List.zipWith (· ^^^ ·) a b) c (ones ^^^ ones) ones (by simp; omega)
  rw [e1, BitVec.xor_self, BitVec.zero_xor] at e2
  rw [e2]
  have : ∀ x y z o : BitVec 32, x ^^^ y ^^^ z ^^^ o = (x ^^^ o) ^^^ (y ^^^ o) ^^^ (z ^^^ o) := by
    intro x y z o
    rw [xor4 x o y o, BitVec.xor_self, BitVec.xor_zero, BitVec.xor_assoc (x ^^^ y) z o]
  exact this _ _ _ _

theorem join_join (a b : BitVec 32) (m n : Nat) : join (join a 0#32 m) b n = join a b (m + n) := by
  unfold join
  rw [BitVec.xor_zero, ← shN_add, show 8 * n + 8 * m = 8 * (m + n) by omega]
theorem join_sum (l m : List UInt8) : join (sum l) (sum m) m.length = sum (l ++ m) := (sum_append l m).symm
end Go.Proofs.YtggecdgomgmhmaaDoor.Crc
