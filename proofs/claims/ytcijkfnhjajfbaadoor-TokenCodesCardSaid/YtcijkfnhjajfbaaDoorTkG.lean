/-
  The mathematics of layer 8, second part: bits that are collected, and put out in groups as soon as they are whole; what a register of 64 bits then holds. No condition.
-/
import Derived.Test.YtcijkfnhjajfbaaDoorTk
namespace Go.Proofs.YtcijkfnhjajfbaaDoor.Tk

/-- The first k groups of m bits, as numbers; all of them; what is left behind them. -/
def grpsTo (m k : Nat) (l : List Bool) : List Nat := (List.range k).map fun i => num ((l.drop (m * i)).take m)
def grps (m : Nat) (l : List Bool) : List Nat := grpsTo m (l.length / m) l
def left (m : Nat) (l : List Bool) : List Bool := l.drop (m * (l.length / m))
theorem grpsTo_succ (m k : Nat) (l : List Bool) : grpsTo m (k + 1) l = grpsTo m k l ++ [num ((l.drop (m * k)).take m)] := by
  unfold grpsTo
  rw [List.range_succ, List.map_append, List.map_cons, List.map_nil]
theorem grpsTo_length (m k : Nat) (l : List Bool) : (grpsTo m k l).length = k := by simp [grpsTo]
theorem grps_length (m : Nat) (l : List Bool) : (grps m l).length = l.length / m := grpsTo_length _ _ _
theorem left_length (m : Nat) (l : List Bool) : (left m l).length = l.length % m := by
  unfold left
  rw [List.length_drop]
  have := Nat.div_add_mod l.length m
  omega
theorem add_div_mod (m a b : Nat) (hm : 0 < m) : (a + b) / m = a / m + (a % m + b) / m := by
  have h := Nat.div_add_mod a m
  conv => lhs; rw [← h]
  rw [Nat.add_assoc, Nat.mul_add_div hm]
theorem drop_left (m : Nat) (l b : List Bool) : (l ++ b).drop (m * (l.length / m)) = left m l ++ b := by
  have := Nat.div_add_mod l.length m
  unfold left
  rw [List.drop_append_of_le_length (by omega)]
theorem grps_append (m : Nat) (hm : 0 < m) (l b : List Bool) : grps m (l ++ b) = grps m l ++ grps m (left m l ++ b) := by
  have h1 : (l ++ b).length / m = l.length / m + (left m l ++ b).length / m := by
    rw [List.length_append, List.length_append, left_length, add_div_mod m _ _ hm]
  unfold grps
  rw [h1]
  generalize hq2 : (left m l ++ b).length / m = q2
  unfold grpsTo
  rw [List.range_add, List.map_append, List.map_map]
  congr 1
  · apply List.map_congr_left
    intro i hi
    have hi' := List.mem_range.1 hi
    have hle : m * i + m ≤ l.length := by
      have h2 : m * (i + 1) ≤ m * (l.length / m) := Nat.mul_le_mul_left m hi'
      have := Nat.div_add_mod l.length m
      rw [Nat.mul_add, Nat.mul_one] at h2
      omega
    rw [List.drop_append_of_le_length (by omega), List.take_append_of_le_length (by rw [List.length_drop]; omega)]
  · apply List.map_congr_left
    intro i _
    show num (((l ++ b).drop (m * (l.length / m + i))).take m) = _
    rw [Nat.mul_add, ← List.drop_drop, drop_left]
theorem left_append (m : Nat) (hm : 0 < m) (l b : List Bool) : left m (l ++ b) = left m (left m l ++ b) := by
  have h1 : (l ++ b).length / m = l.length / m + (left m l ++ b).length / m := by
    rw [List.length_append, List.length_append, left_length, add_div_mod m _ _ hm]
  conv => lhs; unfold left
  rw [h1, Nat.mul_add, ← List.drop_drop, drop_left]
  rfl

/-- A register that holds so many bits takes in some more. -/
theorem held_in (H c b v : Nat) (hv : v < 2 ^ b) (hcb : c + b ≤ 64) : (H * 2 ^ b % 2 ^ 64 ||| v) < 2 ^ 64 ∧ (H * 2 ^ b % 2 ^ 64 ||| v) % 2 ^ (c + b) = H % 2 ^ c * 2 ^ b + v := by
  have e64 : (2 : Nat) ^ 64 = 2 ^ (64 - b) * 2 ^ b := by rw [← Nat.pow_add]; congr 1; omega
  have e1 : H * 2 ^ b % 2 ^ 64 = H % 2 ^ (64 - b) * 2 ^ b := by rw [e64, Nat.mul_mod_mul_right]
  have e2 : (H * 2 ^ b % 2 ^ 64 ||| v) = H % 2 ^ (64 - b) * 2 ^ b + v := by
    rw [e1, ← Nat.shiftLeft_eq, ← Nat.shiftLeft_add_eq_or_of_lt hv]
  refine ⟨?_, ?_⟩
  · apply Nat.or_lt_two_pow
    · exact Nat.mod_lt _ (Nat.two_pow_pos _)
    · exact Nat.lt_of_lt_of_le hv (Nat.pow_le_pow_right (by decide) (by omega))
  · rw [e2, Nat.pow_add, Nat.add_mod, Nat.mul_mod_mul_right, Nat.mod_mod_of_dvd _ (Nat.pow_dvd_pow 2 (by omega)), ← Nat.pow_add]
    have h1 : v < 2 ^ (c + b) := Nat.lt_of_lt_of_le hv (Nat.pow_le_pow_right (by decide) (by omega))
    rw [Nat.mod_eq_of_lt h1]
    apply Nat.mod_eq_of_lt
    have h2 : H % 2 ^ c < 2 ^ c := Nat.mod_lt _ (Nat.two_pow_pos _)
    have h3 : (H % 2 ^ c + 1) * 2 ^ b ≤ 2 ^ c * 2 ^ b := Nat.mul_le_mul_right _ h2
    rw [Nat.add_mul, Nat.one_mul, ← Nat.pow_add] at h3
    omega
/-- .. and puts out a group. -/
theorem held_out (H m : Nat) (p : List Bool) (hm : m ≤ p.length) (h : H % 2 ^ p.length = num p) :
    H / 2 ^ (p.length - m) % 2 ^ m = num (p.take m) ∧ H % 2 ^ (p.length - m) = num (p.drop m) := by
  have hp : num p = num (p.take m) * 2 ^ (p.length - m) + num (p.drop m) := by
    conv => lhs; rw [← List.take_append_drop m p]
    rw [num_append, List.length_drop]
  have hlt : num (p.drop m) < 2 ^ (p.length - m) := by
    have := num_lt (p.drop m)
    rwa [List.length_drop] at this
  obtain ⟨c, hc⟩ : ∃ c, p.length = c + m := ⟨p.length - m, by omega⟩
  rw [hc] at h hp hlt ⊢
  rw [Nat.add_sub_cancel] at hp hlt ⊢
  constructor
  · rw [← Nat.mod_mul_right_div_self, ← Nat.pow_add, h, hp, Nat.mul_comm, Nat.mul_add_div (Nat.two_pow_pos c), Nat.div_eq_of_lt hlt, Nat.add_zero]
  · rw [← Nat.mod_mod_of_dvd H (Nat.pow_dvd_pow 2 (show c ≤ c + m by omega)), h, hp, Nat.mul_comm, Nat.mul_add_mod, Nat.mod_eq_of_lt hlt]
theorem held_more (H b v : Nat) (p : List Bool) (hv : v < 2 ^ b) (hcb : p.length + b ≤ 64) (h : H % 2 ^ p.length = num p) : (H * 2 ^ b % 2 ^ 64 ||| v) % 2 ^ (p ++ bitsN b v).length = num (p ++ bitsN b v) := by
  rw [List.length_append, bitsN_length, (held_in H p.length b v hv hcb).2, num_append, bitsN_length, num_bitsN, Nat.mod_eq_of_lt hv, h]

/-- What comes out of all bits: digits, bytes. -/
theorem enc_grps (s : List UInt8) (k : Nat) (hk : (8 * s.length + k) % 5 = 0) (h5 : k < 5) : (grps 5 (bits s ++ bitsN k 0)).map dig = enc s := by
  have hz : bitsN k 0 = List.replicate k false := bits_eq (by rw [bitsN_length, List.length_replicate]) (by rw [num_bitsN, num_zeros]; simp)
  have hl : (bits s ++ bitsN k 0).length / 5 = (8 * s.length + 4) / 5 := by rw [List.length_append, bits_length, bitsN_length]; omega
  unfold grps enc
  rw [hl]
  unfold grpsTo
  rw [List.map_map]
  apply List.map_congr_left
  intro i hi
  have hi' := List.mem_range.1 hi
  show dig (num _) = dig (at5 (bits s) i)
  congr 1
  unfold at5
  congr 1
  rw [hz]
  have hb := bits_length s
  by_cases h : 5 * i + 5 ≤ (bits s).length
  · rw [List.drop_append_of_le_length (by omega), List.take_append_of_le_length (by rw [List.length_drop]; omega)]
    have e : (List.take 5 (List.drop (5 * i) (bits s))).length = 5 := by simp; omega
    rw [e, Nat.sub_self, List.replicate_zero, List.append_nil]
  · rw [List.drop_append_of_le_length (by omega), List.take_of_length_le (by simp; omega), List.take_of_length_le (by simp; omega)]
    congr 2
    simp
    omega
theorem bytes_grps (l : List Bool) : (grps 8 l).map (fun n => UInt8.ofNat n) = bytes l := by
  unfold grps grpsTo bytes
  rw [List.map_map]
  rfl
theorem bits_take_succ (s : List UInt8) (i : Nat) (h : i < s.length) : bits (s.take (i + 1)) = bits (s.take i) ++ bitsN 8 s[i].toNat := by
  rw [List.take_succ_eq_append_getElem h, bits_append]
  simp [bits]
theorem dbits_take_succ (s : List UInt8) (i : Nat) (h : i < s.length) : dbits (s.take (i + 1)) = dbits (s.take i) ++ bitsN 5 (val s[i]) := by
  rw [List.take_succ_eq_append_getElem h, dbits_append]
  simp [dbits]
end Go.Proofs.YtcijkfnhjajfbaaDoor.Tk
