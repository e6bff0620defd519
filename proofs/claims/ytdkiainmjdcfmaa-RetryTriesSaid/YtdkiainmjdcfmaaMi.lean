/-
  The mathematics of layer 10: lifetimes, numbers of tries, times that go on, the number of a draw. No condition.
-/
namespace Go.Proofs.Ytdkiainmjdcfmaa.Mi

def life (p : Int) : Int := if p = 1 then 600 else if p = 2 then 60 else if p = 3 then 120 else if p = 4 then 30 else if p = 5 then 120 else if p = 6 then 2000 else 0
def tries (p : Int) : Int := if p = 4 then 3 else if 1 ≤ p ∧ p ≤ 6 then 5 else 0
/-- 2^40. -/
def most : Int := 1099511627776
def clock (n t : Int) : Int := if n < 0 ∨ t < 0 then 0 else if n + t ≤ 1099511627776 then n + t else 1099511627776
theorem life_at (p : Int) (h : 1 ≤ p ∧ p ≤ 6) : 30 ≤ life p ∧ life p ≤ 2000 := by
  obtain ⟨h1, h2⟩ := h
  rcases (show p = 1 ∨ p = 2 ∨ p = 3 ∨ p = 4 ∨ p = 5 ∨ p = 6 by omega) with rfl | rfl | rfl | rfl | rfl | rfl <;> decide
theorem life_none (p : Int) (h : p < 1 ∨ 6 < p) : life p = 0 := by
  unfold life
  rw [if_neg (by omega), if_neg (by omega), if_neg (by omega), if_neg (by omega), if_neg (by omega), if_neg (by omega)]
theorem life_bounds (p : Int) : 0 ≤ life p ∧ life p ≤ 2000 := by
  by_cases h : 1 ≤ p ∧ p ≤ 6
  · have := life_at p h
    omega
  · rw [life_none p (by omega)]
    omega
theorem tries_at (p : Int) (h : 1 ≤ p ∧ p ≤ 6) : 1 ≤ tries p ∧ tries p ≤ 5 := by
  obtain ⟨h1, h2⟩ := h
  rcases (show p = 1 ∨ p = 2 ∨ p = 3 ∨ p = 4 ∨ p = 5 ∨ p = 6 by omega) with rfl | rfl | rfl | rfl | rfl | rfl <;> decide
theorem tries_none (p : Int) (h : p < 1 ∨ 6 < p) : tries p = 0 := by
  unfold tries
  rw [if_neg (by omega), if_neg (by omega)]
theorem clock_bounds (n t : Int) : 0 ≤ clock n t ∧ clock n t ≤ 1099511627776 := by
  unfold clock
  split
  · omega
  · split <;> omega
theorem clock_neg (n t : Int) (h : n < 0 ∨ t < 0) : clock n t = 0 := by
  unfold clock
  rw [if_pos h]
theorem clock_low (n t : Int) (hn : 0 ≤ n) (ht : 0 ≤ t) (h : n + t ≤ 1099511627776) : clock n t = n + t := by
  unfold clock
  rw [if_neg (by omega), if_pos h]
theorem clock_high (n t : Int) (hn : 0 ≤ n) (ht : 0 ≤ t) (h : ¬ n + t ≤ 1099511627776) : clock n t = 1099511627776 := by
  unfold clock
  rw [if_neg (by omega), if_neg h]
theorem clock_ge (n t : Int) (hn : 0 ≤ n) (ht : 0 ≤ t) (h : n ≤ 1099511627776) : n ≤ clock n t := by
  by_cases h1 : n + t ≤ 1099511627776
  · rw [clock_low n t hn ht h1]; omega
  · rw [clock_high n t hn ht h1]; exact h
/-- Ticks one behind the other are their sum. -/
theorem clock_on (n a b : Int) (hn : 0 ≤ n) (ha : 0 ≤ a) (hb : 0 ≤ b) : clock (clock n a) b = clock n (a + b) := by
  by_cases h1 : n + a ≤ 1099511627776
  · rw [clock_low n a hn ha h1]
    by_cases h2 : n + a + b ≤ 1099511627776
    · rw [clock_low _ _ (by omega) hb h2, clock_low _ _ hn (by omega) (by omega)]; omega
    · rw [clock_high _ _ (by omega) hb h2, clock_high _ _ hn (by omega) (by omega)]
  · rw [clock_high n a hn ha h1, clock_high n (a + b) hn (by omega) (by omega)]
    by_cases h2 : 1099511627776 + b ≤ 1099511627776
    · rw [clock_low _ _ (by decide) hb h2]; omega
    · rw [clock_high _ _ (by decide) hb h2]
/-- Later never ends sooner. -/
theorem clock_mono (n m t : Int) (hn : 0 ≤ n) (h : n ≤ m) (ht : 0 ≤ t) : clock n t ≤ clock m t := by
  by_cases h1 : m + t ≤ 1099511627776
  · rw [clock_low m t (by omega) ht h1, clock_low n t hn ht (by omega)]; omega
  · rw [clock_high m t (by omega) ht h1]
    exact (clock_bounds n t).2
/-- The number of a row of bytes, big-endian. -/
def num (l : List UInt8) : Nat := l.foldl (fun a c => a * 256 + c.toNat) 0
theorem num_snoc (l : List UInt8) (c : UInt8) : num (l ++ [c]) = num l * 256 + c.toNat := by simp [num]
theorem num_nil : num [] = 0 := rfl
theorem num_lt : ∀ l : List UInt8, num l < 256 ^ l.length := by
  intro l
  suffices h : ∀ (m : List UInt8) (a k : Nat), a < 256 ^ k → m.foldl (fun a c => a * 256 + c.toNat) a < 256 ^ (k + m.length) by
    have := h l 0 0 (by decide)
    rwa [Nat.zero_add] at this
  intro m
  induction m with
  | nil => intro a k h; simpa using h
  | cons c m ih =>
    intro a k h
    have hc := c.toNat_lt
    have h2 : a * 256 + c.toNat < 256 ^ (k + 1) := by
      rw [Nat.pow_succ]
      omega
    have := ih _ _ h2
    rw [List.foldl_cons, List.length_cons, show k + (m.length + 1) = k + 1 + m.length by omega]
    exact this
theorem num8_lt (l : List UInt8) : num (l.take 8) ≤ 18446744073709551615 := by
  have h := num_lt (l.take 8)
  have h2 : (l.take 8).length ≤ 8 := by rw [List.length_take]; omega
  have h3 := Nat.pow_le_pow_right (show 0 < 256 by decide) h2
  have h4 : 256 ^ 8 = 18446744073709551616 := by decide
  omega
theorem num_take_succ (l : List UInt8) (k : Nat) (h : k < l.length) : num (l.take (k + 1)) = num (l.take k) * 256 + l[k].toNat := by
  rw [List.take_succ_eq_append_getElem h, num_snoc]
/-- Ten bytes of a text, with 0 where it is too short. -/
def draw (l : List UInt8) : List UInt8 := l.take 10 ++ List.replicate (10 - l.length) 0
theorem draw_length (l : List UInt8) : (draw l).length = 10 := by
  unfold draw
  rw [List.length_append, List.length_take, List.length_replicate]
  omega
/-- A purpose out of any number. -/
theorem purpose_in (p : Int) : 1 ≤ 1 + ((Int.tmod p 6) + 6).tmod 6 ∧ 1 + ((Int.tmod p 6) + 6).tmod 6 ≤ 6 := by
  have h1 : -6 < Int.tmod p 6 ∧ Int.tmod p 6 < 6 := by
    rcases Int.le_total 0 p with h | h
    · have := Int.tmod_nonneg 6 h
      have := Int.tmod_lt_of_pos p (show (0 : Int) < 6 by decide)
      omega
    · have e : Int.tmod p 6 = - Int.tmod (-p) 6 := by rw [Int.neg_tmod]; omega
      have h2 := Int.tmod_nonneg 6 (show 0 ≤ -p by omega)
      have h3 := Int.tmod_lt_of_pos (-p) (show (0 : Int) < 6 by decide)
      omega
  have h4 : 0 ≤ Int.tmod p 6 + 6 := by omega
  have h5 := Int.tmod_nonneg 6 h4
  have h6 := Int.tmod_lt_of_pos (Int.tmod p 6 + 6) (show (0 : Int) < 6 by decide)
  omega
end Go.Proofs.Ytdkiainmjdcfmaa.Mi
