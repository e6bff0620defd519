/-
  The mathematics of layer 13: delays, their sums, how often something is tried, how long that takes. No condition.
-/
namespace Go.Proofs.Ytdkiainmjdcfmaa.Rt

/-- The delay after an attempt; the sum of the first so many. -/
def dl (n : Nat) : Nat := if n = 0 then 0 else min 64 (2 ^ (n - 1))
def sm : Nat → Nat
  | 0 => 0
  | n + 1 => sm n + dl (n + 1)
theorem dl_le (n : Nat) : dl n ≤ 64 := by unfold dl; split <;> omega
theorem dl_great (n : Nat) (h : 7 ≤ n) : dl n = 64 := by
  unfold dl
  rw [if_neg (by omega)]
  have : 2 ^ 6 ≤ 2 ^ (n - 1) := Nat.pow_le_pow_right (by decide) (by omega)
  omega
theorem dl_pos (n : Nat) (h : 1 ≤ n) : 1 ≤ dl n := by
  unfold dl
  rw [if_neg (by omega)]
  have : 1 ≤ 2 ^ (n - 1) := Nat.one_le_two_pow
  omega
theorem dl_rises (n : Nat) : dl n ≤ dl (n + 1) := by
  unfold dl
  rw [if_neg (show ¬ n + 1 = 0 by omega)]
  split
  · exact Nat.zero_le _
  · have : 2 ^ (n - 1) ≤ 2 ^ (n + 1 - 1) := Nat.pow_le_pow_right (by decide) (by omega)
    omega
/-- One delay more: twice the one ahead, up to 64. -/
theorem dl_step (n : Nat) (h : 1 ≤ n) : dl (n + 1) = min 64 (2 * dl n) := by
  unfold dl
  rw [if_neg (by omega), if_neg (by omega)]
  have e : 2 ^ (n + 1 - 1) = 2 * 2 ^ (n - 1) := by
    rw [show n + 1 - 1 = (n - 1) + 1 by omega, Nat.pow_succ]
    omega
  rw [e]
  omega
theorem sm_small : ∀ n, n ≤ 7 → sm n = 2 ^ n - 1 := by decide
theorem sm_great (n : Nat) (h : 7 ≤ n) : sm n = 127 + 64 * (n - 7) := by
  induction n with
  | zero => omega
  | succ n ih =>
    by_cases h7 : n + 1 = 7
    · have : n = 6 := by omega
      subst this
      rfl
    · have := ih (by omega)
      show sm n + dl (n + 1) = _
      rw [this, dl_great (n + 1) (by omega)]
      omega
theorem sm_rises (n k : Nat) : sm n ≤ sm (n + k) := by
  induction k with
  | zero => exact Nat.le_refl _
  | succ k ih =>
    show sm n ≤ sm (n + k) + dl (n + k + 1)
    omega
theorem sm_mono {a b : Nat} (h : a ≤ b) : sm a ≤ sm b := by
  have := sm_rises a (b - a)
  rwa [show a + (b - a) = b by omega] at this
theorem sm_le (n : Nat) : sm n ≤ 64 * n := by
  induction n with
  | zero => simp [sm]
  | succ n ih =>
    show sm n + dl (n + 1) ≤ _
    have := dl_le (n + 1)
    omega
/-- The sum of the delays from one attempt to another. -/
def sum (a b : Nat) : Nat := if a ≤ b then sm b - sm (a - 1) else 0
theorem sum_step (a b : Nat) (h1 : 1 ≤ a) (h : a ≤ b + 1) : sum a (b + 1) = sum a b + dl (b + 1) := by
  unfold sum
  rw [if_pos h]
  have e : sm (b + 1) = sm b + dl (b + 1) := rfl
  by_cases hb : a ≤ b
  · rw [if_pos hb, e]
    have := sm_mono (show a - 1 ≤ b by omega)
    omega
  · have : a = b + 1 := by omega
    subst this
    rw [if_neg hb, e, Nat.add_sub_cancel]
    omega
theorem sum_none (a b : Nat) (h : b < a) : sum a b = 0 := by unfold sum; rw [if_neg (by omega)]
theorem sum_parts (a b c : Nat) (h1 : 1 ≤ a) (h2 : a ≤ b) (h3 : b < c) : sum a c = sum a b + sum (b + 1) c := by
  unfold sum
  rw [if_pos (by omega), if_pos h2, if_pos (by omega), Nat.add_sub_cancel]
  have h4 := sm_mono (show a - 1 ≤ b by omega)
  have h5 := sm_mono (show b ≤ c by omega)
  omega
theorem sum_one (a : Nat) (h : 1 ≤ a) : sum a a = dl a := by
  have := sum_step a (a - 1) h (by omega)
  rw [show a - 1 + 1 = a by omega, sum_none a (a - 1) (by omega), Nat.zero_add] at this
  exact this
/-- How often something is tried within so many ticks: of the times 0, 1, 3, 7 .. those that are no more. -/
def tries (t : Nat) : Nat := ((List.range 8).filter fun i => decide (sm i ≤ t)).length
theorem tries_eq (t : Nat) : ∀ k, k ≤ 8 → (((List.range k).filter fun i => decide (sm i ≤ t)).length = if k = 0 then 0 else if sm (k - 1) ≤ t then k else ((List.range (k - 1)).filter fun i => decide (sm i ≤ t)).length) := by
  intro k hk
  cases k with
  | zero => rfl
  | succ k =>
    rw [if_neg (by omega), Nat.add_sub_cancel, List.range_succ, List.filter_append, List.length_append]
    by_cases h : sm k ≤ t
    · rw [if_pos h]
      have hall : (List.range k).filter (fun i => decide (sm i ≤ t)) = List.range k := by
        rw [List.filter_eq_self]
        intro i hi
        have := sm_mono (Nat.le_of_lt (List.mem_range.1 hi))
        exact decide_eq_true (by omega)
      rw [hall]
      simp [h]
    · rw [if_neg h]
      simp [h]
/-- So many attempts were made, the next one is not due. -/
theorem tries_of (t n : Nat) (hn : n ≤ 8) (h1 : n = 0 ∨ sm (n - 1) ≤ t) (h2 : n = 8 ∨ t < sm n) : tries t = n := by
  have key : ∀ k, n ≤ k → k ≤ 8 → ((List.range k).filter fun i => decide (sm i ≤ t)).length = n := by
    intro k
    induction k with
    | zero => intro h _; have : n = 0 := by omega
              subst this; rfl
    | succ k ih =>
      intro h hk
      rw [tries_eq t (k + 1) hk, if_neg (by omega), Nat.add_sub_cancel]
      by_cases hnk : n = k + 1
      · subst hnk
        rw [Nat.add_sub_cancel] at h1
        rw [if_pos (by omega)]
      · have hlt : t < sm n := by omega
        have := sm_mono (show n ≤ k by omega)
        rw [if_neg (by omega)]
        exact ih (by omega) (by omega)
  exact key 8 hn (Nat.le_refl _)
theorem tries_great (t : Nat) (h : 127 ≤ t) : tries t = 8 := tries_of t 8 (Nat.le_refl _) (.inr (by rw [show sm (8 - 1) = 127 from rfl]; exact h)) (.inl rfl)
end Go.Proofs.Ytdkiainmjdcfmaa.Rt
