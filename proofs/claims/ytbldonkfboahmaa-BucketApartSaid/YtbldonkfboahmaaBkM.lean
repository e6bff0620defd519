/-
  Takes of two keys: the codes and, where all are taken, the row, whichever is first; what a take leaves to a key. Condition: rows of at most 20 buckets for the first.
-/
import Derived.Test.YtbldonkfboahmaaBcX
namespace Go.Proofs.Ytbldonkfboahmaa
open Go.RowKit

theorem find_of_mem {P : List Bb} (h : Bk.Rising kl P) {c : Bb} (hc : c ∈ P) : Bk.find P c.key = some c := by
  induction P with
  | nil => simp at hc
  | cons b P ih =>
    rw [Bk.find_cons]
    rcases List.mem_cons.1 hc with e | hm
    · subst e
      rw [if_pos rfl]
    · have hlt := (List.pairwise_cons.1 h).1 c hm
      have hne : ¬ b.key = c.key := fun e => by rw [e, ordK.irrefl] at hlt; cases hlt
      rw [if_neg hne]
      exact ih (List.pairwise_cons.1 h).2 hm
theorem take_small {L : List Bb} (h : L.length ≤ 23) (k : ByteArray) (now : Nat) : takeB L k now = if k = ⟨#[]⟩ ∨ Bk.left L k now = 0 then (L, 22) else (Bk.taken kl L k now, 0) := by
  by_cases h1 : k = ⟨#[]⟩ ∨ Bk.left L k now = 0
  · rw [take_a h1, if_pos h1]
  · rw [if_neg h1, take_c h1]
    intro e
    have := List.length_filter_le (fun b => decide (Bk.left1 b now < 4)) L
    have h2 := e.2
    unfold Bk.sweep at h2
    omega
theorem taken_length (L : List Bb) (k : ByteArray) (now : Nat) : (Bk.taken kl L k now).length ≤ L.length + 1 := by
  unfold Bk.taken
  have h1 := Bk.put_length (lt := kl) (Bk.sweep L now) k (Bk.left L k now) now
  have h2 := List.length_filter_le (fun b => decide (Bk.left1 b now < 4)) L
  unfold Bk.sweep at h1 ⊢
  omega
theorem swept_taken {L : List Bb} (h : Bk.Rising kl L) (k : ByteArray) (now : Nat) (h1 : 1 ≤ Bk.left L k now) : Bk.sweep (Bk.taken kl L k now) now = Bk.taken kl L k now := by
  have hr := Bk.taken_rising ordK h k now
  have hl := Bk.left_taken ordK h k now h1
  have h4 := Bk.left_le L k now
  unfold Bk.sweep
  rw [List.filter_eq_self]
  intro c hc
  rw [decide_eq_true_eq]
  by_cases hk : c.key = k
  · have hf := find_of_mem hr hc
    rw [hk] at hf
    unfold Bk.left at hl
    rw [hf] at hl
    simp only at hl
    unfold Bk.left at h4
    omega
  · rcases Bk.put_mem (lt := kl) (Bk.sweep L now) k (Bk.left L k now) now c hc with e | e
    · exact absurd e hk
    · have := (List.mem_filter.1 e).2
      simpa using this
theorem taken_two {L : List Bb} (h : Bk.Rising kl L) (a b : ByteArray) (now : Nat) (hab : a ≠ b) (ha : 1 ≤ Bk.left L a now) (hb : 1 ≤ Bk.left L b now) :
    Bk.taken kl (Bk.taken kl L a now) b now = Bk.taken kl (Bk.taken kl L b now) a now := by
  have e1 := swept_taken h a now ha
  have e2 := swept_taken h b now hb
  have l1 := Bk.left_taken_other ordK h a b now 0 (Ne.symm hab)
  have l2 := Bk.left_taken_other ordK h b a now 0 hab
  rw [Nat.add_zero] at l1 l2
  have t1 : Bk.taken kl (Bk.taken kl L a now) b now = Bk.put kl b (Bk.left L b now) now (Bk.taken kl L a now) := by
    show Bk.put kl b (Bk.left (Bk.taken kl L a now) b now) now (Bk.sweep (Bk.taken kl L a now) now) = _
    rw [e1, l1]
  have t2 : Bk.taken kl (Bk.taken kl L b now) a now = Bk.put kl a (Bk.left L a now) now (Bk.taken kl L b now) := by
    show Bk.put kl a (Bk.left (Bk.taken kl L b now) a now) now (Bk.sweep (Bk.taken kl L b now) now) = _
    rw [e2, l2]
  rw [t1, t2]
  exact Bk.put_put ordK (Bk.sweep L now) a b _ _ now hab
/-- What a take of one key leaves to another: the same. -/
theorem left_other {L : List Bb} (h : Bk.Rising kl L) (hl : L.length ≤ 23) (a b : ByteArray) (now d : Nat) (hab : a ≠ b) : Bk.left (takeB L a now).1 b (now + d) = Bk.left L b (now + d) := by
  rw [take_small hl]
  split
  · rfl
  · exact Bk.left_taken_other ordK h a b now d (Ne.symm hab)
theorem later {L : List Bb} (h : Bk.Rising kl L) (hl : L.length ≤ 20) (a b : ByteArray) (now : Nat) (ha0 : ¬ a = ⟨#[]⟩) (hb0 : ¬ b = ⟨#[]⟩) :
    (a ≠ b → (takeB L a now).2 = (takeB (takeB L b now).1 a now).2 ∧ (takeB (takeB L a now).1 b now).2 = (takeB L b now).2) ∧
    ((takeB L a now).2 = 0 → (takeB (takeB L a now).1 b now).2 = 0 → (takeB L b now).2 = 0 → (takeB (takeB L b now).1 a now).2 = 0 → (takeB (takeB L a now).1 b now).1 = (takeB (takeB L b now).1 a now).1) := by
  have la := taken_length L a now
  have lb := taken_length L b now
  have code : ∀ (X : List Bb) (k : ByteArray), X.length ≤ 23 → ¬ k = ⟨#[]⟩ → takeB X k now = if Bk.left X k now = 0 then (X, 22) else (Bk.taken kl X k now, 0) := fun X k hX hk => by
    rw [take_small hX]
    by_cases h0 : Bk.left X k now = 0
    · rw [if_pos (.inr h0), if_pos h0]
    · rw [if_neg (fun e => e.elim hk h0), if_neg h0]
  have lX : ∀ k, (takeB L k now).1.length ≤ 21 := fun k => by
    rw [take_small (by omega)]
    have := taken_length L k now
    split
    · show L.length ≤ 21; omega
    · show (Bk.taken kl L k now).length ≤ 21; omega
  by_cases hab : a = b
  · subst hab
    exact ⟨fun e => absurd rfl e, fun _ _ _ _ => rfl⟩
  · have o1 := left_other h (by omega) a b now 0 hab
    have o2 := left_other h (by omega) b a now 0 (Ne.symm hab)
    rw [Nat.add_zero] at o1 o2
    have c1 : ∀ X k, X.length ≤ 23 → ¬ k = ⟨#[]⟩ → (takeB X k now).2 = if Bk.left X k now = 0 then 22 else 0 := fun X k hX hk => by
      rw [code X k hX hk]
      split <;> rfl
    refine ⟨fun _ => ⟨?_, ?_⟩, fun h1 h2 h3 h4 => ?_⟩
    · rw [c1 _ _ (by omega) ha0, c1 _ _ (by have := lX b; omega) ha0, o2]
    · rw [c1 _ _ (by have := lX a; omega) hb0, c1 _ _ (by omega) hb0, o1]
    · rw [c1 _ _ (by omega) ha0] at h1
      rw [c1 _ _ (by omega) hb0] at h3
      have na : ¬ Bk.left L a now = 0 := fun e => by rw [if_pos e] at h1; cases h1
      have nb : ¬ Bk.left L b now = 0 := fun e => by rw [if_pos e] at h3; cases h3
      have A1 : takeB L a now = (Bk.taken kl L a now, 0) := by rw [code L a (by omega) ha0, if_neg na]
      have B1 : takeB L b now = (Bk.taken kl L b now, 0) := by rw [code L b (by omega) hb0, if_neg nb]
      rw [A1] at o1 ⊢
      rw [B1] at o2 ⊢
      simp only at o1 o2 ⊢
      rw [code _ b (by omega) hb0, code _ a (by omega) ha0, o1, o2, if_neg na, if_neg nb]
      exact taken_two h a b now hab (by omega) (by omega)
end Go.Proofs.Ytbldonkfboahmaa
