/-
  The mathematics of VaultTries and of law 11's self-test: a row of one secret, presented wrong so many times. No condition.
-/
import Derived.Test.YtfjdcopndkdbmaaGreatDoorVrG
namespace Go.Proofs.YtfjdcopndkdbmaaGreatDoor
open Go.RowKit

/-- A row of one secret, behind f wrong attempts. -/
def rowAt (s : Va.Sec) (f : Nat) : List Va.Sec := if (f : Int) < s.tries then [{ s with tries := s.tries - f }] else []
theorem rowAt_length (s : Va.Sec) (f : Nat) : (rowAt s f).length = if (f : Int) < s.tries then 1 else 0 := by unfold rowAt; split <;> rfl
theorem rowAt_start (s : Va.Sec) (h : 0 < s.tries) : rowAt s 0 = [s] := by
  unfold rowAt
  rw [if_pos (by simpa using h)]
  simp
theorem place_one (s : Va.Sec) : Rw.place Va.Sec.key [s] s.key = some 0 := by simp [Rw.place]
theorem put_first (s : Va.Sec) (h : rightS s = true) : Va.put (rightS s) [] s = ([s], 0) := by
  rw [h, Va.put_ok _ _ (by simp)]
  rfl
theorem present_right (s : Va.Sec) (f : Nat) (now : Int) (h : now < s.expires) :
    Va.present s.digest (rowAt s f) s.key now = if (f : Int) < s.tries then ([], some { s with tries := s.tries - f }, 0) else ([], none, 12) := by
  unfold rowAt
  by_cases h1 : (f : Int) < s.tries
  · rw [if_pos h1, if_pos h1]
    have hp : Rw.place Va.Sec.key [{ s with tries := s.tries - f }] s.key = some 0 := place_one { s with tries := s.tries - f }
    rw [present_at (s := { s with tries := s.tries - f }) (i := 0) hp (by simp) rfl, if_neg (by show ¬ s.expires ≤ now; omega)]
    exact if_pos rfl
  · rw [if_neg h1, if_neg h1]
    rfl
theorem present_wrong (s : Va.Sec) (f : Nat) (now : Int) (d : ByteArray) (h : now < s.expires) (hd : s.digest ≠ d) :
    Va.present d (rowAt s f) s.key now = (rowAt s (f + 1), none, if (f : Int) < s.tries then 21 else 12) := by
  unfold rowAt
  by_cases h1 : (f : Int) < s.tries
  · rw [if_pos h1, if_pos h1]
    have hp : Rw.place Va.Sec.key [{ s with tries := s.tries - f }] s.key = some 0 := place_one { s with tries := s.tries - f }
    rw [present_at (s := { s with tries := s.tries - f }) (i := 0) hp (by simp) rfl, if_neg (by show ¬ s.expires ≤ now; omega), if_neg (by exact hd)]
    by_cases h2 : ((f + 1 : Nat) : Int) < s.tries
    · rw [if_neg (by show ¬ s.tries - f ≤ 1; omega), if_pos h2]
      simp only [List.set_cons_zero]
      rw [show s.tries - (f : Int) - 1 = s.tries - ((f + 1 : Nat) : Int) by omega]
    · rw [if_pos (by show s.tries - f ≤ 1; omega), if_neg h2]
      rfl
  · rw [if_neg h1, if_neg h1, if_neg (by omega)]
    rfl
end Go.Proofs.YtfjdcopndkdbmaaGreatDoor
