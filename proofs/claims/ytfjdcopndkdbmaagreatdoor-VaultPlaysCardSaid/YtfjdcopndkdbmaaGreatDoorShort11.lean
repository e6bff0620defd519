/-
  Contract of the law's helper short, whatever the layer. Condition: the text's length is a Go length.
-/
import Derived.Test.YtfjdcopndkdbmaaGreatDoorBas
namespace Go.Proofs.YtfjdcopndkdbmaaGreatDoor
open Go.RowKit

theorem short_cut (s : ByteArray) (n : Nat) (_hs : s.size ≤ maxLen) (h : n < s.size) (w : World) :
    Calls Tryz.prog 11 #[.string s, .int .i64 (n : Int)] w fun e w' => e = .returned (.string (s.extract 0 n)) ∧ w = w' := by
  unfold maxLen at _hs
  go_enter Tryz.func11, Tryz.ntmps11
  go_wp2
  go_ret
  exact ⟨rfl, rfl⟩
theorem short_all (s : ByteArray) (n : Nat) (_hs : s.size ≤ maxLen) (h : s.size ≤ n) (w : World) :
    Calls Tryz.prog 11 #[.string s, .int .i64 (n : Int)] w fun e w' => e = .returned (.string s) ∧ w = w' := by
  unfold maxLen at _hs
  go_enter Tryz.func11, Tryz.ntmps11
  go_wp2
  go_ret
  exact ⟨rfl, rfl⟩
theorem short_any (s : ByteArray) (n : Nat) (hs : s.size ≤ maxLen) (w : World) :
    Calls Tryz.prog 11 #[.string s, .int .i64 (n : Int)] w fun e w' => e = .returned (.string (cut s n)) ∧ w = w' := by
  unfold cut
  by_cases h : n < s.size
  · rw [if_pos h]; exact short_cut s n hs h w
  · rw [if_neg h]; exact short_all s n hs (by omega) w

end Go.Proofs.YtfjdcopndkdbmaaGreatDoor
