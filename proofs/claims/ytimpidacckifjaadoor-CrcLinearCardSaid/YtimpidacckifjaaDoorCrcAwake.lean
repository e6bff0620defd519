/-
  Contracts of the statements' own helpers awake and short: the chapter's example stands; a text is cut to its first bytes. Condition of awake: the table holds what its text says.
-/
import Derived.Test.YtimpidacckifjaaDoorCrcSum
namespace Go.Proofs.YtimpidacckifjaaDoor
open Go.RowKit

theorem awake_sum : (R (Crc.sum [49, 50, 51, 52, 53, 54, 55, 56, 57]) == 3421780262) = true := by decide +kernel

theorem awake_any (w : World) (ht : Tab w) :
    Calls Tryd.prog 9 #[] w fun e w' => e = .returned (.bool true) ∧ Below w.heap.size w w' := by
  have HP := Lib.hid (sum_two ⟨#[49, 50, 51, 52]⟩ ⟨#[53, 54, 55, 56, 57]⟩ w ht (by decide) (by decide))
  have hx := awake_sum
  go_enter Tryd.func9, Tryd.ntmps9
  go_wp2_with (go_at_call 13; refine HP.out.mono ?_; rintro e w' ⟨rfl, hb⟩)
  go_ret
  exact ⟨rfl, hb⟩

theorem short_cut (s : ByteArray) (n : Nat) (_hs : s.size ≤ maxLen) (h : n < s.size) (w : World) :
    Calls Tryd.prog 10 #[.string s, .int .i64 (n : Int)] w fun e w' => e = .returned (.string (s.extract 0 n)) ∧ w = w' := by
  unfold maxLen at _hs
  go_enter Tryd.func10, Tryd.ntmps10
  go_wp2
  go_ret
  exact ⟨rfl, rfl⟩
theorem short_all (s : ByteArray) (n : Nat) (_hs : s.size ≤ maxLen) (h : s.size ≤ n) (w : World) :
    Calls Tryd.prog 10 #[.string s, .int .i64 (n : Int)] w fun e w' => e = .returned (.string s) ∧ w = w' := by
  unfold maxLen at _hs
  go_enter Tryd.func10, Tryd.ntmps10
  go_wp2
  go_ret
  exact ⟨rfl, rfl⟩

/-- A text of at most n bytes. -/
def cut (s : ByteArray) (n : Nat) : ByteArray := if n < s.size then s.extract 0 n else s
theorem cut_size (s : ByteArray) (n : Nat) : (cut s n).size ≤ n := by
  unfold cut
  split
  · simp; omega
  · omega
theorem short_any (s : ByteArray) (n : Nat) (hs : s.size ≤ maxLen) (w : World) :
    Calls Tryd.prog 10 #[.string s, .int .i64 (n : Int)] w fun e w' => e = .returned (.string (cut s n)) ∧ w = w' := by
  unfold cut
  by_cases h : n < s.size
  · rw [if_pos h]; exact short_cut s n hs h w
  · rw [if_neg h]; exact short_all s n hs (by omega) w
end Go.Proofs.YtimpidacckifjaaDoor
