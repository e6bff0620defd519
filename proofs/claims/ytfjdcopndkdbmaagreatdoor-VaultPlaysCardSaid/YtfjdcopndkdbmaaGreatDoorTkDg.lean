/-
  The thirty-two digits, one by one. No condition.
-/
import Derived.Test.YtfjdcopndkdbmaaGreatDoorTkm
import Derived.Test.YtfjdcopndkdbmaaGreatDoorBas
namespace Go.Proofs.YtfjdcopndkdbmaaGreatDoor
open Go.RowKit
def digsBA : ByteArray := ⟨#[97, 98, 99, 100, 101, 102, 103, 104, 105, 106, 107, 108, 109, 110, 111, 112, 113, 114, 115, 116, 117, 118, 119, 120, 121, 122, 50, 51, 52, 53, 54, 55]⟩
theorem digs_get (n : Nat) (h : n < digsBA.size) : digsBA[n] = Tk.dig n := by
  have e : ∀ j : Fin 32, digsBA[j.val]? = some (Tk.dig j.val) := by decide
  exact Option.some.inj ((ByteArray.getElem?_lt' digsBA n h).symm.trans (e ⟨n, h⟩))
theorem run_digit (n : Nat) (h : n < 32) (k : IntKind) (W : World) : (Instr.index 9 (.string digsBA) (.int k (n : Int))).run Tryz.prog W = .ok (.int .u8 ((Tk.dig n).toNat : Int)) W := by
  rw [run_index_string W 9 digsBA k _ Tryz.underlying9, dif_pos ⟨by omega, by rw [show digsBA.size = 32 from rfl]; omega⟩]
  have e : ((n : Int)).toNat = n := by omega
  simp only [e]
  rw [digs_get n (by rw [show digsBA.size = 32 from rfl]; exact h)]

end Go.Proofs.YtfjdcopndkdbmaaGreatDoor
