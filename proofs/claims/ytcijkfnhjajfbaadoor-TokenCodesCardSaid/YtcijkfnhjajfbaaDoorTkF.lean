/-
  Contract of the law's awake: the chapter's example. No condition.
-/
import Derived.Test.YtcijkfnhjajfbaaDoorTkE
import Derived.Test.YtcijkfnhjajfbaaDoorShort08
namespace Go.Proofs.YtcijkfnhjajfbaaDoor
open Go.RowKit

theorem foobar : ba (Tk.enc [102, 111, 111, 98, 97, 114]) = ⟨#[109, 122, 120, 119, 54, 121, 116, 98, 111, 105]⟩ := by
  have : Tk.enc [102, 111, 111, 98, 97, 114] = [109, 122, 120, 119, 54, 121, 116, 98, 111, 105] := by decide +kernel
  rw [this]
  rfl
theorem awake_any (w : World) :
    Calls Tryd.prog 5 #[] w fun e w' => e = .returned (.bool true) ∧ Below w.heap.size w w' := by
  have h := encode_any ⟨#[102, 111, 111, 98, 97, 114]⟩ (by decide) w
  rw [show Tk.enc (⟨#[102, 111, 111, 98, 97, 114]⟩ : ByteArray).data.toList = Tk.enc [102, 111, 111, 98, 97, 114] from rfl, foobar] at h
  have HE := Lib.hid h
  clear h
  go_enter Tryd.func5, Tryd.ntmps5
  go_wp2_with fail
  refine HE.out.mono ?_
  rintro e w1 ⟨rfl, hb⟩
  have HB := Lib.hid hb
  clear hb HE
  go_wp2_with fail
  go_ret
  exact ⟨rfl, HB.out⟩
end Go.Proofs.YtcijkfnhjajfbaaDoor
