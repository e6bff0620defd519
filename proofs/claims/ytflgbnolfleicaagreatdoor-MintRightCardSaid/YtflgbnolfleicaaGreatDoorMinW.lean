/-
  Contract of the law's helper awake (layer 10: the chapter's examples). Condition: the library's table of powers of ten holds what its text says.
-/
import Derived.Test.YtflgbnolfleicaaGreatDoorMinB
import Derived.Test.YtflgbnolfleicaaGreatDoorMinL
namespace Go.Proofs.YtflgbnolfleicaaGreatDoor
open Go.RowKit

theorem plain_login : plainL 2 (List.replicate 10 0) = [97, 97, 97, 97, 97, 97, 97, 97, 97, 97, 97, 97, 97, 97, 97, 97] ∧ plainB 2 (List.replicate 10 0) = true := by decide +kernel
theorem plain_code : plainL 4 (List.replicate 10 0) = [48, 48, 48, 48, 48, 48] ∧ plainB 4 (List.replicate 10 0) = true := by decide +kernel
set_option maxRecDepth 100000 in
theorem awake_any (w : World) (hp : PowIs w) :
    Calls Tryz.prog 5 #[] w fun e w' => e = .returned (.bool true) ∧ Below w.heap.size w w' := by
  have hmk := make_ten w
  have hbk := Blk.new w 5 (cb (List.replicate 10 0)).toArray
  have hcv := run_row_text (l := List.replicate 10 0) (n := 10) rfl 10 hbk
  have H1 := Lib.hid (fun W h => plain_any 2 (List.replicate 10 0) (by decide) W h)
  have H2 := Lib.hid (fun W h => plain_any 4 (List.replicate 10 0) (by decide) W h)
  rw [plain_login.1, plain_login.2] at H1
  rw [plain_code.1, plain_code.2] at H2
  rw [show ba [97, 97, 97, 97, 97, 97, 97, 97, 97, 97, 97, 97, 97, 97, 97, 97] = ⟨#[97, 97, 97, 97, 97, 97, 97, 97, 97, 97, 97, 97, 97, 97, 97, 97]⟩ from rfl] at H1
  rw [show ba [48, 48, 48, 48, 48, 48] = ⟨#[48, 48, 48, 48, 48, 48]⟩ from rfl] at H2
  have HB0 : Hid (Below w.heap.size w (w.alloc (.cells (cb (List.replicate 10 0)).toArray 5))) := Lib.hid ((Below.refl _ w).alloc (Nat.le_refl _) _)
  generalize w.alloc (.cells (cb (List.replicate 10 0)).toArray 5) = W0 at *
  generalize ba (List.replicate 10 0) = Z at *
  have HP := Lib.hid (hp.next HB0.out)
  clear hp hbk
  go_enter Tryz.func5, Tryz.ntmps5
  go_wp2_with fail
  refine (H1.out _ HP.out).mono ?_
  rintro e w1 ⟨rfl, hb⟩
  have HB1 := Lib.hid (HB0.out.trans (hb.mono HB0.out.size))
  have HP1 := Lib.hid (HP.out.next hb)
  clear hb
  go_wp2_with fail
  refine (H2.out _ HP1.out).mono ?_
  rintro e w2 ⟨rfl, hb⟩
  have HB2 := Lib.hid (HB1.out.trans (hb.mono HB1.out.size))
  clear hb
  go_wp2_with fail
  go_ret
  exact ⟨rfl, HB2.out⟩
end Go.Proofs.YtflgbnolfleicaaGreatDoor
