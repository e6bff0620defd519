/-
  Contract of the document's own Digest (layer 10). Condition: texts of 50000 bytes at most.
-/
import Derived.Test.YtfjdcopndkdbmaaGreatDoorMinV
import Derived.Test.YtfjdcopndkdbmaaGreatDoorTkr
import Derived.Test.YtfjdcopndkdbmaaGreatDoorShr
namespace Go.Proofs.YtfjdcopndkdbmaaGreatDoor
open Go.RowKit

set_option maxRecDepth 100000 in
set_option maxHeartbeats 800000 in
theorem rdigest_any (p : Int) (l : List UInt8) (hl : l.length ≤ 50000) (w : World) :
    Calls Tryz.prog 19 #[.int .i64 p, .string (ba l)] w fun e w' => e = .returned (.string (ba (digL p l))) ∧ Below w.heap.size w w' := by
  have hz := ba_size l
  have HC := Lib.hid (fun W => ref_clean (ba l) (by omega) W)
  rw [ba_list] at HC
  have hcl := Tk.clean_length l
  have HS := Lib.hid (fun W => ref_sum (pbyte p :: Tk.clean l) (by simp; omega) W)
  have hw8 := pbyte_wrap p
  have hcv : ∀ (W : World) (g : Nat), W.cell? ⟨g, 0, none⟩ = some (.int .u8 ((pbyte p).toNat : Int)) → (convert 98 9 (.slice (some ⟨g, 0, none⟩) 1 1)).run Tryz.prog W = .ok (.string (ba [pbyte p])) W := fun W g h => run_one W g _ (pbyte p) rfl h
  unfold digL
  have happ : ba [pbyte p] ++ ba (Tk.clean l) = ba (pbyte p :: Tk.clean l) := ba_append [pbyte p] (Tk.clean l)
  have hs1 : (ba [pbyte p]).size ≤ 1 := by rw [ba_size]; simp
  have hs2 : (ba (Tk.clean l)).size ≤ 50000 := by rw [ba_size]; omega
  generalize ba (dig (pbyte p :: Tk.clean l)) = R at HS ⊢
  generalize ba (pbyte p :: Tk.clean l) = Y at HS happ
  generalize ba (Tk.clean l) = CL at HC happ hs2
  generalize ba [pbyte p] = X at hcv happ hs1
  obtain ⟨b, hb⟩ : ∃ b, (pbyte p).toNat = b := ⟨_, rfl⟩
  rw [hb] at hw8 hcv
  clear hb hcl hz
  go_enter Tryz.func19, Tryz.ntmps19
  go_wp2_with fail
  go_region_with (first
    | (go_at_call 48
       refine (HC.out _).mono ?_
       rintro e w3 ⟨rfl, hb3⟩
       have hcl := fun (g : Nat) hg => hcv w3 g (cell_on hb3 (b : Int) g hg)
       first
         | have hBa : Below w.heap.size w w3 := (((Below.refl _ w).alloc (Nat.le_refl _) _).drew).trans (hb3.mono (by simp))
         | have hBb : Below w.heap.size w w3 := (Below.refl _ w).drew.trans (hb3.mono (Nat.le_refl _))
       clear hb3)
    | (go_at_call 47
       refine (HS.out _).mono ?_
       rintro e w4 ⟨rfl, hb4⟩
       first
         | have hBc : Below w.heap.size w w4 := hBa.trans (hb4.mono hBa.size)
         | have hBc : Below w.heap.size w w4 := (hBb.alloc hBb.size _).trans (hb4.mono (by simp; exact Nat.le_trans hBb.size (by omega)))))
  all_goals go_wp2_with fail
  all_goals go_ret
  all_goals exact ⟨rfl, hBc⟩
end Go.Proofs.YtfjdcopndkdbmaaGreatDoor
