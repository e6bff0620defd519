/-
  Contract of mint.Digest, with a meter or none. Condition: the tables hold what their text says; texts of 50000 bytes at most.
-/
import Derived.Test.YtfjdcopndkdbmaaGreatDoorMinV
import Derived.Test.YtfjdcopndkdbmaaGreatDoorMinM
import Derived.Test.YtfjdcopndkdbmaaGreatDoorTkEc
namespace Go.Proofs.YtfjdcopndkdbmaaGreatDoor
open Go.RowKit

set_option maxRecDepth 100000 in
set_option maxHeartbeats 800000 in
theorem digest_any {mp : Option Addr} {S : Nat → Prop} {st : World → Nat → Prop} (M : Mt mp S st) (p : Int) (l : List UInt8) (hl : l.length ≤ 50000) (k : Nat) (hk : k ≤ 1000000) (w : World) (hst : st w k) (hT : Tab w) :
    Calls Tryz.prog 43 #[.pointer mp, .int .i64 p, .string (ba l)] w fun e w' => e = .returned (.string (ba (digL p l))) ∧ st w' (k + 1) ∧ Kept S w w' := by
  have hz := ba_size l
  have HC := Lib.hid (fun W => clean_any (ba l) (by omega) W)
  rw [ba_list] at HC
  have hcs : (ba (Tk.clean l)).size ≤ 50000 := by rw [ba_size]; have := Tk.clean_length l; omega
  have hw8 := pbyte_wrap p
  have HS : Hid (∀ (W W2 : World) (g : Nat), g = W.heap.size → W2 = W.alloc (.cells #[.string (ba [pbyte p]), .string (ba (Tk.clean l))] 9) → Below w.heap.size w W →
      Calls Tryz.prog 68 #[.pointer mp, .slice (some ⟨g, 0, none⟩) 2 2] W2 fun e w' => e = .returned (.string (ba (dig ((ba [pbyte p]).data.toList ++ (ba (Tk.clean l)).data.toList)))) ∧ st w' (k + 1) ∧ Kept S w w') :=
    Lib.hid (by rintro W _ _ rfl rfl h; exact M.two (ba [pbyte p]) (ba (Tk.clean l)) (by have : (ba [pbyte p]).size = 1 := rfl; omega) k hk w hst hT W h)
  rw [ba_list, ba_list] at HS
  have hcv : ∀ (W : World) (g : Nat), W.cell? ⟨g, 0, none⟩ = some (.int .u8 ((pbyte p).toNat : Int)) → (convert 98 9 (.slice (some ⟨g, 0, none⟩) 1 1)).run Tryz.prog W = .ok (.string (ba [pbyte p])) W := fun W g h => run_one W g _ (pbyte p) rfl h
  unfold digL
  have HR : Hid (dig (pbyte p :: Tk.clean l) = dig ([pbyte p] ++ Tk.clean l)) := Lib.hid rfl
  rw [HR.out]
  generalize dig ([pbyte p] ++ Tk.clean l) = R at HS HR ⊢
  generalize ba (Tk.clean l) = CL at HC HS hcs
  generalize ba [pbyte p] = X at HS hcv
  obtain ⟨b, hb⟩ : ∃ b, (pbyte p).toNat = b := ⟨_, rfl⟩
  rw [hb] at hw8 hcv
  clear hst hT hb hcs hz HR
  go_enter Tryz.func43, Tryz.ntmps43
  go_wp2_with fail
  go_region_with (first
    | (go_at_call 69
       refine (HC.out _).mono ?_
       rintro e w3 ⟨rfl, hb3⟩
       have hcl := fun (g : Nat) hg => hcv w3 g (cell_on hb3 (b : Int) g hg)
       first
         | have hBa : Below w.heap.size w w3 := (((Below.refl _ w).alloc (Nat.le_refl _) _).drew).trans (hb3.mono (by simp))
         | have hBb : Below w.heap.size w w3 := (Below.refl _ w).drew.trans (hb3.mono (Nat.le_refl _))
       clear hb3)
    | (go_at_call 68
       first
         | (have hB3 := hBa; refine (HS.out w3 _ _ rfl rfl hB3).mono ?_; rintro e w4 ⟨rfl, s4, k4⟩)
         | (have hB3 := hBb; refine (HS.out (w3.alloc (.cells #[.int .u8 (b : Int)] 5)) _ _ (by simp) rfl (hB3.alloc hB3.size _)).mono ?_; rintro e w4 ⟨rfl, s4, k4⟩)))
  all_goals go_wp2_with fail
  all_goals go_ret
  all_goals exact ⟨rfl, s4, k4⟩
end Go.Proofs.YtfjdcopndkdbmaaGreatDoor
