/-
  Contracts of the document's own answers of layer 3 (package homecomingref03): Num, Text, Row. Condition: what is written lies in memory.
-/
import Derived.Test.YtkfkaijaenjngaaPackD
import Derived.Deep.RegionWith
namespace Go.Proofs.Ytkfkaijaenjngaa
open Go.RowKit

theorem run_one (W : World) (g : Nat) (z : Int) (b : UInt8) (hz : z = ((b.toNat : Nat) : Int)) (h : W.cell? ⟨g, 0, none⟩ = some (.int .u8 z)) :
    (convert 27 9 (.slice (some ⟨g, 0, none⟩) 1 1)).run Try.prog W = .ok (.string (ba [b])) W := by
  subst hz
  exact run_convert_bytes_back (P := Try.prog) W 27 9 5 ⟨g, 0, none⟩ 1 [b] Try.underlying27 Try.underlying5 Try.underlying9 (by
    intro j hj
    have : j = 0 := by simp at hj; omega
    subst this
    exact h)

theorem cell_on {w w' : World} (h : Below w.heap.size w w') (z : Int) : ∀ g, w.cell? ⟨g, 0, none⟩ = some (.int .u8 z) → w'.cell? ⟨g, 0, none⟩ = some (.int .u8 z) := fun g hg => by
  rcases Nat.lt_or_ge g w.heap.size with hlt | hge
  · rw [h.cell (p := ⟨g, 0, none⟩) hlt, hg]
  · simp [World.cell?, Array.getElem?_eq_none hge] at hg
set_option maxRecDepth 100000 in
theorem refnum_small (n : Nat) (w : World) (h : n < 128) :
    Calls Try.prog 12 #[.int .u64 (n : Int)] w fun e w' => e = .returned (.string (ba (Pk.num n))) ∧ Below w.heap.size w w' := by
  have hc := run_one (w.alloc (.cells #[.int .u8 (n : Int)] 5)) w.heap.size (n : Int) (UInt8.ofNat n) (byte_last n h) (by rw [(Blk.new w 5 _).cell]; rfl)
  have HE := Lib.hid (Pk.num_lt h)
  go_enter Try.func12, Try.ntmps12
  go_wp2_with fail
  go_ret
  rw [HE.out]
  exact ⟨rfl, (Below.refl _ w).alloc (Nat.le_refl _) _⟩

set_option maxRecDepth 100000 in
theorem refnum_any : ∀ (n : Nat) (w : World), n ≤ 18446744073709551615 →
    Calls Try.prog 12 #[.int .u64 (n : Int)] w fun e w' => e = .returned (.string (ba (Pk.num n))) ∧ Below w.heap.size w w' := by
  intro n
  induction n using Nat.strongRecOn with
  | _ n ih =>
    intro w hn
    by_cases h : n < 128
    · exact refnum_small n w h
    · have HC := Lib.hid (fun W => ih (n / 128) (by omega) W (by omega))
      have HE := Lib.hid (Pk.num_ge (n := n) (by omega))
      have hq : ((n / 128 : Nat) : Int) = IntKind.u64.wrap ((n : Int) / 128) := by rw [IntKind.wrap_u64]; omega
      rw [hq] at HC
      clear hq
      have hz : IntKind.u8.wrap (IntKind.u8.wrap ((n : Int).tmod 128) + 128) = (((UInt8.ofNat (n % 128 + 128)).toNat : Nat) : Int) := by
        rw [Pk.toNat_ofNat (by omega), Int.tmod_eq_emod_of_nonneg (by omega), IntKind.wrap_u8, IntKind.wrap_u8]
        omega
      generalize UInt8.ofNat (n % 128 + 128) = b at *
      have hcv : ∀ (W : World) (g : Nat), W.cell? ⟨g, 0, none⟩ = some (.int .u8 (b.toNat : Int)) → (convert 27 9 (.slice (some ⟨g, 0, none⟩) 1 1)).run Try.prog W = .ok (.string (ba [b])) W := fun W g h => run_one W g _ b rfl h
      clear ih
      have HX : Hid (ba (b :: Pk.num (n / 128)) = ba [b] ++ ba (Pk.num (n / 128))) := Lib.hid (by rw [ba_append]; rfl)
      have hS : (ba (Pk.num (n / 128))).size ≤ 10 := by rw [ba_size]; exact Pk.num_len_le _ (by omega)
      have hb1 : (ba [b]).size = 1 := rfl
      rw [HE.out]
      rw [HX.out]
      clear HE HX
      generalize ba [b] = X at *
      generalize ba (Pk.num (n / 128)) = S at *
      go_enter Try.func12, Try.ntmps12
      go_wp2_with fail
      go_region_with (go_at_call 12
                      refine (HC.out _).mono ?_
                      rintro e w3 ⟨rfl, hb3⟩
                      have hcl := fun (g : Nat) hg => hcv w3 g (cell_on hb3 (b.toNat : Int) g hg))
      all_goals go_wp2_with fail
      all_goals go_ret
      all_goals first
        | exact ⟨rfl, (((Below.refl _ w).alloc (Nat.le_refl _) _).drew).trans (hb3.mono (by simp))⟩
        | exact ⟨rfl, ((Below.refl _ w).drew.trans (hb3.mono (Nat.le_refl _))).alloc hb3.size _⟩
        | exact ⟨rfl, (((Below.refl _ w).drew.trans (hb3.mono (Nat.le_refl _))).alloc hb3.size _).drew⟩
end Go.Proofs.Ytkfkaijaenjngaa
