/-
  A meter that counts, as package mint is handed it; a digest's length; a plain text's bytes are none that Clean changes. No condition.
-/
import Derived.Test.YtfjdcopndkdbmaaGreatDoorMinV
import Derived.Test.YtfjdcopndkdbmaaGreatDoorMinM
import Derived.Test.YtfjdcopndkdbmaaGreatDoorShNa
namespace Go.Proofs.YtfjdcopndkdbmaaGreatDoor
open Go.RowKit

theorem Mt.one (g : Nat) (hg : g ≠ 1 ∧ g ≠ 0) : Mt (some ⟨g, 0, none⟩) (fun b => b = g) (fun W k => Met W g k) :=
  ⟨fun l A c k W h1 h2 h3 hA hM hT => msum_any l h1 h2 A c g k h3 W hA hM hg hT, fun W W' k hM h => hM.of (h g rfl), fun W k hM b h => by subst h; exact hM.lt, ⟨fun h => hg.1 h.symm, fun h => hg.2 h.symm⟩⟩
theorem digL_size (p : Int) (l : List UInt8) : (ba (digL p l)).size = 32 := by
  rw [ba_size]
  unfold digL
  exact dig_length _
theorem still_num (c : UInt8) (h : Tk.num10 c = true) : Tk.still c := by
  have : ∀ n, n < 256 → Tk.num10 (UInt8.ofNat n) = true → Tk.lower (UInt8.ofNat n) = UInt8.ofNat n ∧ Tk.keep (UInt8.ofNat n) = true := by decide +kernel
  have h2 := this c.toNat c.toNat_lt
  rw [UInt8.ofNat_toNat] at h2
  exact h2 h
theorem still_plain (p : Int) (d : List UInt8) : ∀ c ∈ plainL p d, Tk.still c := by
  unfold plainL
  split
  · split
    · intro c hc
      have h := Tk.isCode_code (Mi.num (d.take 8) % 1000000)
      unfold Tk.isCode at h
      rw [Bool.and_eq_true, List.all_eq_true] at h
      exact still_num c (h.1 c hc)
    · exact Tk.still_enc d
  · intro c hc; cases hc
theorem clean_plain (p : Int) (d : List UInt8) : Tk.clean (plainL p d) = plainL p d := Tk.clean_still _ (still_plain p d)
/-- A digest of a plain text, as Sum tells it. -/
theorem digL_plain (p q : Int) (d : List UInt8) : digL q (plainL p d) = dig (pbyte q :: plainL p d) := by
  unfold digL
  rw [clean_plain]
theorem small_up (c : UInt8) (h : 97 ≤ c.toNat ∧ c.toNat ≤ 122) : Tk.clean [c - 32] = [c] ∧ (c - 32).toNat = c.toNat - 32 := by
  have : ∀ n, n < 256 → 97 ≤ n ∧ n ≤ 122 → Tk.clean [UInt8.ofNat n - 32] = [UInt8.ofNat n] ∧ (UInt8.ofNat n - 32).toNat = n - 32 := by decide +kernel
  have h2 := this c.toNat c.toNat_lt h
  rwa [UInt8.ofNat_toNat] at h2
end Go.Proofs.YtfjdcopndkdbmaaGreatDoor
