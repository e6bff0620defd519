/-
  Contracts of package halves, the small calls: half, readHead, headRecord. Condition: the disk lies in memory as New lays it; the table of crc holds what its text says; texts have at most 39000 bytes.
-/
import Derived.Test.YtggecdgomgmhmaaDoorDskE
import Derived.Test.YtggecdgomgmhmaaDoorPakD
import Derived.Test.YtggecdgomgmhmaaDoorPakF
import Derived.Test.YtggecdgomgmhmaaDoorFrameU
import Derived.Test.YtggecdgomgmhmaaDoorHv
namespace Go.Proofs.YtggecdgomgmhmaaDoor
open Go.RowKit

theorem Tab.kept {S : Nat → Prop} {w w' : World} (h : Tab w) (hk : Kept S w w') (hS : ¬ S 0) : Tab w' := fun i hi =>
  (World.cell?_of_block (a := ⟨0, i, none⟩) (hk.block _ h.lt hS)).trans (h i hi)

section
variable {w : World} {F : Foot} {n : Nat} {dur lat : List UInt8} {pend : List (Nat × ByteArray)} {left : Int} {broken : Bool}
theorem half_any (h : Raw w F n dur lat pend left broken) {m : Nat} (hm : n / 2 = m) :
    Calls Tryd.prog 26 #[.pointer (some ⟨F.d, 0, none⟩)] w fun e w' => e = .returned (.int .i64 (m : Int)) ∧ w = w' := by
  have hs := h.small
  have HS := Lib.hid (dsize_any h)
  have HE : Hid ((n : Int) / 2 = (m : Int)) := Lib.hid (by omega)
  clear hm
  go_enter Tryd.func26, Tryd.ntmps26
  go_wp2_with (go_at_call 45; refine HS.out.mono ?_; rintro e w' ⟨rfl, rfl⟩)
  go_ret
  exact ⟨by rw [← HE.out]; rfl, rfl⟩
end

/-- A text's bound does not matter, once it is as great as what there is. -/
theorem rtext_bound (s : List UInt8) (m : Nat) (h : s.length ≤ m) : Pk.rtext (m : Int) s = Pk.rtext (s.length : Int) s := by
  unfold Pk.rtext
  rw [if_neg (by omega), if_neg (by omega), Int.toNat_natCast, Int.toNat_natCast, dec_most s.length m h]
  cases hd : Pk.dec m 0 0 s with
  | none => rfl
  | some p =>
    obtain ⟨v, r⟩ := p
    have hr := Pk.dec_rest hd
    simp only
    by_cases hv : v ≤ s.length
    · rw [if_pos hv]
    · rw [if_neg hv, if_neg (by omega)]
/-- What readHead answers. -/
def hdE (t : List UInt8) : Nat := match Hv.hd t with | some (e, _) => e | none => 0
theorem endB_ba (l : List UInt8) : endB (some (ba l)) = decide (l = []) := by
  show (ba l).toList.isEmpty = _
  rw [ByteArray.toList_eq, ba_list]
  cases l <;> simp

theorem readHead_any (s : ByteArray) (w : World) (hs : s.size ≤ 32768) :
    Calls Tryd.prog 38 #[.string s] w fun e w' => ∃ x : ByteArray, e = .returned (.tuple #[.int .u64 (hdE s.data.toList : Int), .string x]) ∧ (∀ k y, Hv.hd s.data.toList = some (k, y) → x = ba y) ∧ Below w.heap.size w w' := by
  have HR := Lib.hid (read_any w s (by omega))
  -- what it comes to
  obtain ⟨X, hX⟩ : ∃ X, rNum 18446744073709551615 (some s) = X := ⟨_, rfl⟩
  obtain ⟨Y, hY⟩ : ∃ Y, rText (s.size : Int) X.2 = Y := ⟨_, rfl⟩
  have key : (endB Y.2 = true → X.1 = hdE s.data.toList ∧ ∀ k y, Hv.hd s.data.toList = some (k, y) → Y.1 = ba y) ∧ (endB Y.2 = false → 0 = hdE s.data.toList ∧ ∀ k y, Hv.hd s.data.toList = some (k, y) → (⟨#[]⟩ : ByteArray) = ba y) := by
    rw [rNum_some] at hX
    unfold hdE Hv.hd
    cases hd : Pk.dec 18446744073709551615 0 0 s.data.toList with
    | none =>
      rw [hd] at hX
      subst hX
      have : Y = (⟨#[]⟩, none) := hY.symm
      subst this
      exact ⟨fun h => (by cases h), fun _ => ⟨rfl, fun k y h => (by cases h)⟩⟩
    | some p =>
      obtain ⟨v, r⟩ := p
      rw [hd] at hX
      simp only at hX
      subst hX
      have hr := Pk.dec_rest hd
      rw [size_list] at hr
      have hb : Pk.rtext (s.size : Int) r = Pk.rtext 32768 r := by
        rw [rtext_bound r s.size (by omega)]
        exact (rtext_bound r 32768 (by omega)).symm
      unfold rText at hY
      simp only [ba_list] at hY
      rw [hb] at hY
      simp only
      cases hq : Pk.rtext 32768 r with
      | none =>
        rw [hq] at hY
        simp only at hY
        subst hY
        exact ⟨fun h => (by cases h), fun _ => ⟨rfl, fun k y h => (by cases h)⟩⟩
      | some p2 =>
        obtain ⟨x, q⟩ := p2
        rw [hq] at hY
        simp only at hY
        subst hY
        simp only [endB_ba, decide_eq_true_eq, decide_eq_false_iff_not]
        refine ⟨fun h => ?_, fun h => ?_⟩
        · by_cases hv : v = 0
          · rw [if_neg (by omega)]
            exact ⟨hv, fun k y h => by cases h⟩
          · rw [if_pos ⟨h, hv⟩]
            exact ⟨rfl, fun k y h => by injection h with h; injection h with h1 h2; rw [h2]⟩
        · rw [if_neg (fun hc => h hc.1)]
          exact ⟨rfl, fun k y h => by cases h⟩
  have HK := Lib.hid key
  clear key
  go_enter Tryd.func38, Tryd.ntmps38
  go_wp2_with fail
  refine HR.out.mono ?_
  rintro e w1 ⟨rfl, h1, hb1, hz1⟩
  have HB1 := Lib.hid hb1
  have HN := Lib.hid (rnum_any h1 18446744073709551615 (by omega))
  rw [hX] at HN
  clear HR h1 hb1 hz1
  go_wp2_with fail
  refine HN.out.mono ?_
  rintro e w2 ⟨rfl, h2, k2⟩
  have HB2 := Lib.hid (k2.below HB1.out (fun k hk => by rw [hk]; exact Nat.le_refl _) HB1.out.size)
  have HT := Lib.hid (rtext_any h2 (s.size : Int) (by omega) (by omega))
  rw [hY] at HT
  clear HN h2 k2
  go_wp2_with fail
  refine HT.out.mono ?_
  rintro e w3 ⟨rfl, h3, k3⟩
  have HB3 := Lib.hid (k3.below HB2.out (fun k hk => by rw [hk]; exact Nat.le_refl _) HB2.out.size)
  have HE := Lib.hid (end_any h3)
  clear HT h3 k3
  go_wp2_with fail
  refine HE.out.mono ?_
  rintro e w4 ⟨rfl, rfl⟩
  clear HE
  cases hE : endB Y.2 with
  | true =>
    go_wp2_with fail
    go_ret2
    have := HK.out.1 hE
    exact ⟨Y.1, by rw [this.1]; rfl, this.2, HB3.out⟩
  | false =>
    go_wp2_with fail
    go_ret2
    have := HK.out.2 hE
    exact ⟨⟨#[]⟩, by rw [← this.1]; rfl, this.2, HB3.out⟩
end Go.Proofs.YtggecdgomgmhmaaDoor
