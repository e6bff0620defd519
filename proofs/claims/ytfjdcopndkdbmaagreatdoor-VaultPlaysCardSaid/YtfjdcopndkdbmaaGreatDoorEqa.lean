/-
  Contract of mac.Equal. Condition: texts of 100000 bytes at most.
-/
import Derived.BigQuiet
import Derived.LoopTactic
import Derived.Test.YtfjdcopndkdbmaaGreatDoorBas
import Derived.Test.YtfjdcopndkdbmaaGreatDoorSha
import Derived.Test.YtfjdcopndkdbmaaGreatDoorShr
namespace Go.Proofs.YtfjdcopndkdbmaaGreatDoor
open Go.RowKit

theorem xor_byte (x y : UInt8) : bits .xor .u8 (x.toNat : Int) (y.toNat : Int) = ((x ^^^ y).toNat : Int) := by
  rw [u8_xor_nat _ _ x.toNat_lt y.toNat_lt, UInt8.toNat_xor]
theorem or_byte (x y : UInt8) : bits .or .u8 (x.toNat : Int) (y.toNat : Int) = ((x ||| y).toNat : Int) := by
  rw [u8_or_nat _ _ x.toNat_lt y.toNat_lt, UInt8.toNat_or]
theorem byte_in (s : ByteArray) (i : Nat) (hi : i < s.size) (W : World) : (Instr.index 9 (.string s) (.int .i64 (i : Int))).run Tryz.prog W = .ok (.int .u8 ((s.data.toList.getD i 0).toNat : Int)) W := by
  rw [byte_at s i hi W, R_zw]
theorem or_zero (x y : UInt8) : x ||| y = 0 ↔ x = 0 ∧ y = 0 := by
  constructor
  · intro h
    have h1 : (x ||| y).toNat = 0 := by rw [h]; rfl
    rw [UInt8.toNat_or, Nat.or_eq_zero_iff] at h1
    exact ⟨UInt8.toNat_inj.1 h1.1, UInt8.toNat_inj.1 h1.2⟩
  · rintro ⟨rfl, rfl⟩
    rfl
theorem xor_zero (x y : UInt8) : x ^^^ y = 0 ↔ x = y := by simp
theorem take_both (l m : List UInt8) (k : Nat) (hl : k < l.length) (hm : k < m.length) : l.take (k + 1) = m.take (k + 1) ↔ (l.take k = m.take k ∧ l[k] = m[k]) := by
  rw [take_more l k hl, take_more m k hm]
  constructor
  · intro h
    have := List.append_inj' h rfl
    exact ⟨this.1, by simpa using this.2⟩
  · rintro ⟨h1, h2⟩
    rw [h1, h2]
set_option maxRecDepth 100000 in
set_option maxHeartbeats 2000000 in
theorem equal_any (a b : ByteArray) (ha : a.size ≤ 100000) (w : World) :
    Calls Tryz.prog 45 #[.string a, .string b] w fun e w' => e = .returned (.bool (decide (a = b))) ∧ Below w.heap.size w w' := by
  obtain ⟨r, hr⟩ : ∃ r, decide (a = b) = r := ⟨_, rfl⟩
  have HR := Lib.hid hr
  rw [hr]
  clear hr
  go_enter Tryz.func45, Tryz.ntmps45
  by_cases hs : a.size = b.size
  · have hsi : ((a.size : Int) == (b.size : Int)) = true := by simp; omega
    have hsi2 : (a.size : Int) = (b.size : Int) := by omega
    have hla : a.data.toList.length = a.size := by simp
    have hlb : b.data.toList.length = a.size := by simp; omega
    go_wp2_with fail
    clear hsi hsi2
    go_loopw [5, 6, 14] (fun d _ i wr => ∃ (k q : Nat) (x : UInt8), i = .int .i64 (k : Int) ∧ k ≤ a.size ∧ d = .int .u8 (x.toNat : Int) ∧ (x = 0 ↔ a.data.toList.take k = b.data.toList.take k) ∧ wr = w.drewN q)
      (fun _ _ i _ => a.size - (intOf i).toNat)
    case atStart => exact ⟨0, 0, 0, rfl, by omega, rfl, by simp, rfl⟩
    case round =>
      obtain ⟨k, q, x, rfl, hk, rfl, hx, rfl⟩ := hrel
      by_cases hlt : k < a.size
      · have ha1 := byte_in a k hlt
        have hb1 := byte_in b k (by omega)
        have e1 : a.data.toList.getD k 0 = a.data.toList[k] := by simp [List.getD_eq_getElem?_getD, hlt]
        have e2 : b.data.toList.getD k 0 = b.data.toList[k] := by simp [List.getD_eq_getElem?_getD, show k < b.size by omega]
        have HT := Lib.hid (take_both a.data.toList b.data.toList k (by omega) (by omega))
        rw [e1] at ha1
        rw [e2] at hb1
        generalize a.data.toList[k] = y at ha1 HT
        generalize b.data.toList[k] = z at hb1 HT
        have h1 := xor_byte y z
        have h2 := or_byte x (y ^^^ z)
        have hxz := or_zero x (y ^^^ z)
        rw [xor_zero] at hxz
        generalize y ^^^ z = v at h1 h2 hxz
        generalize x ||| v = x2 at h2 hxz
        have HX := Lib.hid hx
        have HXZ := Lib.hid hxz
        clear hxz
        have ki : (k : Int) < (a.size : Int) := by omega
        clear hx e1 e2 hla hlb
        go_wp2_with fail
        go_quiet (fail)
        go_wp2_with fail
        go_roundw
        case rel => exact ⟨k + 1, _, x2, by go_num, by omega, rfl, by rw [HXZ.out, HT.out, HX.out], rfl⟩
        case measure => simp [intOf]; omega
      · obtain rfl : k = a.size := by omega
        rw [List.take_of_length_le (by omega), List.take_of_length_le (by omega)] at hx
        have hxe : r = decide (x = 0) := by
          rw [← HR.out, Bool.eq_iff_iff, decide_eq_true_eq, decide_eq_true_eq, hx]
          constructor
          · intro h; rw [h]
          · intro h
            apply ByteArray.ext
            exact Array.toList_inj.1 h
        have HRE := Lib.hid hxe
        by_cases h0 : x = 0
        · have HRT : Hid (r = true) := Lib.hid (by rw [hxe]; exact decide_eq_true h0)
          have hz : ((x.toNat : Int) == 0) = true := by subst h0; rfl
          have hz2 : (x.toNat : Int) = 0 := by subst h0; rfl
          clear hx hxe hla hlb h0
          go_wp2_with fail
          go_ret
          exact ⟨by rw [HRT.out]; rfl, below_drewN (Below.refl _ _) _⟩
        · have HRT : Hid (r = false) := Lib.hid (by rw [hxe]; exact decide_eq_false h0)
          have hz2 : ¬ (x.toNat : Int) = 0 := fun h => h0 (UInt8.toNat_inj.1 (by simpa using h))
          have hz : ((x.toNat : Int) == 0) = false := by simpa using hz2
          clear hx hxe hla hlb h0
          go_wp2_with fail
          go_ret
          exact ⟨by rw [HRT.out]; rfl, below_drewN (Below.refl _ _) _⟩
  · have hsi : ((a.size : Int) == (b.size : Int)) = false := by simp; omega
    have hsi2 : ¬ (a.size : Int) = (b.size : Int) := by omega
    have HRT : Hid (r = false) := Lib.hid (by rw [← HR.out]; exact decide_eq_false (fun h => hs (by rw [h])))
    go_wp2_with fail
    go_ret
    exact ⟨by rw [HRT.out]; rfl, Below.refl _ _⟩
end Go.Proofs.YtfjdcopndkdbmaaGreatDoor
