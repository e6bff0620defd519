/-
  Contracts of the document's in, Extend, Sum and Seal. No condition.
-/
import Derived.Test.YtgbopohbhnpceaaDoorCrcBy
namespace Go.Proofs.YtgbopohbhnpceaaDoor
open Go.RowKit

def InRel (q : BitVec 32) (t0 t5 : Value) : Prop := ∃ k : Nat, k ≤ 8 ∧ t0 = .int .u32 (R (Crc.shN k q)) ∧ t5 = .int .i64 (k : Int)

theorem refIn_any (r : BitVec 32) (c : UInt8) (w : World) :
    Calls Tryd.prog 39 #[.int .u32 (R r), .int .u8 (c.toNat : Int)] w fun e w' => e = .returned (.int .u32 (R (Crc.inB r c))) ∧ w = w' := by
  have hcw := bw_R c
  have hx := R_xor r (Crc.bw c)
  go_enter Tryd.func39, Tryd.ntmps39
  go_wp2
  go_loop [0, 5] (InRel (r ^^^ Crc.bw c)) (fun _ i => 8 - (intOf i).toNat)
  case atStart => exact ⟨0, by omega, rfl, rfl⟩
  case round =>
    obtain ⟨k, hk, rfl, rfl⟩ := hrel
    clear hx
    by_cases hlt : k < 8
    · generalize hq : Crc.shN k (r ^^^ Crc.bw c) = q
      have HQ : Hid (Crc.shN (k + 1) (r ^^^ Crc.bw c) = Crc.sh q) := by rw [← hq]; rfl
      clear hq
      have h1 := R_1 q
      rw [R_low] at h1
      have hh := R_half q
      cases hb : q.getLsbD 0
      · rw [hb, if_neg (by simp)] at h1
        have HS : Hid (Crc.sh q = q >>> 1) := Crc.sh_even hb
        clear hb
        go_wp2
        go_round
        case rel => exact ⟨k + 1, by omega, by rw [HQ.out, HS.out], by go_num⟩
        case measure => simp [intOf]; omega
      · rw [hb, if_pos rfl] at h1
        have HS : Hid (Crc.sh q = q >>> 1 ^^^ Crc.poly) := Crc.sh_odd hb
        have hp := R_poly (q >>> 1)
        clear hb
        go_wp2
        go_round
        case rel => exact ⟨k + 1, by omega, by rw [HQ.out, HS.out], by go_num⟩
        case measure => simp [intOf]; omega
    · obtain rfl : k = 8 := by omega
      go_wp2
      go_ret
      exact ⟨rfl, rfl⟩

def ExtRel (q : BitVec 32) (s : ByteArray) (t5 t6 : Value) : Prop := ∃ k : Nat, k ≤ s.size ∧ t5 = .int .u32 (R (Crc.fold q (s.data.toList.take k))) ∧ t6 = .int .i64 (k : Int)

theorem refExtend_any (x : BitVec 32) (s : ByteArray) (w : World) (hs : s.size ≤ 1000) :
    Calls Tryd.prog 37 #[.int .u32 (R x), .string s] w fun e w' => e = .returned (.int .u32 (R (Crc.ext x s.data.toList))) ∧ w = w' := by
  have h0 := R_ones x
  go_enter Tryd.func37, Tryd.ntmps37
  go_wp2
  go_loop [5, 6] (ExtRel (x ^^^ Crc.ones) s) (fun _ i => s.size - (intOf i).toNat)
  case atStart => exact ⟨0, by omega, rfl, rfl⟩
  case round =>
    obtain ⟨k, hk, rfl, rfl⟩ := hrel
    by_cases hlt : k < s.size
    · have HT : Hid (Crc.fold (x ^^^ Crc.ones) (s.data.toList.take (k + 1)) = Crc.inB (Crc.fold (x ^^^ Crc.ones) (s.data.toList.take k)) s[k]) := (congrArg (Crc.fold (x ^^^ Crc.ones)) (take_snoc s k hlt)).trans (Crc.fold_snoc _ _ _)
      generalize Crc.fold (x ^^^ Crc.ones) (s.data.toList.take k) = q at HT
      go_wp2_with (go_at_call 39; refine (refIn_any _ _ _).mono ?_; rintro e w' ⟨rfl, rfl⟩)
      go_round
      case rel => exact ⟨k + 1, by omega, by rw [HT.out], by go_num⟩
      case measure => simp [intOf]; omega
    · obtain rfl : k = s.size := by omega
      rw [List.take_of_length_le (by simp)]
      have h1 := R_ones (Crc.fold (x ^^^ Crc.ones) s.data.toList)
      go_wp2
      go_ret
      exact ⟨rfl, rfl⟩

theorem ext_zero (l : List UInt8) : Crc.ext 0#32 l = Crc.sum l := by
  unfold Crc.ext Crc.sum
  rw [BitVec.zero_xor]
theorem refExtend_zero (s : ByteArray) (w : World) (hs : s.size ≤ 1000) :
    Calls Tryd.prog 37 #[.int .u32 0, .string s] w fun e w' => e = .returned (.int .u32 (R (Crc.sum s.data.toList))) ∧ w = w' := by
  rw [← ext_zero]
  exact refExtend_any 0#32 s w hs
theorem refSum_any (s : ByteArray) (w : World) (hs : s.size ≤ 1000) :
    Calls Tryd.prog 34 #[.string s] w fun e w' => e = .returned (.int .u32 (R (Crc.sum s.data.toList))) ∧ w = w' := by
  go_enter Tryd.func34, Tryd.ntmps34
  go_wp2_with (go_at_call 37; refine (refExtend_zero _ _ hs).mono ?_; rintro e w' ⟨rfl, rfl⟩)
  go_ret
  exact ⟨rfl, rfl⟩

theorem bytes4_sealOf (l : List UInt8) : bytes4 (R (Crc.sum l) % 256) (R (Crc.sum l) / 256 % 256) (R (Crc.sum l) / 65536 % 256) (R (Crc.sum l) / 16777216 % 256) = sealOf l := bytes4_le4 _

theorem refSeal_any (s : ByteArray) (w : World) (hs : s.size ≤ 1000) :
    Calls Tryd.prog 30 #[.string s] w fun e w' => e = .returned (.string (s ++ sealOf s.data.toList)) ∧ Below w.heap.size w w' := by
  have hcv := run_bytes4
  have hB := bytes4_sealOf s.data.toList
  have hz : (sealOf s.data.toList).size ≤ 4 := Nat.le_refl _
  go_enter Tryd.func30, Tryd.ntmps30
  go_wp2_with (go_at_call 34; refine (refSum_any _ _ hs).mono ?_; rintro e w' ⟨rfl, rfl⟩)
  go_ret
  exact ⟨rfl, (Below.refl _ _).alloc (Nat.le_refl _) _⟩

end Go.Proofs.YtgbopohbhnpceaaDoor
