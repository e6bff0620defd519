/-
  The digests of the two plain texts that law 11's awake draws are two (layer 11): reckoned. No condition.
  Contract of law 11's helper draw: ten times the same byte. No condition.
-/
import Derived.Test.YtfjdcopndkdbmaaGreatDoorMinV
import Derived.Test.YtfjdcopndkdbmaaGreatDoorMinLg

namespace Go.Proofs.YtfjdcopndkdbmaaGreatDoor
open Go.RowKit

/-- What law 11 draws for a number: ten times the same byte. -/
def ten10 (b : UInt8) : List UInt8 := List.replicate 10 b
theorem sum_block (X : List UInt8) (h : (Sh.pad X).length = 64) : Sh.sum X = Sh.out (Sh.block Sh.H0 (Sh.pad X)) := by
  unfold Sh.sum
  have h1 := Sh.blocks_step Sh.H0 (Sh.pad X) [] h
  rw [List.append_nil] at h1
  rw [h1, Sh.blocks_low _ [] (by decide)]
set_option maxRecDepth 1000000 in
theorem reck1 : (Sh.out (Sh.block Sh.H0 (Sh.pad (pbyte 4 :: Tk.clean (plainL 4 (ten10 1)))))).getD 0 0 = 104 := by kernel_rfl
set_option maxRecDepth 1000000 in
theorem reck2 : (Sh.out (Sh.block Sh.H0 (Sh.pad (pbyte 4 :: Tk.clean (plainL 4 (ten10 2)))))).getD 0 0 = 246 := by kernel_rfl
theorem two_digests : ba (digL 4 (plainL 4 (ten10 1))) ≠ ba (digL 4 (plainL 4 (ten10 2))) := by
  intro h
  have h2 : digL 4 (plainL 4 (ten10 1)) = digL 4 (plainL 4 (ten10 2)) := congrArg (fun b : ByteArray => b.data.toList) h
  unfold digL at h2
  rw [dig_eq, dig_eq, sum_block _ (by kernel_rfl), sum_block _ (by kernel_rfl)] at h2
  have h3 := congrArg (fun l : List UInt8 => l.getD 0 0) h2
  simp only [reck1, reck2] at h3
  revert h3
  decide
end Go.Proofs.YtfjdcopndkdbmaaGreatDoor

namespace Go.Proofs.YtfjdcopndkdbmaaGreatDoor
open Go.RowKit

/-- The byte that law 11 draws for a number. -/
def d7 (x : Int) : UInt8 := UInt8.ofNat (x % 8).toNat
theorem and_seven (x : Int) : bits .and .i64 x 7 = x % 8 := by
  have key : (BitVec.ofInt 64 x &&& BitVec.ofInt 64 7).toNat = (x % ((2 ^ 64 : Nat) : Int)).toNat % 2 ^ 3 := by
    rw [BitVec.toNat_and, BitVec.toNat_ofInt, show (BitVec.ofInt 64 7).toNat = 2 ^ 3 - 1 by decide, Nat.and_two_pow_sub_one_eq_mod]
  show IntKind.i64.wrap ((BitVec.ofInt 64 x &&& BitVec.ofInt 64 7).toNat : Nat) = _
  rw [key, IntKind.wrap_i64]
  omega
theorem d7_nat (x : Int) : ((d7 x).toNat : Int) = x % 8 := by
  unfold d7
  rw [UInt8.toNat_ofNat']
  omega
/-- The row, so many bytes filled. -/
def fil (b : UInt8) (k : Nat) : List UInt8 := List.replicate k b ++ List.replicate (10 - k) 0
theorem fil_length (b : UInt8) (k : Nat) (h : k ≤ 10) : (fil b k).length = 10 := by simp [fil]; omega
theorem fil_at (b : UInt8) (k : Nat) (_h : k < 10) (h2 : k < (fil b k).length) : (fil b k)[k] = 0 := by simp [fil]
theorem fil_set (b : UInt8) (k : Nat) (h : k < 10) : (fil b k).set k b = fil b (k + 1) := by
  unfold fil
  rw [List.set_append_right _ _ (by simp), List.length_replicate, Nat.sub_self, show 10 - k = (10 - (k + 1)) + 1 by omega, List.replicate_succ, List.set_cons_zero, List.replicate_succ' (n := k), List.append_assoc]
  rfl
theorem fil_cells (l : List UInt8) (k : Nat) (c : UInt8) : (cb l).toArray.setIfInBounds k (.int .u8 (c.toNat : Int)) = (cb (l.set k c)).toArray := by
  simp [cb, List.map_set]
set_option maxHeartbeats 1000000 in
theorem draw_any (x : Int) (w : World) :
    Calls Tryz.prog 42 #[.int .i64 x] w fun e w' => e = .returned (.string (ba (ten10 (d7 x)))) ∧ Below w.heap.size w w' := by
  have hmk := make_ten w
  have hz0 : List.replicate 10 0 = fil (d7 x) 0 := rfl
  rw [hz0] at hmk
  obtain ⟨Z, hZ⟩ : ∃ Z, (cb (fil (d7 x) 0)).toArray = Z := ⟨_, rfl⟩
  rw [hZ] at hmk
  have hbz := Blk.new w 5 Z
  rw [← hZ] at hbz
  have HBZ := Lib.hid hbz
  have hand := and_seven x
  have hwr : IntKind.u8.wrap (x % 8) = ((d7 x).toNat : Int) := by
    rw [d7_nat]
    unfold IntKind.wrap
    simp [IntKind.bits, IntKind.signed]
    omega
  have hten : ten10 (d7 x) = fil (d7 x) 10 := by simp [ten10, fil]
  rw [hten]
  generalize d7 x = b at *
  clear hten hz0 hbz
  go_enter Tryz.func42, Tryz.ntmps42
  go_wp2_with fail
  rw [← hZ]
  clear hmk hZ
  go_loopw [4] (fun i wr => ∃ k : Nat, i = .int .i64 (k : Int) ∧ k ≤ 10 ∧ Blk wr w.heap.size 5 (cb (fil b k)).toArray ∧ Below w.heap.size w wr) (fun i _ => 10 - (intOf i).toNat)
  case atStart => exact ⟨0, rfl, by omega, Blk.new _ _ _, (Below.refl _ _).alloc (Nat.le_refl _) _⟩
  case round =>
    obtain ⟨k, rfl, hk, hbk, hb⟩ := hrel
    have HK := Lib.hid hbk
    have HB := Lib.hid hb
    by_cases hlt : k < 10
    · have hki : (k : Int) < 10 := by omega
      have d1 := hbk.cell k
      have hg := cb_get (fil b k) k (by rw [fil_length b k hk]; exact hlt)
      rw [List.getElem?_toArray, hg, fil_at b k hlt] at d1
      rw [show ((0 : UInt8).toNat : Int) = 0 from rfl] at d1
      have d2 := hbk.frozen k
      have HS := Lib.hid (hbk.set_ k (.int .u8 (b.toNat : Int)))
      rw [fil_cells, fil_set b k hlt] at HS
      clear hbk hb hg
      go_wp2_with fail
      go_roundw
      case rel => exact ⟨k + 1, by go_num, by omega, HS.out, HB.out.setCell (Nat.le_refl _) _⟩
      case measure => simp [intOf]; omega
    · obtain rfl : k = 10 := by omega
      have hcv := run_row_text (fil_length b 10 (by omega)) 10 HK.out
      clear hbk hb
      go_wp2_with fail
      go_ret
      exact ⟨rfl, HB.out⟩
end Go.Proofs.YtfjdcopndkdbmaaGreatDoor
