/-
  The contract of the closure in crc.process: it processes one byte, on the register that it captured. Condition: the table holds what its text says; the register is a variable of its own.
-/
import Derived.Test.YtggecdgomgmhmaaDoorRows
import Derived.Test.YtggecdgomgmhmaaDoorCrcBase
import Derived.RegionTactic
import Derived.WalkLawsBesides
namespace Go.Proofs.YtggecdgomgmhmaaDoor
open Go.RowKit

/-- The table holds what its text says. -/
def Tab (w : World) : Prop := ∀ i, i < 16 → w.cell? ⟨0, i, none⟩ = some (.int .u32 ((Crc.tab.getD i 0 : Nat) : Int))

/-- The variable in block b is the register r. -/
def Reg (w : World) (b : Nat) (r : BitVec 32) : Prop := w.heap[b]? = some (.cells #[.int .u32 (R r)] 112 (0, 0))

theorem Reg.cell {w : World} {b : Nat} {r : BitVec 32} (h : Reg w b r) : w.cell? ⟨b, 0, none⟩ = some (.int .u32 (R r)) := by
  unfold Reg at h; simp [World.cell?, h]
theorem Reg.free {w : World} {b : Nat} {r : BitVec 32} (h : Reg w b r) : w.frozen? ⟨b, 0, none⟩ = false := by
  unfold Reg at h; simp [World.frozen?, h]
theorem Reg.set {w : World} {b : Nat} {r : BitVec 32} (h : Reg w b r) (s : BitVec 32) : Reg (w.setCell ⟨b, 0, none⟩ (.int .u32 (R s))) b s := by
  unfold Reg at h ⊢
  simp [World.setCell, Array.getElem?_modify, h]
theorem Reg.lt {w : World} {b : Nat} {r : BitVec 32} (h : Reg w b r) : b < w.heap.size := by
  unfold Reg at h
  exact (Array.getElem?_eq_some_iff.1 h).1

theorem tab_lt (i : Nat) : (Crc.tab.getD i 0 : Nat) < 4294967296 := by
  by_cases h : i < 16
  · have : ∀ j : Fin 16, Crc.tab.getD j.val 0 < 4294967296 := by decide
    exact this ⟨i, h⟩
  · have : Crc.tab.length = 16 := rfl
    rw [List.getD_eq_getElem?_getD, List.getElem?_eq_none (by omega)]
    decide
/-- A cell of the table as a register. -/
theorem tab_R (r : BitVec 32) : ((Crc.tab.getD (r &&& 15#32).toNat 0 : Nat) : Int) = R (BitVec.ofNat 32 (Crc.tab.getD (r &&& 15#32).toNat 0)) := by
  unfold R
  rw [BitVec.toNat_ofNat, Nat.mod_eq_of_lt (tab_lt _)]

/-- What the table gives for a register. -/
def tabAt (r : BitVec 32) : BitVec 32 := BitVec.ofNat 32 (Crc.tab.getD (r &&& 15#32).toNat 0)
theorem Tab.at {w : World} (h : Tab w) (r : BitVec 32) : w.cell? ⟨0, (R (r &&& 15#32)).toNat, none⟩ = some (.int .u32 (R (tabAt r))) := by
  have := h (r &&& 15#32).toNat (Crc.low_le r)
  rw [tab_R] at this
  exact this

theorem grown_set {w wr : World} {b : Nat} (h : w.grownBy wr (some b)) (v : Value) : w.grownBy (wr.setCell ⟨b, 0, none⟩ v) (some b) :=
  ⟨h.os, h.tape, h.output, by simpa using h.size, fun k hk hne => (Below.heap_setCell wr ⟨b, 0, none⟩ v k (by rintro rfl; exact hne rfl)).trans (h.block k hk hne)⟩
theorem grown_drew {w wr : World} {row : Option Nat} (h : w.grownBy wr row) : w.grownBy wr.drew row := ⟨h.os, h.tape, h.output, h.size, h.block⟩
theorem Tab.set {w : World} (h : Tab w) {b : Nat} (hb : b ≠ 0) (v : Value) : Tab (w.setCell ⟨b, 0, none⟩ v) := by
  intro i hi
  have hne : (⟨b, 0, none⟩ : Addr) ≠ ⟨0, i, none⟩ := by intro e; exact hb (congrArg Addr.block e)
  exact (World.cell?_setCell_other _ _ _ _ hne).trans (h i hi)
theorem Tab.lt {w : World} (h : Tab w) : 0 < w.heap.size := World.block_lt_of_cell? _ _ (h 0 (by omega))

def NextRel (w : World) (b : Nat) (r : BitVec 32) (i : Value) (wr : World) : Prop :=
  ∃ k : Nat, k ≤ 2 ∧ i = .int .i64 (k : Int) ∧ Reg wr b (Crc.shN (4 * k) r) ∧ w.grownBy wr (some b) ∧ Tab wr

theorem shN_4 (k : Nat) (r : BitVec 32) : Crc.shN 4 (Crc.shN (4 * k) r) = Crc.shN (4 * (k + 1)) r := by
  rw [← Crc.shN_add, show 4 + 4 * k = 4 * (k + 1) by omega]

theorem bw_R (c : UInt8) : (c.toNat : Int) % 4294967296 = R (Crc.bw c) := by
  have := c.toNat_lt
  unfold R
  rw [Crc.bw_toNat]
  omega

set_option maxHeartbeats 1000000 in
theorem next_any (c : UInt8) (b : Nat) (r : BitVec 32) (w : World) (hb : b ≠ 0) (hr : Reg w b r) (ht : Tab w) :
    Calls Tryd.prog 79 #[.int .u8 (c.toNat : Int), .pointer (some ⟨b, 0, none⟩)] w fun e w' => e = .returned (.tuple #[]) ∧ Reg w' b (Crc.inB r c) ∧ w.grownBy w' (some b) := by
  have hc := hr.cell
  have hf := hr.free
  have hcw := bw_R c
  have hx := R_xor r (Crc.bw c)
  go_enter Tryd.func79, Tryd.ntmps79
  go_wp2
  go_loopw [7] (NextRel w b (r ^^^ Crc.bw c)) (fun i _ => 2 - (intOf i).toNat)
  case atStart => exact ⟨0, by omega, rfl, hr.set _, grown_set (World.grownBy.refl _ _) _, ht.set hb _⟩
  case round =>
    obtain ⟨k, hk, rfl, hreg, hg, htb⟩ := hrel
    clear hc hf hx
    by_cases hlt : k < 2
    · generalize hs : Crc.shN (4 * k) (r ^^^ Crc.bw c) = s at hreg
      have HS : Hid (Crc.shN 4 s = Crc.shN (4 * (k + 1)) (r ^^^ Crc.bw c)) := by rw [← hs]; exact shN_4 _ _
      clear hs
      have hc := hreg.cell
      have hf := hreg.free
      have h16 := R_16 s
      have h15 := R_15 s
      have htc := htb.at s
      have hx : bits .xor .u32 (R (s >>> 4)) (R (tabAt s)) = R (Crc.shN 4 s) := (R_xor _ _).trans (congrArg R (Crc.half s))
      have hlo := R_nonneg (s &&& 15#32)
      have hhi : R (s &&& 15#32) < 16 := by have := Crc.low_le s; unfold R; omega
      go_wp2
      go_region
      go_wp2
      go_roundw
      case rel => exact ⟨k + 1, by omega, by go_num, by rw [← HS.out]; exact hreg.set _, grown_drew (grown_set hg _), htb.set hb _⟩
      case measure => simp [intOf]; omega
    · obtain rfl : k = 2 := by omega
      go_wp2
      go_end0
      exact ⟨rfl, hreg, hg⟩
end Go.Proofs.YtggecdgomgmhmaaDoor
