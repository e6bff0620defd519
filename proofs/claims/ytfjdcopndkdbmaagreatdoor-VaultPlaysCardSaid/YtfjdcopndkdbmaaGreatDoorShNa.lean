/-
  Contracts of sha's meters: Sum of a Meter tells the digest and is counted. Condition: the tables hold what their text says; at most 1000 parts of 100000 bytes in all; fewer than 1000000 were counted.
-/
import Derived.Test.YtfjdcopndkdbmaaGreatDoorShb
namespace Go.Proofs.YtfjdcopndkdbmaaGreatDoor
open Go.RowKit

/-- A meter in memory. -/
abbrev Met (w : World) (g : Nat) (k : Nat) : Prop := Blk w g 60 #[.int .i64 (k : Int)]
set_option maxHeartbeats 1000000 in
theorem madd_any (g k : Nat) (hk : k ≤ 1000000) (w : World) (hM : Met w g k) :
    Calls Tryz.prog 82 #[.pointer (some ⟨g, 0, none⟩), .int .i64 1] w fun e w' => e = .returned (.int .i64 ((k : Int) + 1)) ∧ w' = w.setCell ⟨g, 0, none⟩ (.int .i64 ((k : Int) + 1)) := by
  have hadd := run_call_add (P := Tryz.prog) Tryz.func93 (by kernel_rfl) (by kernel_rfl) (by kernel_rfl) .i64 (by kernel_rfl) (y := 1) (s := (k : Int) + 1) (hM.cell 0) (hM.frozen 0) (by simp [go_sem, IntKind.wrap_i64]; omega)
  clear hM
  go_enter Tryz.func82, Tryz.ntmps82
  go_wp2
  go_ret
  exact ⟨rfl, rfl⟩
set_option maxHeartbeats 1000000 in
theorem msum_any (l : List ByteArray) (hl : l.length ≤ 1000) (hs : len l ≤ 100000) (A : Option Addr) (c : Nat) (g k : Nat) (hk : k ≤ 1000000) (w : World) (hA : Lies (fun b => b = g) w A (cs l)) (hM : Met w g k) (hg : g ≠ 1 ∧ g ≠ 0) (hT : Tab w) :
    Calls Tryz.prog 68 #[.pointer (some ⟨g, 0, none⟩), .slice A l.length c] w fun e w' => e = .returned (.string (ba (dig (tx l).flatten))) ∧ Met w' g (k + 1) ∧ Kept (fun b => b = g) w w' := by
  have HA0 := Lib.hid (madd_any g k hk w hM)
  have hM2 := hM.set_ 0 (.int .i64 ((k : Int) + 1))
  have hK := (Kept.refl (fun b => b = g) w).setCell (p := ⟨g, 0, none⟩) (.inl rfl) (.int .i64 ((k : Int) + 1))
  have hT2 : Tab (w.setCell ⟨g, 0, none⟩ (.int .i64 ((k : Int) + 1))) :=
    ⟨fun i hi => (World.cell?_of_block (hK.block _ hT.ltK (fun e => hg.1 e.symm))).trans (hT.K i hi), fun i hi => (World.cell?_of_block (hK.block _ hT.ltH (fun e => hg.2 e.symm))).trans (hT.H i hi)⟩
  have HS := Lib.hid (sum_any l hl hs A c _ (Lies.mono (hA.kept hK) (fun _ _ h => h.elim)) hT2)
  have HM := Lib.hid hM2
  have HK := Lib.hid hK
  clear hA hM hM2 hT hT2 hK
  generalize w.setCell ⟨g, 0, none⟩ (.int .i64 ((k : Int) + 1)) = w2 at HA0 HS HM HK
  go_enter Tryz.func68, Tryz.ntmps68
  go_wp2_with fail
  refine HA0.out.mono ?_
  rintro e w3 ⟨rfl, rfl⟩
  clear HA0
  go_wp2_with fail
  refine HS.out.mono ?_
  rintro e w4 ⟨rfl, hb⟩
  have hbl := hb.block g HM.out.lt
  have HK2 := Lib.hid (HK.out.trans (Kept.of_below (S := fun b => b = g) hb) (fun _ h => .inl h))
  clear hb
  go_wp2_with fail
  go_ret
  exact ⟨rfl, by have := HM.out.of hbl; exact this, HK2.out⟩
set_option maxHeartbeats 1000000 in
theorem mcount_nil (w : World) : Calls Tryz.prog 20 #[.pointer none] w fun e w' => e = .returned (.int .i64 0) ∧ w' = w := by
  go_enter Tryz.func20, Tryz.ntmps20
  go_wp2
  go_ret
  exact ⟨rfl, rfl⟩
set_option maxHeartbeats 1000000 in
theorem mcount_any (g k : Nat) (w : World) (hM : Met w g k) : Calls Tryz.prog 20 #[.pointer (some ⟨g, 0, none⟩)] w fun e w' => e = .returned (.int .i64 (k : Int)) ∧ w' = w := by
  have hld := run_call_load (P := Tryz.prog) Tryz.func75 (by kernel_rfl) (by kernel_rfl) (by kernel_rfl) .i64 (by kernel_rfl) (hM.cell 0)
  clear hM
  go_enter Tryz.func20, Tryz.ntmps20
  go_wp2
  go_ret
  exact ⟨rfl, rfl⟩

theorem msum_new (l : List ByteArray) (hl : l.length ≤ 1000) (hs : len l ≤ 100000) (g k : Nat) (hk : k ≤ 1000000) (w : World) (hM : Met w g k) (hg : g ≠ 1 ∧ g ≠ 0) (hT : Tab w) :
    Calls Tryz.prog 68 #[.pointer (some ⟨g, 0, none⟩), .slice (some ⟨w.heap.size, 0, none⟩) l.length l.length] (w.alloc (.cells (cs l).toArray 9)) fun e w' => e = .returned (.string (ba (dig (tx l).flatten))) ∧ Met w' g (k + 1) ∧ Kept (fun b => b = g) w w' := by
  have hb : Below w.heap.size w (w.alloc (.cells (cs l).toArray 9)) := (Below.refl _ w).alloc (Nat.le_refl _) _
  have hlt := hM.lt
  exact (msum_any l hl hs (some ⟨w.heap.size, 0, none⟩) l.length g k hk _ (lies_lit _ l w (fun h => by omega)) (hM.alloc _) hg (hT.next hb)).mono fun e w' h => ⟨h.1, h.2.1, (Kept.of_below hb).trans h.2.2 (fun _ h => .inl h)⟩
end Go.Proofs.YtfjdcopndkdbmaaGreatDoor
