/-
  Contract of law 11's helper attempt. No condition.
-/
import Derived.Test.YtfjdcopndkdbmaaGreatDoorVta
import Derived.Test.YtfjdcopndkdbmaaGreatDoorMinR
import Derived.Test.YtfjdcopndkdbmaaGreatDoorVrE
namespace Go.Proofs.YtfjdcopndkdbmaaGreatDoor
open Go.RowKit

theorem and_bits (x : Int) (k : Nat) (hk : k ≤ 3) : bits .and .i64 x ((2 ^ k - 1 : Nat) : Int) = x % (2 ^ k : Nat) := by
  have h3 : k = 0 ∨ k = 1 ∨ k = 2 ∨ k = 3 := by omega
  have key : (BitVec.ofInt 64 x &&& BitVec.ofInt 64 ((2 ^ k - 1 : Nat) : Int)).toNat = (x % ((2 ^ 64 : Nat) : Int)).toNat % 2 ^ k := by
    rw [BitVec.toNat_and, BitVec.toNat_ofInt, show (BitVec.ofInt 64 ((2 ^ k - 1 : Nat) : Int)).toNat = 2 ^ k - 1 by rcases h3 with rfl | rfl | rfl | rfl <;> decide, Nat.and_two_pow_sub_one_eq_mod]
  show IntKind.i64.wrap ((BitVec.ofInt 64 x &&& BitVec.ofInt 64 ((2 ^ k - 1 : Nat) : Int)).toNat : Nat) = _
  rw [key, IntKind.wrap_i64]
  rcases h3 with rfl | rfl | rfl | rfl <;> omega
/-- An account, a purpose, a channel, as law 11 draws them. -/
def accOf (q : Int) : Int := 1 + q % 4
def purOf (q : Int) : Int := 1 + q % 6
def mailC : ByteArray := ⟨#[97, 64, 98, 46, 99, 100]⟩
def phoneC : ByteArray := ⟨#[43, 49, 50, 51, 52, 53, 54, 55, 56]⟩
def chOf (q : Int) : ByteArray := if q % 2 = 0 then mailC else phoneC
def plOf (p x : Int) : ByteArray := ba (plainL p (ten10 (d7 x)))
theorem pur_eq (q : Int) : wrap64 (1 + (wrap64 (q.tmod 6 + 6)).tmod 6) = purOf q := by
  have h1 := Int.tmod_lt_of_pos q (show (0 : Int) < 6 by decide)
  have h2 : -6 < q.tmod 6 := by
    have := Int.tmod_lt_of_pos (-q) (show (0 : Int) < 6 by decide)
    rw [Int.neg_tmod] at this
    omega
  have h5 : q.tmod 6 % 6 = q % 6 := by
    have h6 := Int.mul_tdiv_add_tmod q 6
    omega
  have h3 : wrap64 (q.tmod 6 + 6) = q.tmod 6 + 6 := by
    generalize q.tmod 6 = t at h1 h2 ⊢
    simp only [wrap64]
    omega
  rw [h3]
  unfold purOf
  have h4 : (q.tmod 6 + 6).tmod 6 = q % 6 := by
    rw [Int.tmod_eq_emod_of_nonneg (by omega)]
    omega
  rw [h4]
  simp only [wrap64]
  omega
theorem acc_eq (q : Int) : wrap64 (1 + q % 4) = accOf q := by
  unfold accOf
  simp only [wrap64]
  omega
theorem att_size : (Tryz.prog.info? 37).map (·.size) = some 4 := by kernel_rfl
theorem Blk.four {w : World} {g : Nat} {t : TypeId} {a b c d : Value} (H : Blk w g t #[a, b, c, d]) (u v x y : Value) :
    Blk ((((w.setCell ⟨g, 0, none⟩ u).setCell ⟨g, 1, none⟩ v).setCell ⟨g, 2, none⟩ x).setCell ⟨g, 3, none⟩ y) g t #[u, v, x, y] := by
  have := (((H.set_ 0 u).set_ 1 v).set_ 2 x).set_ 3 y
  simpa using this
theorem below_four {B : Nat} {w0 w : World} {g : Nat} (h : Below B w0 w) (hg : B ≤ g) (u v x y : Value) :
    Below B w0 ((((w.setCell ⟨g, 0, none⟩ u).setCell ⟨g, 1, none⟩ v).setCell ⟨g, 2, none⟩ x).setCell ⟨g, 3, none⟩ y) :=
  (((h.setCell (p := ⟨g, 0, none⟩) hg _).setCell (p := ⟨g, 1, none⟩) hg _).setCell (p := ⟨g, 2, none⟩) hg _).setCell (p := ⟨g, 3, none⟩) hg _
theorem and_three (q : Int) : bits .and .i64 q 3 = q % 4 := and_bits q 2 (by decide)
theorem and_one (q : Int) : bits .and .i64 q 1 = q % 2 := and_bits q 1 (by decide)
set_option maxRecDepth 100000 in
set_option maxHeartbeats 4000000 in
theorem attempt_any (q0 q1 q2 q3 : Int) (w : World) :
    Calls Tryz.prog 17 #[.agg #[.int .i64 q0, .int .i64 q1, .int .i64 q2, .int .i64 q3]] w fun e w' => e = .returned (.agg #[.int .i64 (accOf q0), .int .i64 (purOf q1), .string (chOf q2), .string (plOf (purOf q1) q3)]) ∧ Below w.heap.size w w' := by
  have HDR := Lib.hid (fun W => draw_any q3 W)
  have HPL := Lib.hid (fun W => rplain_any (purOf q1) (ten10 (d7 q3)) (by rw [ten10]; simp) W)
  have hpur := pur_eq q1
  have hand := and_three q0
  have hone := and_one q2
  obtain ⟨C, hC⟩ : ∃ C, chOf q2 = C := ⟨_, rfl⟩
  rw [hC]
  have HC := Lib.hid hC
  clear hC
  unfold plOf
  generalize ba (plainL (purOf q1) (ten10 (d7 q3))) = PL at HPL ⊢
  generalize plainB (purOf q1) (ten10 (d7 q3)) = pb at HPL
  generalize purOf q1 = pu at HPL hpur ⊢
  generalize ba (ten10 (d7 q3)) = DR at HDR HPL
  go_enter Tryz.func17, Tryz.ntmps17
  go_wp2_with fail
  generalize hW0 : World.alloc _ (.cells #[.string ⟨#[97, 64, 98, 46, 99, 100]⟩, .string ⟨#[43, 49, 50, 51, 52, 53, 54, 55, 56]⟩] 85) = W0
  have HX0 := Lib.hid (show Blk W0 w.heap.size 35 #[.int .i64 q0, .int .i64 q1, .int .i64 q2, .int .i64 q3] by rw [← hW0]; exact ((Blk.new w _ _).alloc _).alloc _)
  have HY0 := Lib.hid (show Blk W0 (w.heap.size + 1) 37 #[.int .i64 0, .int .i64 0, .string ⟨#[]⟩, .string ⟨#[]⟩] by rw [← hW0]; exact (Blk.new2 w _ _ _).alloc _)
  have HZ0 := Lib.hid (show Blk W0 (w.heap.size + 1 + 1) 85 #[.string ⟨#[97, 64, 98, 46, 99, 100]⟩, .string ⟨#[43, 49, 50, 51, 52, 53, 54, 55, 56]⟩] by rw [← hW0]; exact blk_new_at (by simp))
  have HB0 := Lib.hid (show Below w.heap.size w W0 by rw [← hW0]; exact (((Below.refl _ w).alloc (Nat.le_refl _) _).alloc (by simp) _).alloc (by simp; omega) _)
  clear hW0
  refine (HDR.out W0).mono ?_
  rintro e w1 ⟨rfl, hb⟩
  have HX1 := Lib.hid (HX0.out.of (hb.block _ HX0.out.lt))
  have HY1 := Lib.hid (HY0.out.of (hb.block _ HY0.out.lt))
  have HZ1 := Lib.hid (HZ0.out.of (hb.block _ HZ0.out.lt))
  have HB1 := Lib.hid (HB0.out.trans (hb.mono HB0.out.size))
  clear hb HX0 HY0 HZ0 HB0
  go_wp2_with fail
  refine (HPL.out w1).mono ?_
  rintro e w2 ⟨rfl, hb⟩
  have HX2 := Lib.hid ((HX1.out.of (hb.block _ HX1.out.lt)).alloc (.cells #[.string PL, .bool pb] 94))
  have HY2 := Lib.hid ((HY1.out.of (hb.block _ HY1.out.lt)).alloc (.cells #[.string PL, .bool pb] 94))
  have HZ2 := Lib.hid ((HZ1.out.of (hb.block _ HZ1.out.lt)).alloc (.cells #[.string PL, .bool pb] 94))
  have HT2 := Lib.hid (Blk.new w2 94 #[.string PL, .bool pb])
  have HB2 := Lib.hid ((HB1.out.trans (hb.mono HB1.out.size)).alloc (by have h1 := HB1.out.size; have h2 := hb.size; omega) (.cells #[.string PL, .bool pb] 94))
  clear hb HX1 HY1 HZ1 HB1
  go_upto_region 4 with fail
  generalize World.alloc w2 (.cells #[.string PL, .bool pb] 94) = w3 at HX2 HY2 HZ2 HT2 HB2 ⊢
  have HB6 : Hid (w.heap.size ≤ w.heap.size + 1) := Lib.hid (Nat.le_succ _)
  generalize w2.heap.size = b3 at HT2 ⊢
  generalize w.heap.size + 1 + 1 = b2 at HZ2 ⊢
  generalize w.heap.size + 1 = b1 at HY2 HB6 ⊢
  obtain ⟨b0, hb0⟩ : ∃ b, w.heap.size = b := ⟨_, rfl⟩
  rw [hb0] at HX2
  simp only [hb0]
  have x0 : w3.cell? ⟨b0, 0, none⟩ = some (.int .i64 q0) := (HX2.out.cell 0).trans rfl
  have x2 : w3.cell? ⟨b0, 2, none⟩ = some (.int .i64 q2) := (HX2.out.cell 2).trans rfl
  have z0 : w3.cell? ⟨b2, 0, none⟩ = some (.string ⟨#[97, 64, 98, 46, 99, 100]⟩) := (HZ2.out.cell 0).trans rfl
  have z1 : w3.cell? ⟨b2, 1, none⟩ = some (.string ⟨#[43, 49, 50, 51, 52, 53, 54, 55, 56]⟩) := (HZ2.out.cell 1).trans rfl
  have t0 : w3.cell? ⟨b3, 0, none⟩ = some (.string PL) := (HT2.out.cell 0).trans rfl
  have f0 := HY2.out.frozen 0
  have g0 := (HY2.out.cell 0).trans rfl
  have f1 := HY2.out.frozen 1
  have g1 := (HY2.out.cell 1).trans rfl
  have f2 := HY2.out.frozen 2
  have g2 := (HY2.out.cell 2).trans rfl
  have f3 := HY2.out.frozen 3
  have g3 := (HY2.out.cell 3).trans rfl
  by_cases h2 : q2 % 2 = 0
  · rw [h2] at hone
    have hc : C = ⟨#[97, 64, 98, 46, 99, 100]⟩ := by rw [← HC.out]; exact if_pos h2
    subst hc
    go_region
    all_goals go_wp2_with fail
    all_goals (try simp only [Exit.inBlock, Exit.then])
    all_goals refine bodyPost_ret (results_cell_row (P := Tryz.prog) rfl _ _ b1 37 _ (0, 0) _ rfl (HY2.out.drew.four _ _ _ _) Tryz.underlying37 rfl att_size) rfl ?_
    all_goals exact ⟨rfl, below_four HB2.out.drew HB6.out _ _ _ _⟩
  · have h3 : q2 % 2 = 1 := by omega
    rw [h3] at hone
    have hc : C = ⟨#[43, 49, 50, 51, 52, 53, 54, 55, 56]⟩ := by rw [← HC.out]; exact if_neg h2
    subst hc
    go_region
    all_goals go_wp2_with fail
    all_goals (try simp only [Exit.inBlock, Exit.then])
    all_goals refine bodyPost_ret (results_cell_row (P := Tryz.prog) rfl _ _ b1 37 _ (0, 0) _ rfl (HY2.out.drew.four _ _ _ _) Tryz.underlying37 rfl att_size) rfl ?_
    all_goals exact ⟨rfl, below_four HB2.out.drew HB6.out _ _ _ _⟩
end Go.Proofs.YtfjdcopndkdbmaaGreatDoor
