/-
  The law's helper tells (layer 10): the program's answers and the document's, held against each other. Condition: the tables hold what their text says; texts of 50000 bytes at most.
-/
import Derived.Test.YtflgbnolfleicaaGreatDoorMinF
namespace Go.Proofs.YtflgbnolfleicaaGreatDoor
open Go.RowKit

/-- What each operation of the drawn statement leaves. -/
def Vt5 (gs : Nat) (gq : Nat) (gz : Nat) (gu : Nat) (D0 : ByteArray) (c : ByteArray) (PX : ByteArray) (DX : ByteArray) (cx : ByteArray) (PL : ByteArray) (Q : ByteArray) (DQ : ByteArray) (a : Int) (p : Int) (e0 : Int) (t0 : Int) (ax : Int) (px : Int) (ex : Int) (tx : Int) (lf : Int) (tr : Int) (ok : Bool) (PB : Bool) (gb : Bool) : Nat → Value → Prop
  | 0, v => v = .string PX
  | 1, v => v = .pointer (some ⟨gz, 0, none⟩)
  | 2, v => v = .string PX
  | 3, v => v = .bool true
  | 4, v => v = .bool true
  | 5, v => v = .agg #[.string DX, .int .i64 ax, .int .i64 px, .string cx, .int .i64 ex, .int .i64 tx]
  | 6, v => v = .pointer (some ⟨gz, 1, none⟩)
  | 7, v => v = .agg #[.string DX, .int .i64 ax, .int .i64 px, .string cx, .int .i64 ex, .int .i64 tx]
  | 8, v => v = .bool true
  | 9, v => v = .bool true
  | 10, v => v = .bool true
  | 11, v => v = .bool ok
  | 12, v => v = .pointer (some ⟨gz, 7, none⟩)
  | 13, v => v = .bool ok
  | 14, v => v = .bool true
  | 15, v => v = .bool true
  | 16, v => v = .bool true
  | 17, v => v = .string PL
  | 18, v => v = .pointer (some ⟨gu, 0, none⟩)
  | 19, v => v = .string PL
  | 20, v => v = .bool true
  | 21, v => v = .bool true
  | 22, v => v = .bool true
  | 23, v => v = .bool PB
  | 24, v => v = .pointer (some ⟨gu, 1, none⟩)
  | 25, v => v = .bool PB
  | 26, v => v = .bool true
  | 27, v => v = .bool true
  | 28, v => v = .bool true
  | 29, v => v = .pointer (some ⟨gs, 2, none⟩)
  | 30, v => v = .int .i64 p
  | 31, v => v = .int .i64 lf
  | 32, v => v = .pointer (some ⟨gs, 2, none⟩)
  | 33, v => v = .int .i64 p
  | 34, v => v = .int .i64 lf
  | 35, v => v = .bool true
  | 36, v => v = .bool true
  | 37, v => v = .bool true
  | 38, v => v = .pointer (some ⟨gs, 2, none⟩)
  | 39, v => v = .int .i64 p
  | 40, v => v = .int .i64 tr
  | 41, v => v = .pointer (some ⟨gs, 2, none⟩)
  | 42, v => v = .int .i64 p
  | 43, v => v = .int .i64 tr
  | 44, v => v = .bool true
  | 45, v => v = .bool true
  | 46, v => v = .bool true
  | 47, v => v = .pointer (some ⟨gs, 2, none⟩)
  | 48, v => v = .int .i64 p
  | 49, v => v = .pointer (some ⟨gq, 2, none⟩)
  | 50, v => v = .string Q
  | 51, v => v = .string DQ
  | 52, v => v = .pointer (some ⟨gs, 2, none⟩)
  | 53, v => v = .int .i64 p
  | 54, v => v = .pointer (some ⟨gq, 2, none⟩)
  | 55, v => v = .string Q
  | 56, v => v = .string DQ
  | 57, v => v = .bool true
  | 58, v => v = .bool true
  | 59, v => v = .bool true
  | 60, v => v = .agg #[.string D0, .int .i64 a, .int .i64 p, .string c, .int .i64 e0, .int .i64 t0]
  | 61, v => v = .bool gb
  | 62, v => v = .agg #[.string D0, .int .i64 a, .int .i64 p, .string c, .int .i64 e0, .int .i64 t0]
  | 63, v => v = .bool gb
  | 64, v => v = .bool true
  | 65, v => v = .bool true
  | 66, v => v = .bool true
  | _, _ => True
/-- Mint, the program's and the document's, tell the same. -/
theorem both_mint (D0 : ByteArray) (a p e0 t0 : Int) (c : ByteArray) (hc : c.size ≤ 50000) (d : List UInt8) (hd : d.length ≤ 100000) (n : Int) (hn : -9223372036854775808 ≤ n ∧ n ≤ 9223372036854775807) :
    ∃ (PX DX cx : ByteArray) (ax px ex tx : Int) (ok : Bool),
      (∀ W, Ready W → Calls Tryz.prog 12 #[.pointer none, .agg (secV D0 a p c e0 t0), .string (ba d), .int .i64 n] W fun e w' => e = .returned (.tuple #[.string PX, .agg #[.string DX, .int .i64 ax, .int .i64 px, .string cx, .int .i64 ex, .int .i64 tx], .bool ok]) ∧ Below W.heap.size W w') ∧
      (∀ W, Calls Tryz.prog 19 #[.agg (secV D0 a p c e0 t0), .string (ba d), .int .i64 n] W fun e w' => e = .returned (.agg #[.string PX, .string DX, .int .i64 ax, .int .i64 px, .string cx, .int .i64 ex, .int .i64 tx, .bool ok]) ∧ Below W.heap.size W w') := by
  cases hB : mintB a p c d n with
  | true =>
    refine ⟨_, _, _, _, _, _, _, _, fun W hR => (mint_made Mt.nil D0 a p e0 t0 c hc d hd n hB 0 (by decide) W trivial hR).mono fun _ _ h => ⟨h.1, below_of_kept h.2.2⟩, fun W => ?_⟩
    have h := rmint_any D0 a p e0 t0 c hc d hd n hn W
    unfold newV at h
    rw [if_pos hB] at h
    exact h
  | false =>
    refine ⟨_, _, _, _, _, _, _, _, fun W hR => mint_none D0 a p e0 t0 c hc d hd n hB W hR, fun W => ?_⟩
    have h := rmint_any D0 a p e0 t0 c hc d hd n hn W
    unfold newV at h
    rw [if_neg (by rw [hB]; decide)] at h
    exact h
set_option maxRecDepth 100000 in
set_option maxHeartbeats 8000000 in
theorem tells_any (D0 : ByteArray) (a p e0 t0 : Int) (c : ByteArray) (hc : c.size ≤ 50000) (d : List UInt8) (hd : d.length ≤ 100000) (n tk : Int) (hn : -9223372036854775808 ≤ n ∧ n ≤ 9223372036854775807) (q : List UInt8) (hq : q.length ≤ 50000) (w : World) (hR : Ready w) :
    Calls Tryz.prog 8 #[.agg #[.string D0, .int .i64 a, .int .i64 p, .string c, .int .i64 e0, .int .i64 t0], .string (ba d), .agg #[.int .i64 n, .int .i64 tk, .string (ba q)]] w fun e w' => e = .returned (.bool true) ∧ Below w.heap.size w w' := by
  obtain ⟨PX, DX, cx, ax, px, ex, tx, ok, hM, hM2⟩ := both_mint D0 a p e0 t0 c hc d hd n hn
  have HM := Lib.hid hM
  have HM2 := Lib.hid hM2
  have HP := Lib.hid (fun W h => plain_any p d hd W h)
  have HP2 := Lib.hid (fun W => rplain_any p d hd W)
  have HL := Lib.hid (fun W => life_any p W)
  have HL2 := Lib.hid (fun W => rlife_any p W)
  have HT := Lib.hid (fun W => tries_any p W)
  have HT2 := Lib.hid (fun W => rtries_any p W)
  have HD := Lib.hid (fun W (h : Tab W) => (digest_any Mt.nil p q hq 0 (by decide) W trivial h).mono fun e w' h => (⟨h.1, below_of_kept h.2.2⟩ : e = .returned (.string (ba (digL p q))) ∧ Below W.heap.size W w'))
  have HD2 := Lib.hid (fun W => rdigest_any p q hq W)
  have HG := Lib.hid (fun W h => right_any D0 a p c e0 t0 hc W h)
  have HG2 := Lib.hid (fun W => rright_any D0 a p c e0 t0 hc W)
  clear hM hM2
  generalize ba (plainL p d) = PL at HP HP2
  generalize plainB p d = PB at HP HP2
  generalize Mi.life p = lf at HL HL2
  generalize Mi.tries p = tr at HT HT2
  generalize ba (digL p q) = DQ at HD HD2
  generalize rightB D0 a p c e0 t0 = gb at HG HG2
  generalize ba q = Q at HD HD2 ⊢
  generalize ba d = X at HM HM2 HP HP2 ⊢
  unfold secV at HM HM2 HG HG2
  have k1 : (PX.toList == PX.toList) = true := by simp
  have k2 : (DX.toList == DX.toList) = true := by simp
  have k3 : (cx.toList == cx.toList) = true := by simp
  have k4 : (PL.toList == PL.toList) = true := by simp
  have k5 : (DQ.toList == DQ.toList) = true := by simp
  have k6 : (ok == ok) = true := by simp
  have k7 : (PB == PB) = true := by simp
  have k8 : (gb == gb) = true := by simp
  have HR := Lib.hid hR
  clear hR hc hd hq
  go_enter Tryz.func8, Tryz.ntmps8
  go_wp2_with fail
  generalize hW0 : World.alloc _ (.cells #[.int .i64 n, .int .i64 tk, .string Q] 25) = W0
  have HX0 := Lib.hid (show Blk W0 w.heap.size 23 #[.string D0, .int .i64 a, .int .i64 p, .string c, .int .i64 e0, .int .i64 t0] by rw [← hW0]; exact (Blk.new w _ _).alloc _)
  have HQ0 := Lib.hid (show Blk W0 (w.heap.size + 1) 25 #[.int .i64 n, .int .i64 tk, .string Q] by rw [← hW0]; exact Blk.new2 w _ _ _)
  have HB0 := Lib.hid (show Below w.heap.size w W0 by rw [← hW0]; exact ((Below.refl _ w).alloc (Nat.le_refl _) _).alloc (by simp) _)
  have HR0 := Lib.hid (HR.out.next HB0.out)
  clear hW0 HR
  refine (HM.out W0 HR0.out).mono ?_
  rintro e w1 ⟨rfl, hb⟩
  have HX1 := Lib.hid ((HX0.out.of (hb.block _ HX0.out.lt)).alloc (.cells #[.string DX, .int .i64 ax, .int .i64 px, .string cx, .int .i64 ex, .int .i64 tx] 23))
  have HQ1 := Lib.hid ((HQ0.out.of (hb.block _ HQ0.out.lt)).alloc (.cells #[.string DX, .int .i64 ax, .int .i64 px, .string cx, .int .i64 ex, .int .i64 tx] 23))
  have HY1 := Lib.hid (Blk.new w1 23 #[.string DX, .int .i64 ax, .int .i64 px, .string cx, .int .i64 ex, .int .i64 tx])
  have HB1 := Lib.hid ((HB0.out.trans (hb.mono HB0.out.size)).alloc (Nat.le_trans HB0.out.size hb.size) (.cells #[.string DX, .int .i64 ax, .int .i64 px, .string cx, .int .i64 ex, .int .i64 tx] 23))
  have HR1 := Lib.hid ((HR0.out.next hb).next ((Below.refl _ w1).alloc (Nat.le_refl _) (.cells #[.string DX, .int .i64 ax, .int .i64 px, .string cx, .int .i64 ex, .int .i64 tx] 23)))
  clear hb HB0 HR0 HX0 HQ0
  go_upto_region 2 with fail
  generalize hV : World.alloc w1 (.cells #[.string DX, .int .i64 ax, .int .i64 px, .string cx, .int .i64 ex, .int .i64 tx] 23) = v1 at *
  clear hV
  generalize w1.heap.size = gy at *
  have s0 : v1.cell? ⟨w.heap.size, 0, none⟩ = some (.string D0) := (HX1.out.cell 0).trans rfl
  have s1 : v1.cell? ⟨w.heap.size, 1, none⟩ = some (.int .i64 a) := (HX1.out.cell 1).trans rfl
  have s2 : v1.cell? ⟨w.heap.size, 2, none⟩ = some (.int .i64 p) := (HX1.out.cell 2).trans rfl
  have s3 : v1.cell? ⟨w.heap.size, 3, none⟩ = some (.string c) := (HX1.out.cell 3).trans rfl
  have s4 : v1.cell? ⟨w.heap.size, 4, none⟩ = some (.int .i64 e0) := (HX1.out.cell 4).trans rfl
  have s5 : v1.cell? ⟨w.heap.size, 5, none⟩ = some (.int .i64 t0) := (HX1.out.cell 5).trans rfl
  have q0 : v1.cell? ⟨w.heap.size + 1, 0, none⟩ = some (.int .i64 n) := (HQ1.out.cell 0).trans rfl
  have q1 : v1.cell? ⟨w.heap.size + 1, 1, none⟩ = some (.int .i64 tk) := (HQ1.out.cell 1).trans rfl
  have q2 : v1.cell? ⟨w.heap.size + 1, 2, none⟩ = some (.string Q) := (HQ1.out.cell 2).trans rfl
  have y0 : v1.cell? ⟨gy, 0, none⟩ = some (.string DX) := (HY1.out.cell 0).trans rfl
  have y1 : v1.cell? ⟨gy, 1, none⟩ = some (.int .i64 ax) := (HY1.out.cell 1).trans rfl
  have y2 : v1.cell? ⟨gy, 2, none⟩ = some (.int .i64 px) := (HY1.out.cell 2).trans rfl
  have y3 : v1.cell? ⟨gy, 3, none⟩ = some (.string cx) := (HY1.out.cell 3).trans rfl
  have y4 : v1.cell? ⟨gy, 4, none⟩ = some (.int .i64 ex) := (HY1.out.cell 4).trans rfl
  have y5 : v1.cell? ⟨gy, 5, none⟩ = some (.int .i64 tx) := (HY1.out.cell 5).trans rfl
  go_wp2_with fail
  refine (HM2.out v1).mono ?_
  rintro e w2 ⟨rfl, hb⟩
  clear s0 s1 s2 s3 s4 s5 q0 q1 q2 y0 y1 y2 y3 y4 y5
  have HX2 := Lib.hid ((HX1.out.of (hb.block _ HX1.out.lt)).alloc (.cells #[.string PX, .string DX, .int .i64 ax, .int .i64 px, .string cx, .int .i64 ex, .int .i64 tx, .bool ok] 53))
  have HQ2 := Lib.hid ((HQ1.out.of (hb.block _ HQ1.out.lt)).alloc (.cells #[.string PX, .string DX, .int .i64 ax, .int .i64 px, .string cx, .int .i64 ex, .int .i64 tx, .bool ok] 53))
  have HY2 := Lib.hid ((HY1.out.of (hb.block _ HY1.out.lt)).alloc (.cells #[.string PX, .string DX, .int .i64 ax, .int .i64 px, .string cx, .int .i64 ex, .int .i64 tx, .bool ok] 53))
  have HZ2 := Lib.hid (Blk.new w2 53 #[.string PX, .string DX, .int .i64 ax, .int .i64 px, .string cx, .int .i64 ex, .int .i64 tx, .bool ok])
  have HB2 := Lib.hid ((HB1.out.trans (hb.mono HB1.out.size)).alloc (Nat.le_trans HB1.out.size hb.size) (.cells #[.string PX, .string DX, .int .i64 ax, .int .i64 px, .string cx, .int .i64 ex, .int .i64 tx, .bool ok] 53))
  have HR2 := Lib.hid ((HR1.out.next hb).next ((Below.refl _ w2).alloc (Nat.le_refl _) (.cells #[.string PX, .string DX, .int .i64 ax, .int .i64 px, .string cx, .int .i64 ex, .int .i64 tx, .bool ok] 53)))
  clear hb HB1 HR1 HX1 HQ1 HY1
  go_upto_region 3 with fail
  generalize hV : World.alloc w2 (.cells #[.string PX, .string DX, .int .i64 ax, .int .i64 px, .string cx, .int .i64 ex, .int .i64 tx, .bool ok] 53) = v2 at *
  clear hV
  generalize w2.heap.size = gz at *
  have s0 : v2.cell? ⟨w.heap.size, 0, none⟩ = some (.string D0) := (HX2.out.cell 0).trans rfl
  have s1 : v2.cell? ⟨w.heap.size, 1, none⟩ = some (.int .i64 a) := (HX2.out.cell 1).trans rfl
  have s2 : v2.cell? ⟨w.heap.size, 2, none⟩ = some (.int .i64 p) := (HX2.out.cell 2).trans rfl
  have s3 : v2.cell? ⟨w.heap.size, 3, none⟩ = some (.string c) := (HX2.out.cell 3).trans rfl
  have s4 : v2.cell? ⟨w.heap.size, 4, none⟩ = some (.int .i64 e0) := (HX2.out.cell 4).trans rfl
  have s5 : v2.cell? ⟨w.heap.size, 5, none⟩ = some (.int .i64 t0) := (HX2.out.cell 5).trans rfl
  have q0 : v2.cell? ⟨w.heap.size + 1, 0, none⟩ = some (.int .i64 n) := (HQ2.out.cell 0).trans rfl
  have q1 : v2.cell? ⟨w.heap.size + 1, 1, none⟩ = some (.int .i64 tk) := (HQ2.out.cell 1).trans rfl
  have q2 : v2.cell? ⟨w.heap.size + 1, 2, none⟩ = some (.string Q) := (HQ2.out.cell 2).trans rfl
  have y0 : v2.cell? ⟨gy, 0, none⟩ = some (.string DX) := (HY2.out.cell 0).trans rfl
  have y1 : v2.cell? ⟨gy, 1, none⟩ = some (.int .i64 ax) := (HY2.out.cell 1).trans rfl
  have y2 : v2.cell? ⟨gy, 2, none⟩ = some (.int .i64 px) := (HY2.out.cell 2).trans rfl
  have y3 : v2.cell? ⟨gy, 3, none⟩ = some (.string cx) := (HY2.out.cell 3).trans rfl
  have y4 : v2.cell? ⟨gy, 4, none⟩ = some (.int .i64 ex) := (HY2.out.cell 4).trans rfl
  have y5 : v2.cell? ⟨gy, 5, none⟩ = some (.int .i64 tx) := (HY2.out.cell 5).trans rfl
  have z0 : v2.cell? ⟨gz, 0, none⟩ = some (.string PX) := (HZ2.out.cell 0).trans rfl
  have z1 : v2.cell? ⟨gz, 1, none⟩ = some (.string DX) := (HZ2.out.cell 1).trans rfl
  have z2 : v2.cell? ⟨gz, 2, none⟩ = some (.int .i64 ax) := (HZ2.out.cell 2).trans rfl
  have z3 : v2.cell? ⟨gz, 3, none⟩ = some (.int .i64 px) := (HZ2.out.cell 3).trans rfl
  have z4 : v2.cell? ⟨gz, 4, none⟩ = some (.string cx) := (HZ2.out.cell 4).trans rfl
  have z5 : v2.cell? ⟨gz, 5, none⟩ = some (.int .i64 ex) := (HZ2.out.cell 5).trans rfl
  have z6 : v2.cell? ⟨gz, 6, none⟩ = some (.int .i64 tx) := (HZ2.out.cell 6).trans rfl
  have z7 : v2.cell? ⟨gz, 7, none⟩ = some (.bool ok) := (HZ2.out.cell 7).trans rfl
  go_wp2_with fail
  refine (HP.out v2 HR2.out.pow).mono ?_
  rintro e w3 ⟨rfl, hb⟩
  have HX3 := Lib.hid (HX2.out.of (hb.block _ HX2.out.lt))
  have HQ3 := Lib.hid (HQ2.out.of (hb.block _ HQ2.out.lt))
  have HY3 := Lib.hid (HY2.out.of (hb.block _ HY2.out.lt))
  have HZ3 := Lib.hid (HZ2.out.of (hb.block _ HZ2.out.lt))
  have HB3 := Lib.hid (HB2.out.trans (hb.mono HB2.out.size))
  have HR3 := Lib.hid (HR2.out.next hb)
  clear hb HB2 HR2 HX2 HQ2 HY2 HZ2
  clear s0 s1 s2 s3 s4 s5 q0 q1 q2 y0 y1 y2 y3 y4 y5 z0 z1 z2 z3 z4 z5 z6 z7
  have s0 : w3.cell? ⟨w.heap.size, 0, none⟩ = some (.string D0) := (HX3.out.cell 0).trans rfl
  have s1 : w3.cell? ⟨w.heap.size, 1, none⟩ = some (.int .i64 a) := (HX3.out.cell 1).trans rfl
  have s2 : w3.cell? ⟨w.heap.size, 2, none⟩ = some (.int .i64 p) := (HX3.out.cell 2).trans rfl
  have s3 : w3.cell? ⟨w.heap.size, 3, none⟩ = some (.string c) := (HX3.out.cell 3).trans rfl
  have s4 : w3.cell? ⟨w.heap.size, 4, none⟩ = some (.int .i64 e0) := (HX3.out.cell 4).trans rfl
  have s5 : w3.cell? ⟨w.heap.size, 5, none⟩ = some (.int .i64 t0) := (HX3.out.cell 5).trans rfl
  have q0 : w3.cell? ⟨w.heap.size + 1, 0, none⟩ = some (.int .i64 n) := (HQ3.out.cell 0).trans rfl
  have q1 : w3.cell? ⟨w.heap.size + 1, 1, none⟩ = some (.int .i64 tk) := (HQ3.out.cell 1).trans rfl
  have q2 : w3.cell? ⟨w.heap.size + 1, 2, none⟩ = some (.string Q) := (HQ3.out.cell 2).trans rfl
  have y0 : w3.cell? ⟨gy, 0, none⟩ = some (.string DX) := (HY3.out.cell 0).trans rfl
  have y1 : w3.cell? ⟨gy, 1, none⟩ = some (.int .i64 ax) := (HY3.out.cell 1).trans rfl
  have y2 : w3.cell? ⟨gy, 2, none⟩ = some (.int .i64 px) := (HY3.out.cell 2).trans rfl
  have y3 : w3.cell? ⟨gy, 3, none⟩ = some (.string cx) := (HY3.out.cell 3).trans rfl
  have y4 : w3.cell? ⟨gy, 4, none⟩ = some (.int .i64 ex) := (HY3.out.cell 4).trans rfl
  have y5 : w3.cell? ⟨gy, 5, none⟩ = some (.int .i64 tx) := (HY3.out.cell 5).trans rfl
  have z0 : w3.cell? ⟨gz, 0, none⟩ = some (.string PX) := (HZ3.out.cell 0).trans rfl
  have z1 : w3.cell? ⟨gz, 1, none⟩ = some (.string DX) := (HZ3.out.cell 1).trans rfl
  have z2 : w3.cell? ⟨gz, 2, none⟩ = some (.int .i64 ax) := (HZ3.out.cell 2).trans rfl
  have z3 : w3.cell? ⟨gz, 3, none⟩ = some (.int .i64 px) := (HZ3.out.cell 3).trans rfl
  have z4 : w3.cell? ⟨gz, 4, none⟩ = some (.string cx) := (HZ3.out.cell 4).trans rfl
  have z5 : w3.cell? ⟨gz, 5, none⟩ = some (.int .i64 ex) := (HZ3.out.cell 5).trans rfl
  have z6 : w3.cell? ⟨gz, 6, none⟩ = some (.int .i64 tx) := (HZ3.out.cell 6).trans rfl
  have z7 : w3.cell? ⟨gz, 7, none⟩ = some (.bool ok) := (HZ3.out.cell 7).trans rfl
  go_wp2_with fail
  refine (HP2.out w3).mono ?_
  rintro e w4 ⟨rfl, hb⟩
  clear s0 s1 s2 s3 s4 s5 q0 q1 q2 y0 y1 y2 y3 y4 y5 z0 z1 z2 z3 z4 z5 z6 z7
  have HX4 := Lib.hid ((HX3.out.of (hb.block _ HX3.out.lt)).alloc (.cells #[.string PL, .bool PB] 56))
  have HQ4 := Lib.hid ((HQ3.out.of (hb.block _ HQ3.out.lt)).alloc (.cells #[.string PL, .bool PB] 56))
  have HY4 := Lib.hid ((HY3.out.of (hb.block _ HY3.out.lt)).alloc (.cells #[.string PL, .bool PB] 56))
  have HZ4 := Lib.hid ((HZ3.out.of (hb.block _ HZ3.out.lt)).alloc (.cells #[.string PL, .bool PB] 56))
  have HU4 := Lib.hid (Blk.new w4 56 #[.string PL, .bool PB])
  have HB4 := Lib.hid ((HB3.out.trans (hb.mono HB3.out.size)).alloc (Nat.le_trans HB3.out.size hb.size) (.cells #[.string PL, .bool PB] 56))
  have HR4 := Lib.hid ((HR3.out.next hb).next ((Below.refl _ w4).alloc (Nat.le_refl _) (.cells #[.string PL, .bool PB] 56)))
  clear hb HB3 HR3 HX3 HQ3 HY3 HZ3
  go_wp2_with fail
  generalize hV : World.alloc w4 (.cells #[.string PL, .bool PB] 56) = v4 at *
  clear hV
  generalize w4.heap.size = gu at *
  generalize hgq : w.heap.size + 1 = gq at *
  generalize hgs : w.heap.size = gs at *
  refine wp_region_some (by kernel_rfl) (fun i v _ => Vt5 gs gq gz gu D0 c PX DX cx PL Q DQ a p e0 t0 ax px ex tx lf tr ok PB gb i v) (fun _ _ W => Gc v4 W) (fun w w' => Below w.heap.size w w') (by kernel_rfl) (by kernel_rfl) 105 rfl (by kernel_rfl) (fun _ _ _ _ h _ => by exact h) (fun _ => (Below.refl _ _)) (Gc.start v4) ?_ ?_
  · intro i o ho listed x W hs hdep hun hg hk
    match i, ho with
    | 0, ho =>
      cases ho
      have q7 : x.tmps[7]?.getD undef = .string PX := hk.fix 7 (by kernel_rfl)
      refine .inl ⟨wanted_plain rfl, ?_⟩
      refine wp_value (v := .string PX) (w' := W) ?_ ⟨_, rfl, rfl, (Below.refl _ _), hg⟩
      go_simp
    | 1, ho =>
      cases ho
      have q10 : x.tmps[10]?.getD undef = .pointer (some ⟨gz, 0, none⟩) := hk.fix 10 (by kernel_rfl)
      refine .inl ⟨wanted_plain rfl, ?_⟩
      refine wp_value (v := .pointer (some ⟨gz, 0, none⟩)) (w' := W) ?_ ⟨_, rfl, rfl, (Below.refl _ _), hg⟩
      go_simp
    | 2, ho =>
      cases ho
      have q40 : x.tmps[40]?.getD undef = .pointer (some ⟨gz, 0, none⟩) := hk.dep 1 40 (by kernel_rfl) (by kernel_rfl)
      refine .inl ⟨wanted_plain rfl, ?_⟩
      have cf : W.cell? ⟨gz, 0, none⟩ = some (.string PX) := ((HZ4.out.of (hg.below.block _ HZ4.out.lt)).cell 0).trans rfl
      refine wp_value (v := .string PX) (w' := W) ?_ ⟨_, rfl, rfl, (Below.refl _ _), hg⟩
      go_simp
    | 3, ho =>
      cases ho
      have q39 : x.tmps[39]?.getD undef = .string PX := hk.dep 0 39 (by kernel_rfl) (by kernel_rfl)
      have q41 : x.tmps[41]?.getD undef = .string PX := hk.dep 2 41 (by kernel_rfl) (by kernel_rfl)
      refine .inl ⟨wanted_plain rfl, ?_⟩
      refine wp_value (v := .bool true) (w' := W) ?_ ⟨_, rfl, rfl, (Below.refl _ _), hg⟩
      go_simp
    | 4, ho =>
      cases ho
      have q42 : x.tmps[42]?.getD undef = .bool true := hk.dep 3 42 (by kernel_rfl) (by kernel_rfl)
      refine .inl ⟨wanted_plain rfl, ?_⟩
      refine wp_value (v := .bool true) (w' := W) ?_ ⟨_, rfl, rfl, (Below.refl _ _), hg⟩
      go_simp
    | 5, ho =>
      cases ho
      have q8 : x.tmps[8]?.getD undef = .pointer (some ⟨gy, 0, none⟩) := hk.fix 8 (by kernel_rfl)
      refine .inl ⟨wanted_guard (g := 4) (d := 43) (by rfl) (by kernel_rfl) (show x.tmps[43]?.getD undef = .bool true from hk.dep 4 43 (by kernel_rfl) (by kernel_rfl)), ?_⟩
      refine wp_value (run_load_op _ _ rfl _ ((eval_slot x 8).trans q8) _ _ ((HY4.out.of (hg.below.block _ HY4.out.lt))) _ Tryz.underlying23 rfl sec_size) ⟨_, rfl, rfl, (Below.refl _ _), hg⟩
    | 6, ho =>
      cases ho
      have q10 : x.tmps[10]?.getD undef = .pointer (some ⟨gz, 0, none⟩) := hk.fix 10 (by kernel_rfl)
      refine .inl ⟨wanted_guard (g := 4) (d := 43) (by rfl) (by kernel_rfl) (show x.tmps[43]?.getD undef = .bool true from hk.dep 4 43 (by kernel_rfl) (by kernel_rfl)), ?_⟩
      refine wp_value (v := .pointer (some ⟨gz, 1, none⟩)) (w' := W) ?_ ⟨_, rfl, rfl, (Below.refl _ _), hg⟩
      go_simp
    | 7, ho =>
      cases ho
      have q45 : x.tmps[45]?.getD undef = .pointer (some ⟨gz, 1, none⟩) := hk.dep 6 45 (by kernel_rfl) (by kernel_rfl)
      refine .inl ⟨wanted_guard (g := 4) (d := 43) (by rfl) (by kernel_rfl) (show x.tmps[43]?.getD undef = .bool true from hk.dep 4 43 (by kernel_rfl) (by kernel_rfl)), ?_⟩
      have cf1 : W.cell? ⟨gz, 1, none⟩ = some (.string DX) := (((HZ4.out.of (hg.below.block _ HZ4.out.lt))).cell 1).trans rfl
      have cf2 : W.cell? ⟨gz, 2, none⟩ = some (.int .i64 ax) := (((HZ4.out.of (hg.below.block _ HZ4.out.lt))).cell 2).trans rfl
      have cf3 : W.cell? ⟨gz, 3, none⟩ = some (.int .i64 px) := (((HZ4.out.of (hg.below.block _ HZ4.out.lt))).cell 3).trans rfl
      have cf4 : W.cell? ⟨gz, 4, none⟩ = some (.string cx) := (((HZ4.out.of (hg.below.block _ HZ4.out.lt))).cell 4).trans rfl
      have cf5 : W.cell? ⟨gz, 5, none⟩ = some (.int .i64 ex) := (((HZ4.out.of (hg.below.block _ HZ4.out.lt))).cell 5).trans rfl
      have cf6 : W.cell? ⟨gz, 6, none⟩ = some (.int .i64 tx) := (((HZ4.out.of (hg.below.block _ HZ4.out.lt))).cell 6).trans rfl
      refine wp_value (v := .agg #[.string DX, .int .i64 ax, .int .i64 px, .string cx, .int .i64 ex, .int .i64 tx]) (w' := W) ?_ ⟨_, rfl, rfl, (Below.refl _ _), hg⟩
      go_simp
    | 8, ho =>
      cases ho
      have q44 : x.tmps[44]?.getD undef = .agg #[.string DX, .int .i64 ax, .int .i64 px, .string cx, .int .i64 ex, .int .i64 tx] := hk.dep 5 44 (by kernel_rfl) (by kernel_rfl)
      have q46 : x.tmps[46]?.getD undef = .agg #[.string DX, .int .i64 ax, .int .i64 px, .string cx, .int .i64 ex, .int .i64 tx] := hk.dep 7 46 (by kernel_rfl) (by kernel_rfl)
      refine .inl ⟨wanted_guard (g := 4) (d := 43) (by rfl) (by kernel_rfl) (show x.tmps[43]?.getD undef = .bool true from hk.dep 4 43 (by kernel_rfl) (by kernel_rfl)), ?_⟩
      refine wp_value (v := .bool true) (w' := W) ?_ ⟨_, rfl, rfl, (Below.refl _ _), hg⟩
      go_simp
    | 9, ho =>
      cases ho
      have q43 : x.tmps[43]?.getD undef = .bool true := hk.dep 4 43 (by kernel_rfl) (by kernel_rfl)
      have q47 : x.tmps[47]?.getD undef = .bool true := hk.dep 8 47 (by kernel_rfl) (by kernel_rfl)
      refine .inl ⟨wanted_plain rfl, ?_⟩
      refine wp_value (v := .bool true) (w' := W) ?_ ⟨_, rfl, rfl, (Below.refl _ _), hg⟩
      go_simp
    | 10, ho =>
      cases ho
      have q48 : x.tmps[48]?.getD undef = .bool true := hk.dep 9 48 (by kernel_rfl) (by kernel_rfl)
      refine .inl ⟨wanted_plain rfl, ?_⟩
      refine wp_value (v := .bool true) (w' := W) ?_ ⟨_, rfl, rfl, (Below.refl _ _), hg⟩
      go_simp
    | 11, ho =>
      cases ho
      have q9 : x.tmps[9]?.getD undef = .bool ok := hk.fix 9 (by kernel_rfl)
      refine .inl ⟨wanted_guard (g := 10) (d := 49) (by rfl) (by kernel_rfl) (show x.tmps[49]?.getD undef = .bool true from hk.dep 10 49 (by kernel_rfl) (by kernel_rfl)), ?_⟩
      refine wp_value (v := .bool ok) (w' := W) ?_ ⟨_, rfl, rfl, (Below.refl _ _), hg⟩
      go_simp
    | 12, ho =>
      cases ho
      have q10 : x.tmps[10]?.getD undef = .pointer (some ⟨gz, 0, none⟩) := hk.fix 10 (by kernel_rfl)
      refine .inl ⟨wanted_guard (g := 10) (d := 49) (by rfl) (by kernel_rfl) (show x.tmps[49]?.getD undef = .bool true from hk.dep 10 49 (by kernel_rfl) (by kernel_rfl)), ?_⟩
      refine wp_value (v := .pointer (some ⟨gz, 7, none⟩)) (w' := W) ?_ ⟨_, rfl, rfl, (Below.refl _ _), hg⟩
      go_simp
    | 13, ho =>
      cases ho
      have q51 : x.tmps[51]?.getD undef = .pointer (some ⟨gz, 7, none⟩) := hk.dep 12 51 (by kernel_rfl) (by kernel_rfl)
      refine .inl ⟨wanted_guard (g := 10) (d := 49) (by rfl) (by kernel_rfl) (show x.tmps[49]?.getD undef = .bool true from hk.dep 10 49 (by kernel_rfl) (by kernel_rfl)), ?_⟩
      have cf : W.cell? ⟨gz, 7, none⟩ = some (.bool ok) := ((HZ4.out.of (hg.below.block _ HZ4.out.lt)).cell 7).trans rfl
      refine wp_value (v := .bool ok) (w' := W) ?_ ⟨_, rfl, rfl, (Below.refl _ _), hg⟩
      go_simp
    | 14, ho =>
      cases ho
      have q50 : x.tmps[50]?.getD undef = .bool ok := hk.dep 11 50 (by kernel_rfl) (by kernel_rfl)
      have q52 : x.tmps[52]?.getD undef = .bool ok := hk.dep 13 52 (by kernel_rfl) (by kernel_rfl)
      refine .inl ⟨wanted_guard (g := 10) (d := 49) (by rfl) (by kernel_rfl) (show x.tmps[49]?.getD undef = .bool true from hk.dep 10 49 (by kernel_rfl) (by kernel_rfl)), ?_⟩
      refine wp_value (v := .bool true) (w' := W) ?_ ⟨_, rfl, rfl, (Below.refl _ _), hg⟩
      go_simp
    | 15, ho =>
      cases ho
      have q49 : x.tmps[49]?.getD undef = .bool true := hk.dep 10 49 (by kernel_rfl) (by kernel_rfl)
      have q53 : x.tmps[53]?.getD undef = .bool true := hk.dep 14 53 (by kernel_rfl) (by kernel_rfl)
      refine .inl ⟨wanted_plain rfl, ?_⟩
      refine wp_value (v := .bool true) (w' := W) ?_ ⟨_, rfl, rfl, (Below.refl _ _), hg⟩
      go_simp
    | 16, ho =>
      cases ho
      have q54 : x.tmps[54]?.getD undef = .bool true := hk.dep 15 54 (by kernel_rfl) (by kernel_rfl)
      refine .inl ⟨wanted_plain rfl, ?_⟩
      refine wp_value (v := .bool true) (w' := W) ?_ ⟨_, rfl, rfl, (Below.refl _ _), hg⟩
      go_simp
    | 17, ho =>
      cases ho
      have q11 : x.tmps[11]?.getD undef = .string PL := hk.fix 11 (by kernel_rfl)
      refine .inl ⟨wanted_guard (g := 16) (d := 55) (by rfl) (by kernel_rfl) (show x.tmps[55]?.getD undef = .bool true from hk.dep 16 55 (by kernel_rfl) (by kernel_rfl)), ?_⟩
      refine wp_value (v := .string PL) (w' := W) ?_ ⟨_, rfl, rfl, (Below.refl _ _), hg⟩
      go_simp
    | 18, ho =>
      cases ho
      have q13 : x.tmps[13]?.getD undef = .pointer (some ⟨gu, 0, none⟩) := hk.fix 13 (by kernel_rfl)
      refine .inl ⟨wanted_guard (g := 16) (d := 55) (by rfl) (by kernel_rfl) (show x.tmps[55]?.getD undef = .bool true from hk.dep 16 55 (by kernel_rfl) (by kernel_rfl)), ?_⟩
      refine wp_value (v := .pointer (some ⟨gu, 0, none⟩)) (w' := W) ?_ ⟨_, rfl, rfl, (Below.refl _ _), hg⟩
      go_simp
    | 19, ho =>
      cases ho
      have q57 : x.tmps[57]?.getD undef = .pointer (some ⟨gu, 0, none⟩) := hk.dep 18 57 (by kernel_rfl) (by kernel_rfl)
      refine .inl ⟨wanted_guard (g := 16) (d := 55) (by rfl) (by kernel_rfl) (show x.tmps[55]?.getD undef = .bool true from hk.dep 16 55 (by kernel_rfl) (by kernel_rfl)), ?_⟩
      have cf : W.cell? ⟨gu, 0, none⟩ = some (.string PL) := ((HU4.out.of (hg.below.block _ HU4.out.lt)).cell 0).trans rfl
      refine wp_value (v := .string PL) (w' := W) ?_ ⟨_, rfl, rfl, (Below.refl _ _), hg⟩
      go_simp
    | 20, ho =>
      cases ho
      have q56 : x.tmps[56]?.getD undef = .string PL := hk.dep 17 56 (by kernel_rfl) (by kernel_rfl)
      have q58 : x.tmps[58]?.getD undef = .string PL := hk.dep 19 58 (by kernel_rfl) (by kernel_rfl)
      refine .inl ⟨wanted_guard (g := 16) (d := 55) (by rfl) (by kernel_rfl) (show x.tmps[55]?.getD undef = .bool true from hk.dep 16 55 (by kernel_rfl) (by kernel_rfl)), ?_⟩
      refine wp_value (v := .bool true) (w' := W) ?_ ⟨_, rfl, rfl, (Below.refl _ _), hg⟩
      go_simp
    | 21, ho =>
      cases ho
      have q55 : x.tmps[55]?.getD undef = .bool true := hk.dep 16 55 (by kernel_rfl) (by kernel_rfl)
      have q59 : x.tmps[59]?.getD undef = .bool true := hk.dep 20 59 (by kernel_rfl) (by kernel_rfl)
      refine .inl ⟨wanted_plain rfl, ?_⟩
      refine wp_value (v := .bool true) (w' := W) ?_ ⟨_, rfl, rfl, (Below.refl _ _), hg⟩
      go_simp
    | 22, ho =>
      cases ho
      have q60 : x.tmps[60]?.getD undef = .bool true := hk.dep 21 60 (by kernel_rfl) (by kernel_rfl)
      refine .inl ⟨wanted_plain rfl, ?_⟩
      refine wp_value (v := .bool true) (w' := W) ?_ ⟨_, rfl, rfl, (Below.refl _ _), hg⟩
      go_simp
    | 23, ho =>
      cases ho
      have q12 : x.tmps[12]?.getD undef = .bool PB := hk.fix 12 (by kernel_rfl)
      refine .inl ⟨wanted_guard (g := 22) (d := 61) (by rfl) (by kernel_rfl) (show x.tmps[61]?.getD undef = .bool true from hk.dep 22 61 (by kernel_rfl) (by kernel_rfl)), ?_⟩
      refine wp_value (v := .bool PB) (w' := W) ?_ ⟨_, rfl, rfl, (Below.refl _ _), hg⟩
      go_simp
    | 24, ho =>
      cases ho
      have q13 : x.tmps[13]?.getD undef = .pointer (some ⟨gu, 0, none⟩) := hk.fix 13 (by kernel_rfl)
      refine .inl ⟨wanted_guard (g := 22) (d := 61) (by rfl) (by kernel_rfl) (show x.tmps[61]?.getD undef = .bool true from hk.dep 22 61 (by kernel_rfl) (by kernel_rfl)), ?_⟩
      refine wp_value (v := .pointer (some ⟨gu, 1, none⟩)) (w' := W) ?_ ⟨_, rfl, rfl, (Below.refl _ _), hg⟩
      go_simp
    | 25, ho =>
      cases ho
      have q63 : x.tmps[63]?.getD undef = .pointer (some ⟨gu, 1, none⟩) := hk.dep 24 63 (by kernel_rfl) (by kernel_rfl)
      refine .inl ⟨wanted_guard (g := 22) (d := 61) (by rfl) (by kernel_rfl) (show x.tmps[61]?.getD undef = .bool true from hk.dep 22 61 (by kernel_rfl) (by kernel_rfl)), ?_⟩
      have cf : W.cell? ⟨gu, 1, none⟩ = some (.bool PB) := ((HU4.out.of (hg.below.block _ HU4.out.lt)).cell 1).trans rfl
      refine wp_value (v := .bool PB) (w' := W) ?_ ⟨_, rfl, rfl, (Below.refl _ _), hg⟩
      go_simp
    | 26, ho =>
      cases ho
      have q62 : x.tmps[62]?.getD undef = .bool PB := hk.dep 23 62 (by kernel_rfl) (by kernel_rfl)
      have q64 : x.tmps[64]?.getD undef = .bool PB := hk.dep 25 64 (by kernel_rfl) (by kernel_rfl)
      refine .inl ⟨wanted_guard (g := 22) (d := 61) (by rfl) (by kernel_rfl) (show x.tmps[61]?.getD undef = .bool true from hk.dep 22 61 (by kernel_rfl) (by kernel_rfl)), ?_⟩
      refine wp_value (v := .bool true) (w' := W) ?_ ⟨_, rfl, rfl, (Below.refl _ _), hg⟩
      go_simp
    | 27, ho =>
      cases ho
      have q61 : x.tmps[61]?.getD undef = .bool true := hk.dep 22 61 (by kernel_rfl) (by kernel_rfl)
      have q65 : x.tmps[65]?.getD undef = .bool true := hk.dep 26 65 (by kernel_rfl) (by kernel_rfl)
      refine .inl ⟨wanted_plain rfl, ?_⟩
      refine wp_value (v := .bool true) (w' := W) ?_ ⟨_, rfl, rfl, (Below.refl _ _), hg⟩
      go_simp
    | 28, ho =>
      cases ho
      have q66 : x.tmps[66]?.getD undef = .bool true := hk.dep 27 66 (by kernel_rfl) (by kernel_rfl)
      refine .inl ⟨wanted_plain rfl, ?_⟩
      refine wp_value (v := .bool true) (w' := W) ?_ ⟨_, rfl, rfl, (Below.refl _ _), hg⟩
      go_simp
    | 29, ho =>
      cases ho
      have q3 : x.tmps[3]?.getD undef = .pointer (some ⟨gs, 0, none⟩) := hk.fix 3 (by kernel_rfl)
      refine .inl ⟨wanted_guard (g := 28) (d := 67) (by rfl) (by kernel_rfl) (show x.tmps[67]?.getD undef = .bool true from hk.dep 28 67 (by kernel_rfl) (by kernel_rfl)), ?_⟩
      refine wp_value (v := .pointer (some ⟨gs, 2, none⟩)) (w' := W) ?_ ⟨_, rfl, rfl, (Below.refl _ _), hg⟩
      go_simp
    | 30, ho =>
      cases ho
      have q68 : x.tmps[68]?.getD undef = .pointer (some ⟨gs, 2, none⟩) := hk.dep 29 68 (by kernel_rfl) (by kernel_rfl)
      refine .inl ⟨wanted_guard (g := 28) (d := 67) (by rfl) (by kernel_rfl) (show x.tmps[67]?.getD undef = .bool true from hk.dep 28 67 (by kernel_rfl) (by kernel_rfl)), ?_⟩
      have cf : W.cell? ⟨gs, 2, none⟩ = some (.int .i64 p) := ((HX4.out.of (hg.below.block _ HX4.out.lt)).cell 2).trans rfl
      refine wp_value (v := .int .i64 p) (w' := W) ?_ ⟨_, rfl, rfl, (Below.refl _ _), hg⟩
      go_simp
    | 31, ho =>
      cases ho
      have q69 : x.tmps[69]?.getD undef = .int .i64 p := hk.dep 30 69 (by kernel_rfl) (by kernel_rfl)
      refine .inl ⟨wanted_guard (g := 28) (d := 67) (by rfl) (by kernel_rfl) (show x.tmps[67]?.getD undef = .bool true from hk.dep 28 67 (by kernel_rfl) (by kernel_rfl)), ?_⟩
      refine wp_enter (f := 15) (args := #[.int .i64 p]) (w' := W) (S := fun v w1 => v = .int .i64 lf ∧ Below W.heap.size W w1) ?_ ((HL.out W).mono fun e w' h => ⟨_, h.1, rfl, h.2⟩) ?_
      · go_simp
      · rintro v W' ⟨rfl, hb⟩
        exact ⟨_, rfl, rfl, hb, hg.calls hb⟩
    | 32, ho =>
      cases ho
      have q3 : x.tmps[3]?.getD undef = .pointer (some ⟨gs, 0, none⟩) := hk.fix 3 (by kernel_rfl)
      refine .inl ⟨wanted_guard (g := 28) (d := 67) (by rfl) (by kernel_rfl) (show x.tmps[67]?.getD undef = .bool true from hk.dep 28 67 (by kernel_rfl) (by kernel_rfl)), ?_⟩
      refine wp_value (v := .pointer (some ⟨gs, 2, none⟩)) (w' := W) ?_ ⟨_, rfl, rfl, (Below.refl _ _), hg⟩
      go_simp
    | 33, ho =>
      cases ho
      have q71 : x.tmps[71]?.getD undef = .pointer (some ⟨gs, 2, none⟩) := hk.dep 32 71 (by kernel_rfl) (by kernel_rfl)
      refine .inl ⟨wanted_guard (g := 28) (d := 67) (by rfl) (by kernel_rfl) (show x.tmps[67]?.getD undef = .bool true from hk.dep 28 67 (by kernel_rfl) (by kernel_rfl)), ?_⟩
      have cf : W.cell? ⟨gs, 2, none⟩ = some (.int .i64 p) := ((HX4.out.of (hg.below.block _ HX4.out.lt)).cell 2).trans rfl
      refine wp_value (v := .int .i64 p) (w' := W) ?_ ⟨_, rfl, rfl, (Below.refl _ _), hg⟩
      go_simp
    | 34, ho =>
      cases ho
      have q72 : x.tmps[72]?.getD undef = .int .i64 p := hk.dep 33 72 (by kernel_rfl) (by kernel_rfl)
      refine .inl ⟨wanted_guard (g := 28) (d := 67) (by rfl) (by kernel_rfl) (show x.tmps[67]?.getD undef = .bool true from hk.dep 28 67 (by kernel_rfl) (by kernel_rfl)), ?_⟩
      refine wp_enter (f := 21) (args := #[.int .i64 p]) (w' := W) (S := fun v w1 => v = .int .i64 lf ∧ Below W.heap.size W w1) ?_ ((HL2.out W).mono fun e w' h => ⟨_, h.1, rfl, by rw [← h.2]; exact Below.refl _ _⟩) ?_
      · go_simp
      · rintro v W' ⟨rfl, hb⟩
        exact ⟨_, rfl, rfl, hb, hg.calls hb⟩
    | 35, ho =>
      cases ho
      have q70 : x.tmps[70]?.getD undef = .int .i64 lf := hk.dep 31 70 (by kernel_rfl) (by kernel_rfl)
      have q73 : x.tmps[73]?.getD undef = .int .i64 lf := hk.dep 34 73 (by kernel_rfl) (by kernel_rfl)
      refine .inl ⟨wanted_guard (g := 28) (d := 67) (by rfl) (by kernel_rfl) (show x.tmps[67]?.getD undef = .bool true from hk.dep 28 67 (by kernel_rfl) (by kernel_rfl)), ?_⟩
      refine wp_value (v := .bool true) (w' := W) ?_ ⟨_, rfl, rfl, (Below.refl _ _), hg⟩
      go_simp
    | 36, ho =>
      cases ho
      have q67 : x.tmps[67]?.getD undef = .bool true := hk.dep 28 67 (by kernel_rfl) (by kernel_rfl)
      have q74 : x.tmps[74]?.getD undef = .bool true := hk.dep 35 74 (by kernel_rfl) (by kernel_rfl)
      refine .inl ⟨wanted_plain rfl, ?_⟩
      refine wp_value (v := .bool true) (w' := W) ?_ ⟨_, rfl, rfl, (Below.refl _ _), hg⟩
      go_simp
    | 37, ho =>
      cases ho
      have q75 : x.tmps[75]?.getD undef = .bool true := hk.dep 36 75 (by kernel_rfl) (by kernel_rfl)
      refine .inl ⟨wanted_plain rfl, ?_⟩
      refine wp_value (v := .bool true) (w' := W) ?_ ⟨_, rfl, rfl, (Below.refl _ _), hg⟩
      go_simp
    | 38, ho =>
      cases ho
      have q3 : x.tmps[3]?.getD undef = .pointer (some ⟨gs, 0, none⟩) := hk.fix 3 (by kernel_rfl)
      refine .inl ⟨wanted_guard (g := 37) (d := 76) (by rfl) (by kernel_rfl) (show x.tmps[76]?.getD undef = .bool true from hk.dep 37 76 (by kernel_rfl) (by kernel_rfl)), ?_⟩
      refine wp_value (v := .pointer (some ⟨gs, 2, none⟩)) (w' := W) ?_ ⟨_, rfl, rfl, (Below.refl _ _), hg⟩
      go_simp
    | 39, ho =>
      cases ho
      have q77 : x.tmps[77]?.getD undef = .pointer (some ⟨gs, 2, none⟩) := hk.dep 38 77 (by kernel_rfl) (by kernel_rfl)
      refine .inl ⟨wanted_guard (g := 37) (d := 76) (by rfl) (by kernel_rfl) (show x.tmps[76]?.getD undef = .bool true from hk.dep 37 76 (by kernel_rfl) (by kernel_rfl)), ?_⟩
      have cf : W.cell? ⟨gs, 2, none⟩ = some (.int .i64 p) := ((HX4.out.of (hg.below.block _ HX4.out.lt)).cell 2).trans rfl
      refine wp_value (v := .int .i64 p) (w' := W) ?_ ⟨_, rfl, rfl, (Below.refl _ _), hg⟩
      go_simp
    | 40, ho =>
      cases ho
      have q78 : x.tmps[78]?.getD undef = .int .i64 p := hk.dep 39 78 (by kernel_rfl) (by kernel_rfl)
      refine .inl ⟨wanted_guard (g := 37) (d := 76) (by rfl) (by kernel_rfl) (show x.tmps[76]?.getD undef = .bool true from hk.dep 37 76 (by kernel_rfl) (by kernel_rfl)), ?_⟩
      refine wp_enter (f := 22) (args := #[.int .i64 p]) (w' := W) (S := fun v w1 => v = .int .i64 tr ∧ Below W.heap.size W w1) ?_ ((HT.out W).mono fun e w' h => ⟨_, h.1, rfl, h.2⟩) ?_
      · go_simp
      · rintro v W' ⟨rfl, hb⟩
        exact ⟨_, rfl, rfl, hb, hg.calls hb⟩
    | 41, ho =>
      cases ho
      have q3 : x.tmps[3]?.getD undef = .pointer (some ⟨gs, 0, none⟩) := hk.fix 3 (by kernel_rfl)
      refine .inl ⟨wanted_guard (g := 37) (d := 76) (by rfl) (by kernel_rfl) (show x.tmps[76]?.getD undef = .bool true from hk.dep 37 76 (by kernel_rfl) (by kernel_rfl)), ?_⟩
      refine wp_value (v := .pointer (some ⟨gs, 2, none⟩)) (w' := W) ?_ ⟨_, rfl, rfl, (Below.refl _ _), hg⟩
      go_simp
    | 42, ho =>
      cases ho
      have q80 : x.tmps[80]?.getD undef = .pointer (some ⟨gs, 2, none⟩) := hk.dep 41 80 (by kernel_rfl) (by kernel_rfl)
      refine .inl ⟨wanted_guard (g := 37) (d := 76) (by rfl) (by kernel_rfl) (show x.tmps[76]?.getD undef = .bool true from hk.dep 37 76 (by kernel_rfl) (by kernel_rfl)), ?_⟩
      have cf : W.cell? ⟨gs, 2, none⟩ = some (.int .i64 p) := ((HX4.out.of (hg.below.block _ HX4.out.lt)).cell 2).trans rfl
      refine wp_value (v := .int .i64 p) (w' := W) ?_ ⟨_, rfl, rfl, (Below.refl _ _), hg⟩
      go_simp
    | 43, ho =>
      cases ho
      have q81 : x.tmps[81]?.getD undef = .int .i64 p := hk.dep 42 81 (by kernel_rfl) (by kernel_rfl)
      refine .inl ⟨wanted_guard (g := 37) (d := 76) (by rfl) (by kernel_rfl) (show x.tmps[76]?.getD undef = .bool true from hk.dep 37 76 (by kernel_rfl) (by kernel_rfl)), ?_⟩
      refine wp_enter (f := 23) (args := #[.int .i64 p]) (w' := W) (S := fun v w1 => v = .int .i64 tr ∧ Below W.heap.size W w1) ?_ ((HT2.out W).mono fun e w' h => ⟨_, h.1, rfl, by rw [← h.2]; exact Below.refl _ _⟩) ?_
      · go_simp
      · rintro v W' ⟨rfl, hb⟩
        exact ⟨_, rfl, rfl, hb, hg.calls hb⟩
    | 44, ho =>
      cases ho
      have q79 : x.tmps[79]?.getD undef = .int .i64 tr := hk.dep 40 79 (by kernel_rfl) (by kernel_rfl)
      have q82 : x.tmps[82]?.getD undef = .int .i64 tr := hk.dep 43 82 (by kernel_rfl) (by kernel_rfl)
      refine .inl ⟨wanted_guard (g := 37) (d := 76) (by rfl) (by kernel_rfl) (show x.tmps[76]?.getD undef = .bool true from hk.dep 37 76 (by kernel_rfl) (by kernel_rfl)), ?_⟩
      refine wp_value (v := .bool true) (w' := W) ?_ ⟨_, rfl, rfl, (Below.refl _ _), hg⟩
      go_simp
    | 45, ho =>
      cases ho
      have q76 : x.tmps[76]?.getD undef = .bool true := hk.dep 37 76 (by kernel_rfl) (by kernel_rfl)
      have q83 : x.tmps[83]?.getD undef = .bool true := hk.dep 44 83 (by kernel_rfl) (by kernel_rfl)
      refine .inl ⟨wanted_plain rfl, ?_⟩
      refine wp_value (v := .bool true) (w' := W) ?_ ⟨_, rfl, rfl, (Below.refl _ _), hg⟩
      go_simp
    | 46, ho =>
      cases ho
      have q84 : x.tmps[84]?.getD undef = .bool true := hk.dep 45 84 (by kernel_rfl) (by kernel_rfl)
      refine .inl ⟨wanted_plain rfl, ?_⟩
      refine wp_value (v := .bool true) (w' := W) ?_ ⟨_, rfl, rfl, (Below.refl _ _), hg⟩
      go_simp
    | 47, ho =>
      cases ho
      have q3 : x.tmps[3]?.getD undef = .pointer (some ⟨gs, 0, none⟩) := hk.fix 3 (by kernel_rfl)
      refine .inl ⟨wanted_guard (g := 46) (d := 85) (by rfl) (by kernel_rfl) (show x.tmps[85]?.getD undef = .bool true from hk.dep 46 85 (by kernel_rfl) (by kernel_rfl)), ?_⟩
      refine wp_value (v := .pointer (some ⟨gs, 2, none⟩)) (w' := W) ?_ ⟨_, rfl, rfl, (Below.refl _ _), hg⟩
      go_simp
    | 48, ho =>
      cases ho
      have q86 : x.tmps[86]?.getD undef = .pointer (some ⟨gs, 2, none⟩) := hk.dep 47 86 (by kernel_rfl) (by kernel_rfl)
      refine .inl ⟨wanted_guard (g := 46) (d := 85) (by rfl) (by kernel_rfl) (show x.tmps[85]?.getD undef = .bool true from hk.dep 46 85 (by kernel_rfl) (by kernel_rfl)), ?_⟩
      have cf : W.cell? ⟨gs, 2, none⟩ = some (.int .i64 p) := ((HX4.out.of (hg.below.block _ HX4.out.lt)).cell 2).trans rfl
      refine wp_value (v := .int .i64 p) (w' := W) ?_ ⟨_, rfl, rfl, (Below.refl _ _), hg⟩
      go_simp
    | 49, ho =>
      cases ho
      have q5 : x.tmps[5]?.getD undef = .pointer (some ⟨gq, 0, none⟩) := hk.fix 5 (by kernel_rfl)
      refine .inl ⟨wanted_guard (g := 46) (d := 85) (by rfl) (by kernel_rfl) (show x.tmps[85]?.getD undef = .bool true from hk.dep 46 85 (by kernel_rfl) (by kernel_rfl)), ?_⟩
      refine wp_value (v := .pointer (some ⟨gq, 2, none⟩)) (w' := W) ?_ ⟨_, rfl, rfl, (Below.refl _ _), hg⟩
      go_simp
    | 50, ho =>
      cases ho
      have q88 : x.tmps[88]?.getD undef = .pointer (some ⟨gq, 2, none⟩) := hk.dep 49 88 (by kernel_rfl) (by kernel_rfl)
      refine .inl ⟨wanted_guard (g := 46) (d := 85) (by rfl) (by kernel_rfl) (show x.tmps[85]?.getD undef = .bool true from hk.dep 46 85 (by kernel_rfl) (by kernel_rfl)), ?_⟩
      have cf : W.cell? ⟨gq, 2, none⟩ = some (.string Q) := ((HQ4.out.of (hg.below.block _ HQ4.out.lt)).cell 2).trans rfl
      refine wp_value (v := .string Q) (w' := W) ?_ ⟨_, rfl, rfl, (Below.refl _ _), hg⟩
      go_simp
    | 51, ho =>
      cases ho
      have q87 : x.tmps[87]?.getD undef = .int .i64 p := hk.dep 48 87 (by kernel_rfl) (by kernel_rfl)
      have q89 : x.tmps[89]?.getD undef = .string Q := hk.dep 50 89 (by kernel_rfl) (by kernel_rfl)
      refine .inl ⟨wanted_guard (g := 46) (d := 85) (by rfl) (by kernel_rfl) (show x.tmps[85]?.getD undef = .bool true from hk.dep 46 85 (by kernel_rfl) (by kernel_rfl)), ?_⟩
      refine wp_enter (f := 16) (args := #[.pointer none, .int .i64 p, .string Q]) (w' := W) (S := fun v w1 => v = .string DQ ∧ Below W.heap.size W w1) ?_ ((HD.out W (HR4.out.next hg.below).tab).mono fun e w' h => ⟨_, h.1, rfl, h.2⟩) ?_
      · go_simp
      · rintro v W' ⟨rfl, hb⟩
        exact ⟨_, rfl, rfl, hb, hg.calls hb⟩
    | 52, ho =>
      cases ho
      have q3 : x.tmps[3]?.getD undef = .pointer (some ⟨gs, 0, none⟩) := hk.fix 3 (by kernel_rfl)
      refine .inl ⟨wanted_guard (g := 46) (d := 85) (by rfl) (by kernel_rfl) (show x.tmps[85]?.getD undef = .bool true from hk.dep 46 85 (by kernel_rfl) (by kernel_rfl)), ?_⟩
      refine wp_value (v := .pointer (some ⟨gs, 2, none⟩)) (w' := W) ?_ ⟨_, rfl, rfl, (Below.refl _ _), hg⟩
      go_simp
    | 53, ho =>
      cases ho
      have q91 : x.tmps[91]?.getD undef = .pointer (some ⟨gs, 2, none⟩) := hk.dep 52 91 (by kernel_rfl) (by kernel_rfl)
      refine .inl ⟨wanted_guard (g := 46) (d := 85) (by rfl) (by kernel_rfl) (show x.tmps[85]?.getD undef = .bool true from hk.dep 46 85 (by kernel_rfl) (by kernel_rfl)), ?_⟩
      have cf : W.cell? ⟨gs, 2, none⟩ = some (.int .i64 p) := ((HX4.out.of (hg.below.block _ HX4.out.lt)).cell 2).trans rfl
      refine wp_value (v := .int .i64 p) (w' := W) ?_ ⟨_, rfl, rfl, (Below.refl _ _), hg⟩
      go_simp
    | 54, ho =>
      cases ho
      have q5 : x.tmps[5]?.getD undef = .pointer (some ⟨gq, 0, none⟩) := hk.fix 5 (by kernel_rfl)
      refine .inl ⟨wanted_guard (g := 46) (d := 85) (by rfl) (by kernel_rfl) (show x.tmps[85]?.getD undef = .bool true from hk.dep 46 85 (by kernel_rfl) (by kernel_rfl)), ?_⟩
      refine wp_value (v := .pointer (some ⟨gq, 2, none⟩)) (w' := W) ?_ ⟨_, rfl, rfl, (Below.refl _ _), hg⟩
      go_simp
    | 55, ho =>
      cases ho
      have q93 : x.tmps[93]?.getD undef = .pointer (some ⟨gq, 2, none⟩) := hk.dep 54 93 (by kernel_rfl) (by kernel_rfl)
      refine .inl ⟨wanted_guard (g := 46) (d := 85) (by rfl) (by kernel_rfl) (show x.tmps[85]?.getD undef = .bool true from hk.dep 46 85 (by kernel_rfl) (by kernel_rfl)), ?_⟩
      have cf : W.cell? ⟨gq, 2, none⟩ = some (.string Q) := ((HQ4.out.of (hg.below.block _ HQ4.out.lt)).cell 2).trans rfl
      refine wp_value (v := .string Q) (w' := W) ?_ ⟨_, rfl, rfl, (Below.refl _ _), hg⟩
      go_simp
    | 56, ho =>
      cases ho
      have q92 : x.tmps[92]?.getD undef = .int .i64 p := hk.dep 53 92 (by kernel_rfl) (by kernel_rfl)
      have q94 : x.tmps[94]?.getD undef = .string Q := hk.dep 55 94 (by kernel_rfl) (by kernel_rfl)
      refine .inl ⟨wanted_guard (g := 46) (d := 85) (by rfl) (by kernel_rfl) (show x.tmps[85]?.getD undef = .bool true from hk.dep 46 85 (by kernel_rfl) (by kernel_rfl)), ?_⟩
      refine wp_enter (f := 24) (args := #[.int .i64 p, .string Q]) (w' := W) (S := fun v w1 => v = .string DQ ∧ Below W.heap.size W w1) ?_ ((HD2.out W).mono fun e w' h => ⟨_, h.1, rfl, h.2⟩) ?_
      · go_simp
      · rintro v W' ⟨rfl, hb⟩
        exact ⟨_, rfl, rfl, hb, hg.calls hb⟩
    | 57, ho =>
      cases ho
      have q90 : x.tmps[90]?.getD undef = .string DQ := hk.dep 51 90 (by kernel_rfl) (by kernel_rfl)
      have q95 : x.tmps[95]?.getD undef = .string DQ := hk.dep 56 95 (by kernel_rfl) (by kernel_rfl)
      refine .inl ⟨wanted_guard (g := 46) (d := 85) (by rfl) (by kernel_rfl) (show x.tmps[85]?.getD undef = .bool true from hk.dep 46 85 (by kernel_rfl) (by kernel_rfl)), ?_⟩
      refine wp_value (v := .bool true) (w' := W) ?_ ⟨_, rfl, rfl, (Below.refl _ _), hg⟩
      go_simp
    | 58, ho =>
      cases ho
      have q85 : x.tmps[85]?.getD undef = .bool true := hk.dep 46 85 (by kernel_rfl) (by kernel_rfl)
      have q96 : x.tmps[96]?.getD undef = .bool true := hk.dep 57 96 (by kernel_rfl) (by kernel_rfl)
      refine .inl ⟨wanted_plain rfl, ?_⟩
      refine wp_value (v := .bool true) (w' := W) ?_ ⟨_, rfl, rfl, (Below.refl _ _), hg⟩
      go_simp
    | 59, ho =>
      cases ho
      have q97 : x.tmps[97]?.getD undef = .bool true := hk.dep 58 97 (by kernel_rfl) (by kernel_rfl)
      refine .inl ⟨wanted_plain rfl, ?_⟩
      refine wp_value (v := .bool true) (w' := W) ?_ ⟨_, rfl, rfl, (Below.refl _ _), hg⟩
      go_simp
    | 60, ho =>
      cases ho
      have q3 : x.tmps[3]?.getD undef = .pointer (some ⟨gs, 0, none⟩) := hk.fix 3 (by kernel_rfl)
      refine .inl ⟨wanted_guard (g := 59) (d := 98) (by rfl) (by kernel_rfl) (show x.tmps[98]?.getD undef = .bool true from hk.dep 59 98 (by kernel_rfl) (by kernel_rfl)), ?_⟩
      refine wp_value (run_load_op _ _ rfl _ ((eval_slot x 3).trans q3) _ _ ((HX4.out.of (hg.below.block _ HX4.out.lt))) _ Tryz.underlying23 rfl sec_size) ⟨_, rfl, rfl, (Below.refl _ _), hg⟩
    | 61, ho =>
      cases ho
      have q99 : x.tmps[99]?.getD undef = .agg #[.string D0, .int .i64 a, .int .i64 p, .string c, .int .i64 e0, .int .i64 t0] := hk.dep 60 99 (by kernel_rfl) (by kernel_rfl)
      refine .inl ⟨wanted_guard (g := 59) (d := 98) (by rfl) (by kernel_rfl) (show x.tmps[98]?.getD undef = .bool true from hk.dep 59 98 (by kernel_rfl) (by kernel_rfl)), ?_⟩
      refine wp_enter (f := 13) (args := #[.agg #[.string D0, .int .i64 a, .int .i64 p, .string c, .int .i64 e0, .int .i64 t0]]) (w' := W) (S := fun v w1 => v = .bool gb ∧ Below W.heap.size W w1) ?_ ((HG.out W (HR4.out.next hg.below).max).mono fun e w' h => ⟨_, h.1, rfl, h.2⟩) ?_
      · go_simp
      · rintro v W' ⟨rfl, hb⟩
        exact ⟨_, rfl, rfl, hb, hg.calls hb⟩
    | 62, ho =>
      cases ho
      have q3 : x.tmps[3]?.getD undef = .pointer (some ⟨gs, 0, none⟩) := hk.fix 3 (by kernel_rfl)
      refine .inl ⟨wanted_guard (g := 59) (d := 98) (by rfl) (by kernel_rfl) (show x.tmps[98]?.getD undef = .bool true from hk.dep 59 98 (by kernel_rfl) (by kernel_rfl)), ?_⟩
      refine wp_value (run_load_op _ _ rfl _ ((eval_slot x 3).trans q3) _ _ ((HX4.out.of (hg.below.block _ HX4.out.lt))) _ Tryz.underlying23 rfl sec_size) ⟨_, rfl, rfl, (Below.refl _ _), hg⟩
    | 63, ho =>
      cases ho
      have q101 : x.tmps[101]?.getD undef = .agg #[.string D0, .int .i64 a, .int .i64 p, .string c, .int .i64 e0, .int .i64 t0] := hk.dep 62 101 (by kernel_rfl) (by kernel_rfl)
      refine .inl ⟨wanted_guard (g := 59) (d := 98) (by rfl) (by kernel_rfl) (show x.tmps[98]?.getD undef = .bool true from hk.dep 59 98 (by kernel_rfl) (by kernel_rfl)), ?_⟩
      refine wp_enter (f := 25) (args := #[.agg #[.string D0, .int .i64 a, .int .i64 p, .string c, .int .i64 e0, .int .i64 t0]]) (w' := W) (S := fun v w1 => v = .bool gb ∧ Below W.heap.size W w1) ?_ ((HG2.out W).mono fun e w' h => ⟨_, h.1, rfl, h.2⟩) ?_
      · go_simp
      · rintro v W' ⟨rfl, hb⟩
        exact ⟨_, rfl, rfl, hb, hg.calls hb⟩
    | 64, ho =>
      cases ho
      have q100 : x.tmps[100]?.getD undef = .bool gb := hk.dep 61 100 (by kernel_rfl) (by kernel_rfl)
      have q102 : x.tmps[102]?.getD undef = .bool gb := hk.dep 63 102 (by kernel_rfl) (by kernel_rfl)
      refine .inl ⟨wanted_guard (g := 59) (d := 98) (by rfl) (by kernel_rfl) (show x.tmps[98]?.getD undef = .bool true from hk.dep 59 98 (by kernel_rfl) (by kernel_rfl)), ?_⟩
      refine wp_value (v := .bool true) (w' := W) ?_ ⟨_, rfl, rfl, (Below.refl _ _), hg⟩
      go_simp
    | 65, ho =>
      cases ho
      have q98 : x.tmps[98]?.getD undef = .bool true := hk.dep 59 98 (by kernel_rfl) (by kernel_rfl)
      have q103 : x.tmps[103]?.getD undef = .bool true := hk.dep 64 103 (by kernel_rfl) (by kernel_rfl)
      refine .inl ⟨wanted_plain rfl, ?_⟩
      refine wp_value (v := .bool true) (w' := W) ?_ ⟨_, rfl, rfl, (Below.refl _ _), hg⟩
      go_simp
    | 66, ho =>
      cases ho
      have q104 : x.tmps[104]?.getD undef = .bool true := hk.dep 65 104 (by kernel_rfl) (by kernel_rfl)
      refine .inl ⟨wanted_plain rfl, ?_⟩
      refine wp_value (v := .bool true) (w' := W) ?_ ⟨_, rfl, rfl, (Below.refl _ _), hg⟩
      go_simp
    | _ + 67, ho => cases ho
  intro listed x w5 hall hg hk
  have e39 : x.tmps[39]?.getD undef = .string PX := hk.last 0 39 (by decide) (by kernel_rfl)
  have e40 : x.tmps[40]?.getD undef = .pointer (some ⟨gz, 0, none⟩) := hk.last 1 40 (by decide) (by kernel_rfl)
  have e41 : x.tmps[41]?.getD undef = .string PX := hk.last 2 41 (by decide) (by kernel_rfl)
  have e42 : x.tmps[42]?.getD undef = .bool true := hk.last 3 42 (by decide) (by kernel_rfl)
  have e43 : x.tmps[43]?.getD undef = .bool true := hk.last 4 43 (by decide) (by kernel_rfl)
  have e44 : x.tmps[44]?.getD undef = .agg #[.string DX, .int .i64 ax, .int .i64 px, .string cx, .int .i64 ex, .int .i64 tx] := hk.last 5 44 (by decide) (by kernel_rfl)
  have e45 : x.tmps[45]?.getD undef = .pointer (some ⟨gz, 1, none⟩) := hk.last 6 45 (by decide) (by kernel_rfl)
  have e46 : x.tmps[46]?.getD undef = .agg #[.string DX, .int .i64 ax, .int .i64 px, .string cx, .int .i64 ex, .int .i64 tx] := hk.last 7 46 (by decide) (by kernel_rfl)
  have e47 : x.tmps[47]?.getD undef = .bool true := hk.last 8 47 (by decide) (by kernel_rfl)
  have e48 : x.tmps[48]?.getD undef = .bool true := hk.last 9 48 (by decide) (by kernel_rfl)
  have e49 : x.tmps[49]?.getD undef = .bool true := hk.last 10 49 (by decide) (by kernel_rfl)
  have e50 : x.tmps[50]?.getD undef = .bool ok := hk.last 11 50 (by decide) (by kernel_rfl)
  have e51 : x.tmps[51]?.getD undef = .pointer (some ⟨gz, 7, none⟩) := hk.last 12 51 (by decide) (by kernel_rfl)
  have e52 : x.tmps[52]?.getD undef = .bool ok := hk.last 13 52 (by decide) (by kernel_rfl)
  have e53 : x.tmps[53]?.getD undef = .bool true := hk.last 14 53 (by decide) (by kernel_rfl)
  have e54 : x.tmps[54]?.getD undef = .bool true := hk.last 15 54 (by decide) (by kernel_rfl)
  have e55 : x.tmps[55]?.getD undef = .bool true := hk.last 16 55 (by decide) (by kernel_rfl)
  have e56 : x.tmps[56]?.getD undef = .string PL := hk.last 17 56 (by decide) (by kernel_rfl)
  have e57 : x.tmps[57]?.getD undef = .pointer (some ⟨gu, 0, none⟩) := hk.last 18 57 (by decide) (by kernel_rfl)
  have e58 : x.tmps[58]?.getD undef = .string PL := hk.last 19 58 (by decide) (by kernel_rfl)
  have e59 : x.tmps[59]?.getD undef = .bool true := hk.last 20 59 (by decide) (by kernel_rfl)
  have e60 : x.tmps[60]?.getD undef = .bool true := hk.last 21 60 (by decide) (by kernel_rfl)
  have e61 : x.tmps[61]?.getD undef = .bool true := hk.last 22 61 (by decide) (by kernel_rfl)
  have e62 : x.tmps[62]?.getD undef = .bool PB := hk.last 23 62 (by decide) (by kernel_rfl)
  have e63 : x.tmps[63]?.getD undef = .pointer (some ⟨gu, 1, none⟩) := hk.last 24 63 (by decide) (by kernel_rfl)
  have e64 : x.tmps[64]?.getD undef = .bool PB := hk.last 25 64 (by decide) (by kernel_rfl)
  have e65 : x.tmps[65]?.getD undef = .bool true := hk.last 26 65 (by decide) (by kernel_rfl)
  have e66 : x.tmps[66]?.getD undef = .bool true := hk.last 27 66 (by decide) (by kernel_rfl)
  have e67 : x.tmps[67]?.getD undef = .bool true := hk.last 28 67 (by decide) (by kernel_rfl)
  have e68 : x.tmps[68]?.getD undef = .pointer (some ⟨gs, 2, none⟩) := hk.last 29 68 (by decide) (by kernel_rfl)
  have e69 : x.tmps[69]?.getD undef = .int .i64 p := hk.last 30 69 (by decide) (by kernel_rfl)
  have e70 : x.tmps[70]?.getD undef = .int .i64 lf := hk.last 31 70 (by decide) (by kernel_rfl)
  have e71 : x.tmps[71]?.getD undef = .pointer (some ⟨gs, 2, none⟩) := hk.last 32 71 (by decide) (by kernel_rfl)
  have e72 : x.tmps[72]?.getD undef = .int .i64 p := hk.last 33 72 (by decide) (by kernel_rfl)
  have e73 : x.tmps[73]?.getD undef = .int .i64 lf := hk.last 34 73 (by decide) (by kernel_rfl)
  have e74 : x.tmps[74]?.getD undef = .bool true := hk.last 35 74 (by decide) (by kernel_rfl)
  have e75 : x.tmps[75]?.getD undef = .bool true := hk.last 36 75 (by decide) (by kernel_rfl)
  have e76 : x.tmps[76]?.getD undef = .bool true := hk.last 37 76 (by decide) (by kernel_rfl)
  have e77 : x.tmps[77]?.getD undef = .pointer (some ⟨gs, 2, none⟩) := hk.last 38 77 (by decide) (by kernel_rfl)
  have e78 : x.tmps[78]?.getD undef = .int .i64 p := hk.last 39 78 (by decide) (by kernel_rfl)
  have e79 : x.tmps[79]?.getD undef = .int .i64 tr := hk.last 40 79 (by decide) (by kernel_rfl)
  have e80 : x.tmps[80]?.getD undef = .pointer (some ⟨gs, 2, none⟩) := hk.last 41 80 (by decide) (by kernel_rfl)
  have e81 : x.tmps[81]?.getD undef = .int .i64 p := hk.last 42 81 (by decide) (by kernel_rfl)
  have e82 : x.tmps[82]?.getD undef = .int .i64 tr := hk.last 43 82 (by decide) (by kernel_rfl)
  have e83 : x.tmps[83]?.getD undef = .bool true := hk.last 44 83 (by decide) (by kernel_rfl)
  have e84 : x.tmps[84]?.getD undef = .bool true := hk.last 45 84 (by decide) (by kernel_rfl)
  have e85 : x.tmps[85]?.getD undef = .bool true := hk.last 46 85 (by decide) (by kernel_rfl)
  have e86 : x.tmps[86]?.getD undef = .pointer (some ⟨gs, 2, none⟩) := hk.last 47 86 (by decide) (by kernel_rfl)
  have e87 : x.tmps[87]?.getD undef = .int .i64 p := hk.last 48 87 (by decide) (by kernel_rfl)
  have e88 : x.tmps[88]?.getD undef = .pointer (some ⟨gq, 2, none⟩) := hk.last 49 88 (by decide) (by kernel_rfl)
  have e89 : x.tmps[89]?.getD undef = .string Q := hk.last 50 89 (by decide) (by kernel_rfl)
  have e90 : x.tmps[90]?.getD undef = .string DQ := hk.last 51 90 (by decide) (by kernel_rfl)
  have e91 : x.tmps[91]?.getD undef = .pointer (some ⟨gs, 2, none⟩) := hk.last 52 91 (by decide) (by kernel_rfl)
  have e92 : x.tmps[92]?.getD undef = .int .i64 p := hk.last 53 92 (by decide) (by kernel_rfl)
  have e93 : x.tmps[93]?.getD undef = .pointer (some ⟨gq, 2, none⟩) := hk.last 54 93 (by decide) (by kernel_rfl)
  have e94 : x.tmps[94]?.getD undef = .string Q := hk.last 55 94 (by decide) (by kernel_rfl)
  have e95 : x.tmps[95]?.getD undef = .string DQ := hk.last 56 95 (by decide) (by kernel_rfl)
  have e96 : x.tmps[96]?.getD undef = .bool true := hk.last 57 96 (by decide) (by kernel_rfl)
  have e97 : x.tmps[97]?.getD undef = .bool true := hk.last 58 97 (by decide) (by kernel_rfl)
  have e98 : x.tmps[98]?.getD undef = .bool true := hk.last 59 98 (by decide) (by kernel_rfl)
  have e99 : x.tmps[99]?.getD undef = .agg #[.string D0, .int .i64 a, .int .i64 p, .string c, .int .i64 e0, .int .i64 t0] := hk.last 60 99 (by decide) (by kernel_rfl)
  have e100 : x.tmps[100]?.getD undef = .bool gb := hk.last 61 100 (by decide) (by kernel_rfl)
  have e101 : x.tmps[101]?.getD undef = .agg #[.string D0, .int .i64 a, .int .i64 p, .string c, .int .i64 e0, .int .i64 t0] := hk.last 62 101 (by decide) (by kernel_rfl)
  have e102 : x.tmps[102]?.getD undef = .bool gb := hk.last 63 102 (by decide) (by kernel_rfl)
  have e103 : x.tmps[103]?.getD undef = .bool true := hk.last 64 103 (by decide) (by kernel_rfl)
  have e104 : x.tmps[104]?.getD undef = .bool true := hk.last 65 104 (by decide) (by kernel_rfl)
  have e6 : x.tmps[6]?.getD undef = .bool true := hk.last 66 6 (by decide) (by kernel_rfl)
  have hB := Lib.hid hg.below
  have hx := hk.act [39, 40, 41, 42, 43, 44, 45, 46, 47, 48, 49, 50, 51, 52, 53, 54, 55, 56, 57, 58, 59, 60, 61, 62, 63, 64, 65, 66, 67, 68, 69, 70, 71, 72, 73, 74, 75, 76, 77, 78, 79, 80, 81, 82, 83, 84, 85, 86, 87, 88, 89, 90, 91, 92, 93, 94, 95, 96, 97, 98, 99, 100, 101, 102, 103, 104, 6] (by kernel_rfl)
  clear hk hg hall
  simp only [List.foldl_cons, List.foldl_nil, e39, e40, e41, e42, e43, e44, e45, e46, e47, e48, e49, e50, e51, e52, e53, e54, e55, e56, e57, e58, e59, e60, e61, e62, e63, e64, e65, e66, e67, e68, e69, e70, e71, e72, e73, e74, e75, e76, e77, e78, e79, e80, e81, e82, e83, e84, e85, e86, e87, e88, e89, e90, e91, e92, e93, e94, e95, e96, e97, e98, e99, e100, e101, e102, e103, e104, e6] at hx
  clear e39 e40 e41 e42 e43 e44 e45 e46 e47 e48 e49 e50 e51 e52 e53 e54 e55 e56 e57 e58 e59 e60 e61 e62 e63 e64 e65 e66 e67 e68 e69 e70 e71 e72 e73 e74 e75 e76 e77 e78 e79 e80 e81 e82 e83 e84 e85 e86 e87 e88 e89 e90 e91 e92 e93 e94 e95 e96 e97 e98 e99 e100 e101 e102 e103 e104 e6
  subst hx
  simp only [Act.put, List.setIfInBounds_toArray, List.set_cons_succ, List.set_cons_zero]
  go_wp2_with fail
  go_ret
  exact ⟨rfl, by rw [hgs]; exact HB4.out.trans (hB.out.mono (by have h := HB4.out.size; omega))⟩
end Go.Proofs.YtflgbnolfleicaaGreatDoor
