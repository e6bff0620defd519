/-
  Contract of the document's own Mint (layer 10). Condition: sha's tables are of no matter; texts of 50000 bytes at most.
-/
import Derived.Test.YtfjdcopndkdbmaaGreatDoorMinS
import Derived.Test.YtfjdcopndkdbmaaGreatDoorMinE
import Derived.Test.YtfjdcopndkdbmaaGreatDoorAnyI
namespace Go.Proofs.YtfjdcopndkdbmaaGreatDoor
open Go.RowKit

/-- A new secret's cells, as the document has them. -/
noncomputable def newV (a p : Int) (c : ByteArray) (d : List UInt8) (n : Int) : Array Value := if mintB a p c d n = true then #[.string (ba (plainL p d)), .string (ba (digL p (plainL p d))), .int .i64 a, .int .i64 p, .string c, .int .i64 (Mi.clock n (Mi.life p)), .int .i64 (Mi.tries p), .bool true] else #[.string ⟨#[]⟩, .string ⟨#[]⟩, .int .i64 0, .int .i64 0, .string ⟨#[]⟩, .int .i64 0, .int .i64 0, .bool false]
theorem new_size : (Tryz.prog.info? 87).map (·.size) = some 8 := by kernel_rfl
theorem Blk.eight {w : World} {g : Nat} {t : TypeId} {a b c d e f h i : Value} (H : Blk w g t #[a, b, c, d, e, f, h, i]) (u v x y z q r s : Value) :
    Blk ((((((((w.setCell ⟨g, 0, none⟩ u).setCell ⟨g, 1, none⟩ v).setCell ⟨g, 2, none⟩ x).setCell ⟨g, 3, none⟩ y).setCell ⟨g, 4, none⟩ z).setCell ⟨g, 5, none⟩ q).setCell ⟨g, 6, none⟩ r).setCell ⟨g, 7, none⟩ s) g t #[u, v, x, y, z, q, r, s] := by
  have := (((((((H.set_ 0 u).set_ 1 v).set_ 2 x).set_ 3 y).set_ 4 z).set_ 5 q).set_ 6 r).set_ 7 s
  simpa using this
theorem below_eight {B : Nat} {w0 w : World} {g : Nat} (h : Below B w0 w) (hg : B ≤ g) (u v x y z q r s : Value) :
    Below B w0 ((((((((w.setCell ⟨g, 0, none⟩ u).setCell ⟨g, 1, none⟩ v).setCell ⟨g, 2, none⟩ x).setCell ⟨g, 3, none⟩ y).setCell ⟨g, 4, none⟩ z).setCell ⟨g, 5, none⟩ q).setCell ⟨g, 6, none⟩ r).setCell ⟨g, 7, none⟩ s) :=
  (((((((h.setCell (p := ⟨g, 0, none⟩) hg _).setCell (p := ⟨g, 1, none⟩) hg _).setCell (p := ⟨g, 2, none⟩) hg _).setCell (p := ⟨g, 3, none⟩) hg _).setCell (p := ⟨g, 4, none⟩) hg _).setCell (p := ⟨g, 5, none⟩) hg _).setCell (p := ⟨g, 6, none⟩) hg _).setCell (p := ⟨g, 7, none⟩) hg _
/-- What each operation of the drawn statement leaves. -/
def Vm4 (b : Nat) (g7 : Nat) (PLB : ByteArray) (DG : ByteArray) (c : ByteArray) (a : Int) (p : Int) (n : Int) (lf : Int) (ck : Int) (tr : Int) : Nat → Value → Prop
  | 0, v => v = .pointer (some ⟨g7, 0, none⟩)
  | 1, v => v = .string PLB
  | 2, v => v = .pointer (some ⟨b, 2, none⟩)
  | 3, v => v = .int .i64 p
  | 4, v => v = .pointer (some ⟨g7, 0, none⟩)
  | 5, v => v = .string PLB
  | 6, v => v = .string DG
  | 7, v => v = .pointer (some ⟨b, 1, none⟩)
  | 8, v => v = .int .i64 a
  | 9, v => v = .pointer (some ⟨b, 2, none⟩)
  | 10, v => v = .int .i64 p
  | 11, v => v = .pointer (some ⟨b, 3, none⟩)
  | 12, v => v = .string c
  | 13, v => v = .int .i64 n
  | 14, v => v = .pointer (some ⟨b, 2, none⟩)
  | 15, v => v = .int .i64 p
  | 16, v => v = .int .i64 lf
  | 17, v => v = .int .i64 ck
  | 18, v => v = .pointer (some ⟨b, 2, none⟩)
  | 19, v => v = .int .i64 p
  | 20, v => v = .int .i64 tr
  | 21, v => v = .agg #[.string DG, .int .i64 a, .int .i64 p, .string c, .int .i64 ck, .int .i64 tr]
  | 22, v => v = .agg #[.string PLB, .string DG, .int .i64 a, .int .i64 p, .string c, .int .i64 ck, .int .i64 tr, .bool true]
  | 23, v => v = undef
  | _, _ => True
set_option maxRecDepth 100000 in
set_option maxHeartbeats 8000000 in
theorem rmint_any (D0 : ByteArray) (a p e0 t0 : Int) (c : ByteArray) (hc : c.size ≤ 50000) (d : List UInt8) (hd : d.length ≤ 100000) (n : Int) (hn : -9223372036854775808 ≤ n ∧ n ≤ 9223372036854775807) (w : World) :
    Calls Tryz.prog 41 #[.agg (secV D0 a p c e0 t0), .string (ba d), .int .i64 n] w fun e w' => e = .returned (.agg (newV a p c d n)) ∧ Below w.heap.size w w' := by
  have HP := Lib.hid (fun W => rplain_any p d hd W)
  have HK := Lib.hid (fun W => rkind_any c (by omega) W)
  have hpl := plainL_length p d
  have HD := Lib.hid (fun W => rdigest_any p (plainL p d) (by omega) W)
  have HL := Lib.hid (fun W => rlife_any p W)
  have hlf := Mi.life_bounds p
  have HC := Lib.hid (fun W => rclock_any n (Mi.life p) hn (by omega) W)
  have HTR := Lib.hid (fun W => rtries_any p W)
  obtain ⟨R, hR⟩ : ∃ R, newV a p c d n = R := ⟨_, rfl⟩
  rw [hR]
  unfold newV mintB at hR
  generalize plainB p d = b1 at HP hR
  generalize ba (digL p (plainL p d)) = DG at HD hR
  generalize ba (plainL p d) = PLB at HP HD hR
  generalize Mi.clock n (Mi.life p) = ck at HC hR
  generalize Mi.life p = lf at HL HC
  generalize Mi.tries p = tr at HTR hR
  generalize Ad.kind c.data.toList = kd at HK hR
  have HR := Lib.hid hR
  clear hR hpl hlf hc hd
  unfold secV
  go_enter Tryz.func41, Tryz.ntmps41
  go_wp2_with fail
  generalize hW0 : World.alloc _ (.cells #[.string ⟨#[]⟩, .string ⟨#[]⟩, .int .i64 0, .int .i64 0, .string ⟨#[]⟩, .int .i64 0, .int .i64 0, .bool false] 87) = W0
  have HX0 := Lib.hid (show Blk W0 w.heap.size 26 #[.string D0, .int .i64 a, .int .i64 p, .string c, .int .i64 e0, .int .i64 t0] by rw [← hW0]; exact (Blk.new w _ _).alloc _)
  have HY0 := Lib.hid (show Blk W0 (w.heap.size + 1) 87 #[.string ⟨#[]⟩, .string ⟨#[]⟩, .int .i64 0, .int .i64 0, .string ⟨#[]⟩, .int .i64 0, .int .i64 0, .bool false] by rw [← hW0]; exact Blk.new2 w _ _ _)
  have HB0 := Lib.hid (show Below w.heap.size w W0 by rw [← hW0]; exact ((Below.refl _ w).alloc (Nat.le_refl _) _).alloc (by simp) _)
  clear hW0
  refine (HP.out W0).mono ?_
  rintro e w1 ⟨rfl, hb⟩
  have HX1 := Lib.hid ((HX0.out.of (hb.block _ HX0.out.lt)).alloc (.cells #[.string PLB, .bool b1] 94))
  have HY1 := Lib.hid ((HY0.out.of (hb.block _ HY0.out.lt)).alloc (.cells #[.string PLB, .bool b1] 94))
  have HB1 := Lib.hid ((HB0.out.trans (hb.mono HB0.out.size)).alloc (by have h1 := HB0.out.size; have h2 := hb.size; omega) (.cells #[.string PLB, .bool b1] 94))
  have HT1 := Lib.hid (Blk.new w1 94 #[.string PLB, .bool b1])
  have HL1 := Lib.hid (show w.heap.size + 1 < w1.heap.size from Nat.lt_of_lt_of_le HY0.out.lt hb.size)
  clear hb HX0 HY0 HB0 HP
  go_upto_region 2 with fail
  generalize hW2 : World.alloc w1 (.cells #[.string PLB, .bool b1] 94) = w2 at *
  clear hW2
  have HB6 : Hid (w.heap.size ≤ w.heap.size + 1) := Lib.hid (Nat.le_succ _)
  have HNE1 : Hid (w.heap.size ≠ w.heap.size + 1) := Lib.hid (by omega)
  have HNE2 : Hid (w1.heap.size ≠ w.heap.size + 1) := Lib.hid (by have h := HL1.out; omega)
  clear HL1
  generalize w1.heap.size = g7 at *
  generalize hb6 : w.heap.size + 1 = b6 at *
  generalize hbw : w.heap.size = b at *
  have x1 : w2.cell? ⟨b, 1, none⟩ = some (.int .i64 a) := (HX1.out.cell 1).trans rfl
  have x3 : w2.cell? ⟨b, 3, none⟩ = some (.string c) := (HX1.out.cell 3).trans rfl
  have u1 : w2.cell? ⟨g7, 1, none⟩ = some (.bool b1) := (HT1.out.cell 1).trans rfl
  cases b1 with
  | false =>
    have HZ : Hid (R = #[.string ⟨#[]⟩, .string ⟨#[]⟩, .int .i64 0, .int .i64 0, .string ⟨#[]⟩, .int .i64 0, .int .i64 0, .bool false]) := Lib.hid (by rw [← HR.out, if_neg (by simp)])
    have f0 := HY1.out.frozen 0
    have g0 := (HY1.out.cell 0).trans rfl
    have f1 := HY1.out.frozen 1
    have g1 := (HY1.out.cell 1).trans rfl
    have f2 := HY1.out.frozen 2
    have g2 := (HY1.out.cell 2).trans rfl
    have f3 := HY1.out.frozen 3
    have g3 := (HY1.out.cell 3).trans rfl
    have f4 := HY1.out.frozen 4
    have g4 := (HY1.out.cell 4).trans rfl
    have f5 := HY1.out.frozen 5
    have g5 := (HY1.out.cell 5).trans rfl
    have f6 := HY1.out.frozen 6
    have g6 := (HY1.out.cell 6).trans rfl
    have f7 := HY1.out.frozen 7
    have g7 := (HY1.out.cell 7).trans rfl
    go_wp2_with fail
    (try simp only [Exit.inBlock, Exit.then])
    refine bodyPost_ret (results_cell_row (P := Tryz.prog) rfl _ _ b6 87 _ (0, 0) _ rfl (HY1.out.eight _ _ _ _ _ _ _ _) Tryz.underlying87 rfl new_size) rfl ?_
    exact ⟨congrArg (fun z => Ending.returned (.agg z)) HZ.out.symm, by first | exact below_eight HB1.out HB6.out _ _ _ _ _ _ _ _ | (rw [hbw]; exact below_eight HB1.out HB6.out _ _ _ _ _ _ _ _)⟩
  | true =>
    by_cases h1 : a < 1
    · have HZ : Hid (R = #[.string ⟨#[]⟩, .string ⟨#[]⟩, .int .i64 0, .int .i64 0, .string ⟨#[]⟩, .int .i64 0, .int .i64 0, .bool false]) := Lib.hid (by rw [← HR.out, if_neg (by simp; omega)])
      have f0 := HY1.out.frozen 0
      have g0 := (HY1.out.cell 0).trans rfl
      have f1 := HY1.out.frozen 1
      have g1 := (HY1.out.cell 1).trans rfl
      have f2 := HY1.out.frozen 2
      have g2 := (HY1.out.cell 2).trans rfl
      have f3 := HY1.out.frozen 3
      have g3 := (HY1.out.cell 3).trans rfl
      have f4 := HY1.out.frozen 4
      have g4 := (HY1.out.cell 4).trans rfl
      have f5 := HY1.out.frozen 5
      have g5 := (HY1.out.cell 5).trans rfl
      have f6 := HY1.out.frozen 6
      have g6 := (HY1.out.cell 6).trans rfl
      have f7 := HY1.out.frozen 7
      have g7 := (HY1.out.cell 7).trans rfl
      go_wp2_with fail
      (try simp only [Exit.inBlock, Exit.then])
      refine bodyPost_ret (results_cell_row (P := Tryz.prog) rfl _ _ b6 87 _ (0, 0) _ rfl (HY1.out.eight _ _ _ _ _ _ _ _) Tryz.underlying87 rfl new_size) rfl ?_
      exact ⟨congrArg (fun z => Ending.returned (.agg z)) HZ.out.symm, by first | exact below_eight HB1.out HB6.out _ _ _ _ _ _ _ _ | (rw [hbw]; exact below_eight HB1.out HB6.out _ _ _ _ _ _ _ _)⟩
    · by_cases h2 : 99 < a
      · have HZ : Hid (R = #[.string ⟨#[]⟩, .string ⟨#[]⟩, .int .i64 0, .int .i64 0, .string ⟨#[]⟩, .int .i64 0, .int .i64 0, .bool false]) := Lib.hid (by rw [← HR.out, if_neg (by simp; omega)])
        have f0 := HY1.out.frozen 0
        have g0 := (HY1.out.cell 0).trans rfl
        have f1 := HY1.out.frozen 1
        have g1 := (HY1.out.cell 1).trans rfl
        have f2 := HY1.out.frozen 2
        have g2 := (HY1.out.cell 2).trans rfl
        have f3 := HY1.out.frozen 3
        have g3 := (HY1.out.cell 3).trans rfl
        have f4 := HY1.out.frozen 4
        have g4 := (HY1.out.cell 4).trans rfl
        have f5 := HY1.out.frozen 5
        have g5 := (HY1.out.cell 5).trans rfl
        have f6 := HY1.out.frozen 6
        have g6 := (HY1.out.cell 6).trans rfl
        have f7 := HY1.out.frozen 7
        have g7 := (HY1.out.cell 7).trans rfl
        go_wp2_with fail
        (try simp only [Exit.inBlock, Exit.then])
        refine bodyPost_ret (results_cell_row (P := Tryz.prog) rfl _ _ b6 87 _ (0, 0) _ rfl (HY1.out.eight _ _ _ _ _ _ _ _) Tryz.underlying87 rfl new_size) rfl ?_
        exact ⟨congrArg (fun z => Ending.returned (.agg z)) HZ.out.symm, by first | exact below_eight HB1.out HB6.out _ _ _ _ _ _ _ _ | (rw [hbw]; exact below_eight HB1.out HB6.out _ _ _ _ _ _ _ _)⟩
      · go_wp2_with fail
        refine (HK.out _).mono ?_
        rintro e wq ⟨rfl, hwq⟩
        obtain rfl : w2 = wq := hwq.symm
        clear hwq
        by_cases hk : kd = 0
        · subst hk
          have HZ : Hid (R = #[.string ⟨#[]⟩, .string ⟨#[]⟩, .int .i64 0, .int .i64 0, .string ⟨#[]⟩, .int .i64 0, .int .i64 0, .bool false]) := Lib.hid (by rw [← HR.out, if_neg (by simp)])
          have f0 := HY1.out.frozen 0
          have g0 := (HY1.out.cell 0).trans rfl
          have f1 := HY1.out.frozen 1
          have g1 := (HY1.out.cell 1).trans rfl
          have f2 := HY1.out.frozen 2
          have g2 := (HY1.out.cell 2).trans rfl
          have f3 := HY1.out.frozen 3
          have g3 := (HY1.out.cell 3).trans rfl
          have f4 := HY1.out.frozen 4
          have g4 := (HY1.out.cell 4).trans rfl
          have f5 := HY1.out.frozen 5
          have g5 := (HY1.out.cell 5).trans rfl
          have f6 := HY1.out.frozen 6
          have g6 := (HY1.out.cell 6).trans rfl
          have f7 := HY1.out.frozen 7
          have g7 := (HY1.out.cell 7).trans rfl
          go_wp2_with fail
          (try simp only [Exit.inBlock, Exit.then])
          refine bodyPost_ret (results_cell_row (P := Tryz.prog) rfl _ _ b6 87 _ (0, 0) _ rfl (HY1.out.eight _ _ _ _ _ _ _ _) Tryz.underlying87 rfl new_size) rfl ?_
          exact ⟨congrArg (fun z => Ending.returned (.agg z)) HZ.out.symm, by first | exact below_eight HB1.out HB6.out _ _ _ _ _ _ _ _ | (rw [hbw]; exact below_eight HB1.out HB6.out _ _ _ _ _ _ _ _)⟩
        · have hki : ((kd : Int) == 0) = false := by simpa using hk
          have hkj : ¬ ((kd : Int) = 0) := by omega
          by_cases h3 : n < 0
          · have HZ : Hid (R = #[.string ⟨#[]⟩, .string ⟨#[]⟩, .int .i64 0, .int .i64 0, .string ⟨#[]⟩, .int .i64 0, .int .i64 0, .bool false]) := Lib.hid (by rw [← HR.out, if_neg (by simp; omega)])
            have f0 := HY1.out.frozen 0
            have g0 := (HY1.out.cell 0).trans rfl
            have f1 := HY1.out.frozen 1
            have g1 := (HY1.out.cell 1).trans rfl
            have f2 := HY1.out.frozen 2
            have g2 := (HY1.out.cell 2).trans rfl
            have f3 := HY1.out.frozen 3
            have g3 := (HY1.out.cell 3).trans rfl
            have f4 := HY1.out.frozen 4
            have g4 := (HY1.out.cell 4).trans rfl
            have f5 := HY1.out.frozen 5
            have g5 := (HY1.out.cell 5).trans rfl
            have f6 := HY1.out.frozen 6
            have g6 := (HY1.out.cell 6).trans rfl
            have f7 := HY1.out.frozen 7
            have g7 := (HY1.out.cell 7).trans rfl
            go_wp2_with fail
            (try simp only [Exit.inBlock, Exit.then])
            refine bodyPost_ret (results_cell_row (P := Tryz.prog) rfl _ _ b6 87 _ (0, 0) _ rfl (HY1.out.eight _ _ _ _ _ _ _ _) Tryz.underlying87 rfl new_size) rfl ?_
            exact ⟨congrArg (fun z => Ending.returned (.agg z)) HZ.out.symm, by first | exact below_eight HB1.out HB6.out _ _ _ _ _ _ _ _ | (rw [hbw]; exact below_eight HB1.out HB6.out _ _ _ _ _ _ _ _)⟩
          · by_cases h4 : 1099511627776 < n
            · have HZ : Hid (R = #[.string ⟨#[]⟩, .string ⟨#[]⟩, .int .i64 0, .int .i64 0, .string ⟨#[]⟩, .int .i64 0, .int .i64 0, .bool false]) := Lib.hid (by rw [← HR.out, if_neg (by simp; omega)])
              have f0 := HY1.out.frozen 0
              have g0 := (HY1.out.cell 0).trans rfl
              have f1 := HY1.out.frozen 1
              have g1 := (HY1.out.cell 1).trans rfl
              have f2 := HY1.out.frozen 2
              have g2 := (HY1.out.cell 2).trans rfl
              have f3 := HY1.out.frozen 3
              have g3 := (HY1.out.cell 3).trans rfl
              have f4 := HY1.out.frozen 4
              have g4 := (HY1.out.cell 4).trans rfl
              have f5 := HY1.out.frozen 5
              have g5 := (HY1.out.cell 5).trans rfl
              have f6 := HY1.out.frozen 6
              have g6 := (HY1.out.cell 6).trans rfl
              have f7 := HY1.out.frozen 7
              have g7 := (HY1.out.cell 7).trans rfl
              go_wp2_with fail
              (try simp only [Exit.inBlock, Exit.then])
              refine bodyPost_ret (results_cell_row (P := Tryz.prog) rfl _ _ b6 87 _ (0, 0) _ rfl (HY1.out.eight _ _ _ _ _ _ _ _) Tryz.underlying87 rfl new_size) rfl ?_
              exact ⟨congrArg (fun z => Ending.returned (.agg z)) HZ.out.symm, by first | exact below_eight HB1.out HB6.out _ _ _ _ _ _ _ _ | (rw [hbw]; exact below_eight HB1.out HB6.out _ _ _ _ _ _ _ _)⟩
            · have HZ : Hid (R = #[.string PLB, .string DG, .int .i64 a, .int .i64 p, .string c, .int .i64 ck, .int .i64 tr, .bool true]) := Lib.hid (by rw [← HR.out, if_pos (by simp; omega)])
              go_wp2_with fail
              clear x1 x3 u1 h1 h2 hk hki hkj h3 h4 HR HK
              refine wp_region_some (by kernel_rfl) (fun i v _ => Vm4 b g7 PLB DG c a p n lf ck tr i v) (fun listed _ W => Gs w2 b6 87 #[.string ⟨#[]⟩, .string ⟨#[]⟩, .int .i64 0, .int .i64 0, .string ⟨#[]⟩, .int .i64 0, .int .i64 0, .bool false] #[.string PLB, .string DG, .int .i64 a, .int .i64 p, .string c, .int .i64 ck, .int .i64 tr, .bool true] 23 listed W) (fun _ _ => True) (by kernel_rfl) (by kernel_rfl) 63 rfl (by kernel_rfl) (fun _ _ _ _ h _ => by exact h) (fun _ => trivial) (by exact Gs.start HY1.out 24) ?_ ?_
              · intro i o ho listed x W hs hdep hun hg hk
                match i, ho with
                | 0, ho =>
                  cases ho
                  have q7 : x.tmps[7]?.getD undef = .pointer (some ⟨g7, 0, none⟩) := hk.fix 7 (by kernel_rfl)
                  refine .inl ⟨wanted_plain rfl, ?_⟩
                  refine wp_value (v := .pointer (some ⟨g7, 0, none⟩)) (w' := W) ?_ ⟨_, rfl, rfl, trivial, hg.quiet 0 (by decide)⟩
                  go_simp
                | 1, ho =>
                  cases ho
                  have q40 : x.tmps[40]?.getD undef = .pointer (some ⟨g7, 0, none⟩) := hk.dep 0 40 (by kernel_rfl) (by kernel_rfl)
                  refine .inl ⟨wanted_plain rfl, ?_⟩
                  have cf : W.cell? ⟨g7, 0, none⟩ = some (.string PLB) := ((HT1.out.of (hg.kept.block _ HT1.out.lt HNE2.out)).cell 0).trans rfl
                  refine wp_value (v := .string PLB) (w' := W) ?_ ⟨_, rfl, rfl, trivial, hg.quiet 1 (by decide)⟩
                  go_simp
                | 2, ho =>
                  cases ho
                  have q3 : x.tmps[3]?.getD undef = .pointer (some ⟨b, 0, none⟩) := hk.fix 3 (by kernel_rfl)
                  refine .inl ⟨wanted_plain rfl, ?_⟩
                  refine wp_value (v := .pointer (some ⟨b, 2, none⟩)) (w' := W) ?_ ⟨_, rfl, rfl, trivial, hg.quiet 2 (by decide)⟩
                  go_simp
                | 3, ho =>
                  cases ho
                  have q42 : x.tmps[42]?.getD undef = .pointer (some ⟨b, 2, none⟩) := hk.dep 2 42 (by kernel_rfl) (by kernel_rfl)
                  refine .inl ⟨wanted_plain rfl, ?_⟩
                  have cf : W.cell? ⟨b, 2, none⟩ = some (.int .i64 p) := ((HX1.out.of (hg.kept.block _ HX1.out.lt HNE1.out)).cell 2).trans rfl
                  refine wp_value (v := .int .i64 p) (w' := W) ?_ ⟨_, rfl, rfl, trivial, hg.quiet 3 (by decide)⟩
                  go_simp
                | 4, ho =>
                  cases ho
                  have q7 : x.tmps[7]?.getD undef = .pointer (some ⟨g7, 0, none⟩) := hk.fix 7 (by kernel_rfl)
                  refine .inl ⟨wanted_plain rfl, ?_⟩
                  refine wp_value (v := .pointer (some ⟨g7, 0, none⟩)) (w' := W) ?_ ⟨_, rfl, rfl, trivial, hg.quiet 4 (by decide)⟩
                  go_simp
                | 5, ho =>
                  cases ho
                  have q44 : x.tmps[44]?.getD undef = .pointer (some ⟨g7, 0, none⟩) := hk.dep 4 44 (by kernel_rfl) (by kernel_rfl)
                  refine .inl ⟨wanted_plain rfl, ?_⟩
                  have cf : W.cell? ⟨g7, 0, none⟩ = some (.string PLB) := ((HT1.out.of (hg.kept.block _ HT1.out.lt HNE2.out)).cell 0).trans rfl
                  refine wp_value (v := .string PLB) (w' := W) ?_ ⟨_, rfl, rfl, trivial, hg.quiet 5 (by decide)⟩
                  go_simp
                | 6, ho =>
                  cases ho
                  have q43 : x.tmps[43]?.getD undef = .int .i64 p := hk.dep 3 43 (by kernel_rfl) (by kernel_rfl)
                  have q45 : x.tmps[45]?.getD undef = .string PLB := hk.dep 5 45 (by kernel_rfl) (by kernel_rfl)
                  refine .inl ⟨wanted_plain rfl, ?_⟩
                  refine wp_enter (f := 19) (args := #[.int .i64 p, .string PLB]) (w' := W) (S := fun v w1 => v = .string DG ∧ Below W.heap.size W w1) ?_ ((HD.out W).mono fun e w' h => ⟨_, h.1, rfl, h.2⟩) ?_
                  · go_simp
                  · rintro v W' ⟨rfl, hb⟩
                    exact ⟨_, rfl, rfl, trivial, hg.calls hb 6 (by decide)⟩
                | 7, ho =>
                  cases ho
                  have q3 : x.tmps[3]?.getD undef = .pointer (some ⟨b, 0, none⟩) := hk.fix 3 (by kernel_rfl)
                  refine .inl ⟨wanted_plain rfl, ?_⟩
                  refine wp_value (v := .pointer (some ⟨b, 1, none⟩)) (w' := W) ?_ ⟨_, rfl, rfl, trivial, hg.quiet 7 (by decide)⟩
                  go_simp
                | 8, ho =>
                  cases ho
                  have q47 : x.tmps[47]?.getD undef = .pointer (some ⟨b, 1, none⟩) := hk.dep 7 47 (by kernel_rfl) (by kernel_rfl)
                  refine .inl ⟨wanted_plain rfl, ?_⟩
                  have cf : W.cell? ⟨b, 1, none⟩ = some (.int .i64 a) := ((HX1.out.of (hg.kept.block _ HX1.out.lt HNE1.out)).cell 1).trans rfl
                  refine wp_value (v := .int .i64 a) (w' := W) ?_ ⟨_, rfl, rfl, trivial, hg.quiet 8 (by decide)⟩
                  go_simp
                | 9, ho =>
                  cases ho
                  have q3 : x.tmps[3]?.getD undef = .pointer (some ⟨b, 0, none⟩) := hk.fix 3 (by kernel_rfl)
                  refine .inl ⟨wanted_plain rfl, ?_⟩
                  refine wp_value (v := .pointer (some ⟨b, 2, none⟩)) (w' := W) ?_ ⟨_, rfl, rfl, trivial, hg.quiet 9 (by decide)⟩
                  go_simp
                | 10, ho =>
                  cases ho
                  have q49 : x.tmps[49]?.getD undef = .pointer (some ⟨b, 2, none⟩) := hk.dep 9 49 (by kernel_rfl) (by kernel_rfl)
                  refine .inl ⟨wanted_plain rfl, ?_⟩
                  have cf : W.cell? ⟨b, 2, none⟩ = some (.int .i64 p) := ((HX1.out.of (hg.kept.block _ HX1.out.lt HNE1.out)).cell 2).trans rfl
                  refine wp_value (v := .int .i64 p) (w' := W) ?_ ⟨_, rfl, rfl, trivial, hg.quiet 10 (by decide)⟩
                  go_simp
                | 11, ho =>
                  cases ho
                  have q3 : x.tmps[3]?.getD undef = .pointer (some ⟨b, 0, none⟩) := hk.fix 3 (by kernel_rfl)
                  refine .inl ⟨wanted_plain rfl, ?_⟩
                  refine wp_value (v := .pointer (some ⟨b, 3, none⟩)) (w' := W) ?_ ⟨_, rfl, rfl, trivial, hg.quiet 11 (by decide)⟩
                  go_simp
                | 12, ho =>
                  cases ho
                  have q51 : x.tmps[51]?.getD undef = .pointer (some ⟨b, 3, none⟩) := hk.dep 11 51 (by kernel_rfl) (by kernel_rfl)
                  refine .inl ⟨wanted_plain rfl, ?_⟩
                  have cf : W.cell? ⟨b, 3, none⟩ = some (.string c) := ((HX1.out.of (hg.kept.block _ HX1.out.lt HNE1.out)).cell 3).trans rfl
                  refine wp_value (v := .string c) (w' := W) ?_ ⟨_, rfl, rfl, trivial, hg.quiet 12 (by decide)⟩
                  go_simp
                | 13, ho =>
                  cases ho
                  have q2 : x.tmps[2]?.getD undef = .int .i64 n := hk.fix 2 (by kernel_rfl)
                  refine .inl ⟨wanted_plain rfl, ?_⟩
                  refine wp_value (v := .int .i64 n) (w' := W) ?_ ⟨_, rfl, rfl, trivial, hg.quiet 13 (by decide)⟩
                  go_simp
                | 14, ho =>
                  cases ho
                  have q3 : x.tmps[3]?.getD undef = .pointer (some ⟨b, 0, none⟩) := hk.fix 3 (by kernel_rfl)
                  refine .inl ⟨wanted_plain rfl, ?_⟩
                  refine wp_value (v := .pointer (some ⟨b, 2, none⟩)) (w' := W) ?_ ⟨_, rfl, rfl, trivial, hg.quiet 14 (by decide)⟩
                  go_simp
                | 15, ho =>
                  cases ho
                  have q54 : x.tmps[54]?.getD undef = .pointer (some ⟨b, 2, none⟩) := hk.dep 14 54 (by kernel_rfl) (by kernel_rfl)
                  refine .inl ⟨wanted_plain rfl, ?_⟩
                  have cf : W.cell? ⟨b, 2, none⟩ = some (.int .i64 p) := ((HX1.out.of (hg.kept.block _ HX1.out.lt HNE1.out)).cell 2).trans rfl
                  refine wp_value (v := .int .i64 p) (w' := W) ?_ ⟨_, rfl, rfl, trivial, hg.quiet 15 (by decide)⟩
                  go_simp
                | 16, ho =>
                  cases ho
                  have q55 : x.tmps[55]?.getD undef = .int .i64 p := hk.dep 15 55 (by kernel_rfl) (by kernel_rfl)
                  refine .inl ⟨wanted_plain rfl, ?_⟩
                  refine wp_enter (f := 15) (args := #[.int .i64 p]) (w' := W) (S := fun v w1 => v = .int .i64 lf ∧ Below W.heap.size W w1) ?_ ((HL.out W).mono fun e w' h => ⟨_, h.1, rfl, by rw [← h.2]; exact Below.refl _ _⟩) ?_
                  · go_simp
                  · rintro v W' ⟨rfl, hb⟩
                    exact ⟨_, rfl, rfl, trivial, hg.calls hb 16 (by decide)⟩
                | 17, ho =>
                  cases ho
                  have q53 : x.tmps[53]?.getD undef = .int .i64 n := hk.dep 13 53 (by kernel_rfl) (by kernel_rfl)
                  have q56 : x.tmps[56]?.getD undef = .int .i64 lf := hk.dep 16 56 (by kernel_rfl) (by kernel_rfl)
                  refine .inl ⟨wanted_plain rfl, ?_⟩
                  refine wp_enter (f := 67) (args := #[.int .i64 n, .int .i64 lf]) (w' := W) (S := fun v w1 => v = .int .i64 ck ∧ Below W.heap.size W w1) ?_ ((HC.out W).mono fun e w' h => ⟨_, h.1, rfl, by rw [← h.2]; exact Below.refl _ _⟩) ?_
                  · go_simp
                  · rintro v W' ⟨rfl, hb⟩
                    exact ⟨_, rfl, rfl, trivial, hg.calls hb 17 (by decide)⟩
                | 18, ho =>
                  cases ho
                  have q3 : x.tmps[3]?.getD undef = .pointer (some ⟨b, 0, none⟩) := hk.fix 3 (by kernel_rfl)
                  refine .inl ⟨wanted_plain rfl, ?_⟩
                  refine wp_value (v := .pointer (some ⟨b, 2, none⟩)) (w' := W) ?_ ⟨_, rfl, rfl, trivial, hg.quiet 18 (by decide)⟩
                  go_simp
                | 19, ho =>
                  cases ho
                  have q58 : x.tmps[58]?.getD undef = .pointer (some ⟨b, 2, none⟩) := hk.dep 18 58 (by kernel_rfl) (by kernel_rfl)
                  refine .inl ⟨wanted_plain rfl, ?_⟩
                  have cf : W.cell? ⟨b, 2, none⟩ = some (.int .i64 p) := ((HX1.out.of (hg.kept.block _ HX1.out.lt HNE1.out)).cell 2).trans rfl
                  refine wp_value (v := .int .i64 p) (w' := W) ?_ ⟨_, rfl, rfl, trivial, hg.quiet 19 (by decide)⟩
                  go_simp
                | 20, ho =>
                  cases ho
                  have q59 : x.tmps[59]?.getD undef = .int .i64 p := hk.dep 19 59 (by kernel_rfl) (by kernel_rfl)
                  refine .inl ⟨wanted_plain rfl, ?_⟩
                  refine wp_enter (f := 26) (args := #[.int .i64 p]) (w' := W) (S := fun v w1 => v = .int .i64 tr ∧ Below W.heap.size W w1) ?_ ((HTR.out W).mono fun e w' h => ⟨_, h.1, rfl, by rw [← h.2]; exact Below.refl _ _⟩) ?_
                  · go_simp
                  · rintro v W' ⟨rfl, hb⟩
                    exact ⟨_, rfl, rfl, trivial, hg.calls hb 20 (by decide)⟩
                | 21, ho =>
                  cases ho
                  have q46 : x.tmps[46]?.getD undef = .string DG := hk.dep 6 46 (by kernel_rfl) (by kernel_rfl)
                  have q48 : x.tmps[48]?.getD undef = .int .i64 a := hk.dep 8 48 (by kernel_rfl) (by kernel_rfl)
                  have q50 : x.tmps[50]?.getD undef = .int .i64 p := hk.dep 10 50 (by kernel_rfl) (by kernel_rfl)
                  have q52 : x.tmps[52]?.getD undef = .string c := hk.dep 12 52 (by kernel_rfl) (by kernel_rfl)
                  have q57 : x.tmps[57]?.getD undef = .int .i64 ck := hk.dep 17 57 (by kernel_rfl) (by kernel_rfl)
                  have q60 : x.tmps[60]?.getD undef = .int .i64 tr := hk.dep 20 60 (by kernel_rfl) (by kernel_rfl)
                  refine .inl ⟨wanted_plain rfl, ?_⟩
                  refine wp_value (v := .agg #[.string DG, .int .i64 a, .int .i64 p, .string c, .int .i64 ck, .int .i64 tr]) (w' := W) ?_ ⟨_, rfl, rfl, trivial, hg.quiet 21 (by decide)⟩
                  go_simp
                | 22, ho =>
                  cases ho
                  have q41 : x.tmps[41]?.getD undef = .string PLB := hk.dep 1 41 (by kernel_rfl) (by kernel_rfl)
                  have q61 : x.tmps[61]?.getD undef = .agg #[.string DG, .int .i64 a, .int .i64 p, .string c, .int .i64 ck, .int .i64 tr] := hk.dep 21 61 (by kernel_rfl) (by kernel_rfl)
                  refine .inl ⟨wanted_plain rfl, ?_⟩
                  refine wp_value (v := .agg #[.string PLB, .string DG, .int .i64 a, .int .i64 p, .string c, .int .i64 ck, .int .i64 tr, .bool true]) (w' := W) ?_ ⟨_, rfl, rfl, trivial, hg.quiet 22 (by decide)⟩
                  go_simp
                | 23, ho =>
                  cases ho
                  have q6 : x.tmps[6]?.getD undef = .pointer (some ⟨b6, 0, none⟩) := hk.fix 6 (by kernel_rfl)
                  have q62 : x.tmps[62]?.getD undef = .agg #[.string PLB, .string DG, .int .i64 a, .int .i64 p, .string c, .int .i64 ck, .int .i64 tr, .bool true] := hk.dep 22 62 (by kernel_rfl) (by kernel_rfl)
                  refine .inl ⟨wanted_plain rfl, ?_⟩
                  have hg2 := hg.var
                  have hni : ¬ (listed.getD 23 false = true) := by rw [hun]; decide
                  rw [if_neg hni] at hg2
                  refine wp_skip (w' := W.setRow b6 #[.string PLB, .string DG, .int .i64 a, .int .i64 p, .string c, .int .i64 ck, .int .i64 tr, .bool true]) ?_ ⟨undef, rfl, rfl, trivial, hg.stored (by rw [hs]; decide)⟩
                  exact run_store_op 87 _ _ rfl b6 #[.string PLB, .string DG, .int .i64 a, .int .i64 p, .string c, .int .i64 ck, .int .i64 tr, .bool true] ((eval_slot x 6).trans q6) ((eval_slot x 62).trans q62) 87 #[.string ⟨#[]⟩, .string ⟨#[]⟩, .int .i64 0, .int .i64 0, .string ⟨#[]⟩, .int .i64 0, .int .i64 0, .bool false] hg2 new_size rfl (by simp [Value.oneCell'])
                | _ + 24, ho => cases ho
              intro listed x w3 hall hg hk
              have e40 : x.tmps[40]?.getD undef = .pointer (some ⟨g7, 0, none⟩) := hk.last 0 40 (by decide) (by kernel_rfl)
              have e41 : x.tmps[41]?.getD undef = .string PLB := hk.last 1 41 (by decide) (by kernel_rfl)
              have e42 : x.tmps[42]?.getD undef = .pointer (some ⟨b, 2, none⟩) := hk.last 2 42 (by decide) (by kernel_rfl)
              have e43 : x.tmps[43]?.getD undef = .int .i64 p := hk.last 3 43 (by decide) (by kernel_rfl)
              have e44 : x.tmps[44]?.getD undef = .pointer (some ⟨g7, 0, none⟩) := hk.last 4 44 (by decide) (by kernel_rfl)
              have e45 : x.tmps[45]?.getD undef = .string PLB := hk.last 5 45 (by decide) (by kernel_rfl)
              have e46 : x.tmps[46]?.getD undef = .string DG := hk.last 6 46 (by decide) (by kernel_rfl)
              have e47 : x.tmps[47]?.getD undef = .pointer (some ⟨b, 1, none⟩) := hk.last 7 47 (by decide) (by kernel_rfl)
              have e48 : x.tmps[48]?.getD undef = .int .i64 a := hk.last 8 48 (by decide) (by kernel_rfl)
              have e49 : x.tmps[49]?.getD undef = .pointer (some ⟨b, 2, none⟩) := hk.last 9 49 (by decide) (by kernel_rfl)
              have e50 : x.tmps[50]?.getD undef = .int .i64 p := hk.last 10 50 (by decide) (by kernel_rfl)
              have e51 : x.tmps[51]?.getD undef = .pointer (some ⟨b, 3, none⟩) := hk.last 11 51 (by decide) (by kernel_rfl)
              have e52 : x.tmps[52]?.getD undef = .string c := hk.last 12 52 (by decide) (by kernel_rfl)
              have e53 : x.tmps[53]?.getD undef = .int .i64 n := hk.last 13 53 (by decide) (by kernel_rfl)
              have e54 : x.tmps[54]?.getD undef = .pointer (some ⟨b, 2, none⟩) := hk.last 14 54 (by decide) (by kernel_rfl)
              have e55 : x.tmps[55]?.getD undef = .int .i64 p := hk.last 15 55 (by decide) (by kernel_rfl)
              have e56 : x.tmps[56]?.getD undef = .int .i64 lf := hk.last 16 56 (by decide) (by kernel_rfl)
              have e57 : x.tmps[57]?.getD undef = .int .i64 ck := hk.last 17 57 (by decide) (by kernel_rfl)
              have e58 : x.tmps[58]?.getD undef = .pointer (some ⟨b, 2, none⟩) := hk.last 18 58 (by decide) (by kernel_rfl)
              have e59 : x.tmps[59]?.getD undef = .int .i64 p := hk.last 19 59 (by decide) (by kernel_rfl)
              have e60 : x.tmps[60]?.getD undef = .int .i64 tr := hk.last 20 60 (by decide) (by kernel_rfl)
              have e61 : x.tmps[61]?.getD undef = .agg #[.string DG, .int .i64 a, .int .i64 p, .string c, .int .i64 ck, .int .i64 tr] := hk.last 21 61 (by decide) (by kernel_rfl)
              have e62 : x.tmps[62]?.getD undef = .agg #[.string PLB, .string DG, .int .i64 a, .int .i64 p, .string c, .int .i64 ck, .int .i64 tr, .bool true] := hk.last 22 62 (by decide) (by kernel_rfl)
              have hkp := Lib.hid hg.kept
              have hvar := hg.var
              rw [if_pos (hall 23 (by decide))] at hvar
              have hx := hk.act [40, 41, 42, 43, 44, 45, 46, 47, 48, 49, 50, 51, 52, 53, 54, 55, 56, 57, 58, 59, 60, 61, 62] (by kernel_rfl)
              clear hk hg hall
              simp only [List.foldl_cons, List.foldl_nil, e40, e41, e42, e43, e44, e45, e46, e47, e48, e49, e50, e51, e52, e53, e54, e55, e56, e57, e58, e59, e60, e61, e62] at hx
              clear e40 e41 e42 e43 e44 e45 e46 e47 e48 e49 e50 e51 e52 e53 e54 e55 e56 e57 e58 e59 e60 e61 e62
              subst hx
              simp only [Act.put, List.setIfInBounds_toArray, List.set_cons_succ, List.set_cons_zero]
              go_wp2_with fail
              (try simp only [Exit.inBlock, Exit.then])
              refine bodyPost_ret (results_cell_row (P := Tryz.prog) rfl _ _ b6 87 #[.string PLB, .string DG, .int .i64 a, .int .i64 p, .string c, .int .i64 ck, .int .i64 tr, .bool true] (0, 0) _ rfl hvar Tryz.underlying87 rfl new_size) rfl ?_
              exact ⟨congrArg (fun z => Ending.returned (.agg z)) HZ.out.symm, by rw [hbw]; exact Kept.below HB1.out hkp.out (fun k hk => by have h1 : k = b6 := hk; have h2 := HB6.out; omega) (by have h := HB1.out.size; omega)⟩
end Go.Proofs.YtfjdcopndkdbmaaGreatDoor
