/-
  Contract of law 11's helper secret: one that the document mints. No condition.
-/
import Derived.Test.YtfjdcopndkdbmaaGreatDoorVtA
import Derived.Test.YtfjdcopndkdbmaaGreatDoorMinF
import Derived.Test.YtfjdcopndkdbmaaGreatDoorAnyI
namespace Go.Proofs.YtfjdcopndkdbmaaGreatDoor
open Go.RowKit

theorem wrap_same (x : Int) : IntKind.i64.wrap x = wrap64 x := by
  rw [IntKind.wrap_i64]
  simp only [wrap64]
theorem stays_any : Stays (fun _ => False) (fun _ _ => True) := ⟨fun _ _ _ _ _ => trivial, fun _ _ _ _ h => h.elim⟩
theorem made_new (W : World) : (Instr.alloc 87 true (.tuple #[])).run Tryz.prog W = .ok (.pointer (some ⟨W.heap.size, 0, none⟩)) (W.alloc (.cells #[.string ⟨#[]⟩, .string ⟨#[]⟩, .int .i64 0, .int .i64 0, .string ⟨#[]⟩, .int .i64 0, .int .i64 0, .bool false] 87)) := by
  go_simp
/-- A secret as law 11 draws it. -/
noncomputable def secQ (q0 q1 q2 q3 n : Int) : Va.Sec := ⟨ba (digL (purOf q1) (plainL (purOf q1) (ten10 (d7 q3)))), accOf q0, purOf q1, chOf q2, Mi.clock n (Mi.life (purOf q1)), Mi.tries (purOf q1)⟩
theorem mint_yes (q0 q1 q2 q3 n : Int) (hn : 0 ≤ n ∧ n ≤ 1099511627776) : mintB (accOf q0) (purOf q1) (chOf q2) (ten10 (d7 q3)) n = true := by
  have hp : plainB (purOf q1) (ten10 (d7 q3)) = true := by
    unfold plainB purOf ten10
    simp
    omega
  have hk : (Ad.kind (chOf q2).data.toList == 0) = false := by
    unfold chOf
    split <;> kernel_rfl
  unfold mintB accOf
  rw [hp, hk]
  simp
  omega
/-- What each operation of the drawn statement leaves. -/
def Vs0 (b0 : Nat) (b2 : Nat) (DR : ByteArray) (PLB : ByteArray) (DG : ByteArray) (q0 : Int) (q1 : Int) (q2 : Int) (q3 : Int) (n : Int) (pu : Int) (ck : Int) (tr : Int) : Nat → Value → Prop
  | 0, v => v = .pointer (some ⟨b0, 0, none⟩)
  | 1, v => v = .int .i64 q0
  | 2, v => v = .int .i64 (q0 % 4)
  | 3, v => v = .int .i64 (1 + q0 % 4)
  | 4, v => v = .pointer (some ⟨b0, 1, none⟩)
  | 5, v => v = .int .i64 q1
  | 6, v => v = .int .i64 (q1.tmod 6)
  | 7, v => v = .int .i64 (wrap64 (q1.tmod 6 + 6))
  | 8, v => v = .int .i64 ((wrap64 (q1.tmod 6 + 6)).tmod 6)
  | 9, v => v = .int .i64 pu
  | 10, v => v = .pointer (some ⟨b0, 2, none⟩)
  | 11, v => v = .int .i64 q2
  | 12, v => v = .int .i64 0
  | 13, v => v = .pointer (some ⟨b2, 0, none⟩)
  | 14, v => v = .string ⟨#[97, 64, 98, 46, 99, 100]⟩
  | 15, v => v = .agg #[.string ⟨#[]⟩, .int .i64 (1 + q0 % 4), .int .i64 pu, .string ⟨#[97, 64, 98, 46, 99, 100]⟩, .int .i64 0, .int .i64 0]
  | 16, v => v = .pointer (some ⟨b0, 3, none⟩)
  | 17, v => v = .int .i64 q3
  | 18, v => v = .string DR
  | 19, v => v = .int .i64 n
  | 20, v => v = .agg #[.string PLB, .string DG, .int .i64 (1 + q0 % 4), .int .i64 pu, .string ⟨#[97, 64, 98, 46, 99, 100]⟩, .int .i64 ck, .int .i64 tr, .bool true]
  | 21, v => True ∨ v = v
  | 22, v => v = undef
  | _, _ => True
/-- What each operation of the drawn statement leaves. -/
def Vs1 (b0 : Nat) (b2 : Nat) (DR : ByteArray) (PLB : ByteArray) (DG : ByteArray) (q0 : Int) (q1 : Int) (q2 : Int) (q3 : Int) (n : Int) (pu : Int) (ck : Int) (tr : Int) : Nat → Value → Prop
  | 0, v => v = .pointer (some ⟨b0, 0, none⟩)
  | 1, v => v = .int .i64 q0
  | 2, v => v = .int .i64 (q0 % 4)
  | 3, v => v = .int .i64 (1 + q0 % 4)
  | 4, v => v = .pointer (some ⟨b0, 1, none⟩)
  | 5, v => v = .int .i64 q1
  | 6, v => v = .int .i64 (q1.tmod 6)
  | 7, v => v = .int .i64 (wrap64 (q1.tmod 6 + 6))
  | 8, v => v = .int .i64 ((wrap64 (q1.tmod 6 + 6)).tmod 6)
  | 9, v => v = .int .i64 pu
  | 10, v => v = .pointer (some ⟨b0, 2, none⟩)
  | 11, v => v = .int .i64 q2
  | 12, v => v = .int .i64 1
  | 13, v => v = .pointer (some ⟨b2, 1, none⟩)
  | 14, v => v = .string ⟨#[43, 49, 50, 51, 52, 53, 54, 55, 56]⟩
  | 15, v => v = .agg #[.string ⟨#[]⟩, .int .i64 (1 + q0 % 4), .int .i64 pu, .string ⟨#[43, 49, 50, 51, 52, 53, 54, 55, 56]⟩, .int .i64 0, .int .i64 0]
  | 16, v => v = .pointer (some ⟨b0, 3, none⟩)
  | 17, v => v = .int .i64 q3
  | 18, v => v = .string DR
  | 19, v => v = .int .i64 n
  | 20, v => v = .agg #[.string PLB, .string DG, .int .i64 (1 + q0 % 4), .int .i64 pu, .string ⟨#[43, 49, 50, 51, 52, 53, 54, 55, 56]⟩, .int .i64 ck, .int .i64 tr, .bool true]
  | 21, v => True ∨ v = v
  | 22, v => v = undef
  | _, _ => True
set_option maxRecDepth 100000 in
set_option maxHeartbeats 8000000 in
theorem secret_any (q0 q1 q2 q3 n : Int) (hn : 0 ≤ n ∧ n ≤ 1099511627776) (w : World) :
    Calls Tryz.prog 14 #[.agg #[.int .i64 q0, .int .i64 q1, .int .i64 q2, .int .i64 q3], .int .i64 n] w fun e w' => e = .returned (.agg (secC (secQ q0 q1 q2 q3 n)).toArray) ∧ Below w.heap.size w w' := by
  have HDR := Lib.hid (fun W => draw_any q3 W)
  have HM0 := fun W => rmint_any ⟨#[]⟩ (accOf q0) (purOf q1) 0 0 (chOf q2) (by unfold chOf mailC phoneC; split <;> decide) (ten10 (d7 q3)) (by rw [ten10]; simp) n (by omega) W
  unfold newV secV at HM0
  simp only [mint_yes q0 q1 q2 q3 n hn, if_true] at HM0
  have hpur := pur_eq q1
  have hand := and_three q0
  have hone := and_one q2
  rw [sec_row]
  unfold secQ
  simp only
  unfold accOf at HM0 ⊢
  generalize ba (digL (purOf q1) (plainL (purOf q1) (ten10 (d7 q3)))) = DG at HM0 ⊢
  generalize ba (plainL (purOf q1) (ten10 (d7 q3))) = PLB at HM0
  generalize Mi.clock n (Mi.life (purOf q1)) = ck at HM0 ⊢
  generalize Mi.tries (purOf q1) = tr at HM0 ⊢
  generalize purOf q1 = pu at HM0 hpur ⊢
  obtain ⟨C, hC⟩ : ∃ C, chOf q2 = C := ⟨_, rfl⟩
  rw [hC] at HM0 ⊢
  have HC := Lib.hid hC
  have HMI := Lib.hid HM0
  clear hC HM0
  generalize ba (ten10 (d7 q3)) = DR at HDR HMI
  go_enter Tryz.func14, Tryz.ntmps14
  go_upto_region 2 with fail
  generalize hW0 : World.alloc _ (.cells #[.string ⟨#[97, 64, 98, 46, 99, 100]⟩, .string ⟨#[43, 49, 50, 51, 52, 53, 54, 55, 56]⟩] 85) = w3
  have HX2 := Lib.hid (show Blk w3 w.heap.size 35 #[.int .i64 q0, .int .i64 q1, .int .i64 q2, .int .i64 q3] by rw [← hW0]; exact ((Blk.new w _ _).alloc _).alloc _)
  have HY2 := Lib.hid (show Blk w3 (w.heap.size + 1) 26 #[.string ⟨#[]⟩, .int .i64 0, .int .i64 0, .string ⟨#[]⟩, .int .i64 0, .int .i64 0] by rw [← hW0]; exact (Blk.new2 w _ _ _).alloc _)
  have HZ2 := Lib.hid (show Blk w3 (w.heap.size + 1 + 1) 85 #[.string ⟨#[97, 64, 98, 46, 99, 100]⟩, .string ⟨#[43, 49, 50, 51, 52, 53, 54, 55, 56]⟩] by rw [← hW0]; exact blk_new_at (by simp))
  have HB2 := Lib.hid (show Below w.heap.size w w3 by rw [← hW0]; exact (((Below.refl _ w).alloc (Nat.le_refl _) _).alloc (by simp) _).alloc (by simp; omega) _)
  clear hW0
  have HB6 : Hid (w.heap.size ≤ w.heap.size + 1) := Lib.hid (Nat.le_succ _)
  generalize w.heap.size + 1 + 1 = b2 at HZ2 ⊢
  generalize w.heap.size + 1 = b1 at HY2 HB6 ⊢
  by_cases h2 : q2 % 2 = 0
  · have hc : C = ⟨#[97, 64, 98, 46, 99, 100]⟩ := by rw [← HC.out]; exact if_pos h2
    subst hc
    rw [h2] at hone
    clear h2 HC
    refine wp_region_some (by kernel_rfl) (fun i v _ => Vs0 (w.heap.size) b2 DR PLB DG q0 q1 q2 q3 n pu ck tr i v) (Gv (fun _ => False) (fun _ _ => True) w3 0 87 #[.string ⟨#[]⟩, .string ⟨#[]⟩, .int .i64 0, .int .i64 0, .string ⟨#[]⟩, .int .i64 0, .int .i64 0, .bool false] #[.string PLB, .string DG, .int .i64 (1 + q0 % 4), .int .i64 pu, .string ⟨#[97, 64, 98, 46, 99, 100]⟩, .int .i64 ck, .int .i64 tr, .bool true] 999 21 22 6) (fun _ _ => True) (by kernel_rfl) (by kernel_rfl) 31 rfl (by kernel_rfl) (fun _ _ _ _ h _ => by exact h) (fun _ => trivial) (by exact Gv.start trivial stays_any 23 _) ?_ ?_
    · intro i o ho listed x W hs hdep hun hg hk
      match i, ho with
      | 0, ho =>
        cases ho
        have q2 : x.tmps[2]?.getD undef = .pointer (some ⟨(w.heap.size), 0, none⟩) := hk.fix 2 (by kernel_rfl)
        refine .inl ⟨wanted_plain rfl, ?_⟩
        refine wp_value (v := .pointer (some ⟨(w.heap.size), 0, none⟩)) (w' := W) ?_ ⟨_, rfl, rfl, trivial, hg.quiet 0 (by decide) (by decide) (by decide) (some 8) (by decide) _⟩
        go_simp
      | 1, ho =>
        cases ho
        have q8 : x.tmps[8]?.getD undef = .pointer (some ⟨(w.heap.size), 0, none⟩) := hk.dep 0 8 (by kernel_rfl) (by kernel_rfl)
        refine .inl ⟨wanted_plain rfl, ?_⟩
        have cf : W.cell? ⟨(w.heap.size), 0, none⟩ = some (.int .i64 q0) := ((HX2.out.of (hg.kept.block _ HX2.out.lt (fun h => h))).cell 0).trans rfl
        refine wp_value (v := .int .i64 q0) (w' := W) ?_ ⟨_, rfl, rfl, trivial, hg.quiet 1 (by decide) (by decide) (by decide) (some 9) (by decide) _⟩
        go_simp
      | 2, ho =>
        cases ho
        have q9 : x.tmps[9]?.getD undef = .int .i64 q0 := hk.dep 1 9 (by kernel_rfl) (by kernel_rfl)
        refine .inl ⟨wanted_plain rfl, ?_⟩
        refine wp_value (v := .int .i64 (q0 % 4)) (w' := W) ?_ ⟨_, rfl, rfl, trivial, hg.quiet 2 (by decide) (by decide) (by decide) (some 10) (by decide) _⟩
        go_simp
      | 3, ho =>
        cases ho
        have q10 : x.tmps[10]?.getD undef = .int .i64 (q0 % 4) := hk.dep 2 10 (by kernel_rfl) (by kernel_rfl)
        refine .inl ⟨wanted_plain rfl, ?_⟩
        refine wp_value (v := .int .i64 (1 + q0 % 4)) (w' := W) ?_ ⟨_, rfl, rfl, trivial, hg.quiet 3 (by decide) (by decide) (by decide) (some 11) (by decide) _⟩
        (go_simp; rw [wrap_same]; exact acc_eq q0)
      | 4, ho =>
        cases ho
        have q2 : x.tmps[2]?.getD undef = .pointer (some ⟨(w.heap.size), 0, none⟩) := hk.fix 2 (by kernel_rfl)
        refine .inl ⟨wanted_plain rfl, ?_⟩
        refine wp_value (v := .pointer (some ⟨(w.heap.size), 1, none⟩)) (w' := W) ?_ ⟨_, rfl, rfl, trivial, hg.quiet 4 (by decide) (by decide) (by decide) (some 12) (by decide) _⟩
        go_simp
      | 5, ho =>
        cases ho
        have q12 : x.tmps[12]?.getD undef = .pointer (some ⟨(w.heap.size), 1, none⟩) := hk.dep 4 12 (by kernel_rfl) (by kernel_rfl)
        refine .inl ⟨wanted_plain rfl, ?_⟩
        have cf : W.cell? ⟨(w.heap.size), 1, none⟩ = some (.int .i64 q1) := ((HX2.out.of (hg.kept.block _ HX2.out.lt (fun h => h))).cell 1).trans rfl
        refine wp_value (v := .int .i64 q1) (w' := W) ?_ ⟨_, rfl, rfl, trivial, hg.quiet 5 (by decide) (by decide) (by decide) (some 13) (by decide) _⟩
        go_simp
      | 6, ho =>
        cases ho
        have q13 : x.tmps[13]?.getD undef = .int .i64 q1 := hk.dep 5 13 (by kernel_rfl) (by kernel_rfl)
        refine .inl ⟨wanted_plain rfl, ?_⟩
        refine wp_value (v := .int .i64 (q1.tmod 6)) (w' := W) ?_ ⟨_, rfl, rfl, trivial, hg.quiet 6 (by decide) (by decide) (by decide) (some 14) (by decide) _⟩
        go_simp
      | 7, ho =>
        cases ho
        have q14 : x.tmps[14]?.getD undef = .int .i64 (q1.tmod 6) := hk.dep 6 14 (by kernel_rfl) (by kernel_rfl)
        refine .inl ⟨wanted_plain rfl, ?_⟩
        refine wp_value (v := .int .i64 (wrap64 (q1.tmod 6 + 6))) (w' := W) ?_ ⟨_, rfl, rfl, trivial, hg.quiet 7 (by decide) (by decide) (by decide) (some 15) (by decide) _⟩
        (go_simp; rw [wrap_same])
      | 8, ho =>
        cases ho
        have q15 : x.tmps[15]?.getD undef = .int .i64 (wrap64 (q1.tmod 6 + 6)) := hk.dep 7 15 (by kernel_rfl) (by kernel_rfl)
        refine .inl ⟨wanted_plain rfl, ?_⟩
        refine wp_value (v := .int .i64 ((wrap64 (q1.tmod 6 + 6)).tmod 6)) (w' := W) ?_ ⟨_, rfl, rfl, trivial, hg.quiet 8 (by decide) (by decide) (by decide) (some 16) (by decide) _⟩
        go_simp
      | 9, ho =>
        cases ho
        have q16 : x.tmps[16]?.getD undef = .int .i64 ((wrap64 (q1.tmod 6 + 6)).tmod 6) := hk.dep 8 16 (by kernel_rfl) (by kernel_rfl)
        refine .inl ⟨wanted_plain rfl, ?_⟩
        refine wp_value (v := .int .i64 pu) (w' := W) ?_ ⟨_, rfl, rfl, trivial, hg.quiet 9 (by decide) (by decide) (by decide) (some 17) (by decide) _⟩
        (go_simp; rw [wrap_same]; exact hpur)
      | 10, ho =>
        cases ho
        have q2 : x.tmps[2]?.getD undef = .pointer (some ⟨(w.heap.size), 0, none⟩) := hk.fix 2 (by kernel_rfl)
        refine .inl ⟨wanted_plain rfl, ?_⟩
        refine wp_value (v := .pointer (some ⟨(w.heap.size), 2, none⟩)) (w' := W) ?_ ⟨_, rfl, rfl, trivial, hg.quiet 10 (by decide) (by decide) (by decide) (some 18) (by decide) _⟩
        go_simp
      | 11, ho =>
        cases ho
        have q18 : x.tmps[18]?.getD undef = .pointer (some ⟨(w.heap.size), 2, none⟩) := hk.dep 10 18 (by kernel_rfl) (by kernel_rfl)
        refine .inl ⟨wanted_plain rfl, ?_⟩
        have cf : W.cell? ⟨(w.heap.size), 2, none⟩ = some (.int .i64 q2) := ((HX2.out.of (hg.kept.block _ HX2.out.lt (fun h => h))).cell 2).trans rfl
        refine wp_value (v := .int .i64 q2) (w' := W) ?_ ⟨_, rfl, rfl, trivial, hg.quiet 11 (by decide) (by decide) (by decide) (some 19) (by decide) _⟩
        go_simp
      | 12, ho =>
        cases ho
        have q19 : x.tmps[19]?.getD undef = .int .i64 q2 := hk.dep 11 19 (by kernel_rfl) (by kernel_rfl)
        refine .inl ⟨wanted_plain rfl, ?_⟩
        refine wp_value (v := .int .i64 0) (w' := W) ?_ ⟨_, rfl, rfl, trivial, hg.quiet 12 (by decide) (by decide) (by decide) (some 20) (by decide) _⟩
        go_simp
      | 13, ho =>
        cases ho
        have q5 : x.tmps[5]?.getD undef = .pointer (some ⟨b2, 0, none⟩) := hk.fix 5 (by kernel_rfl)
        have q20 : x.tmps[20]?.getD undef = .int .i64 0 := hk.dep 12 20 (by kernel_rfl) (by kernel_rfl)
        refine .inl ⟨wanted_plain rfl, ?_⟩
        refine wp_value (v := .pointer (some ⟨b2, 0, none⟩)) (w' := W) ?_ ⟨_, rfl, rfl, trivial, hg.quiet 13 (by decide) (by decide) (by decide) (some 21) (by decide) _⟩
        go_simp
      | 14, ho =>
        cases ho
        have q21 : x.tmps[21]?.getD undef = .pointer (some ⟨b2, 0, none⟩) := hk.dep 13 21 (by kernel_rfl) (by kernel_rfl)
        refine .inl ⟨wanted_plain rfl, ?_⟩
        have cf : W.cell? ⟨b2, 0, none⟩ = some (.string ⟨#[97, 64, 98, 46, 99, 100]⟩) := ((HZ2.out.of (hg.kept.block _ HZ2.out.lt (fun h => h))).cell 0).trans rfl
        refine wp_value (v := .string ⟨#[97, 64, 98, 46, 99, 100]⟩) (w' := W) ?_ ⟨_, rfl, rfl, trivial, hg.quiet 14 (by decide) (by decide) (by decide) (some 22) (by decide) _⟩
        go_simp
      | 15, ho =>
        cases ho
        have q11 : x.tmps[11]?.getD undef = .int .i64 (1 + q0 % 4) := hk.dep 3 11 (by kernel_rfl) (by kernel_rfl)
        have q17 : x.tmps[17]?.getD undef = .int .i64 pu := hk.dep 9 17 (by kernel_rfl) (by kernel_rfl)
        have q22 : x.tmps[22]?.getD undef = .string ⟨#[97, 64, 98, 46, 99, 100]⟩ := hk.dep 14 22 (by kernel_rfl) (by kernel_rfl)
        refine .inl ⟨wanted_plain rfl, ?_⟩
        refine wp_value (v := .agg #[.string ⟨#[]⟩, .int .i64 (1 + q0 % 4), .int .i64 pu, .string ⟨#[97, 64, 98, 46, 99, 100]⟩, .int .i64 0, .int .i64 0]) (w' := W) ?_ ⟨_, rfl, rfl, trivial, hg.quiet 15 (by decide) (by decide) (by decide) (some 23) (by decide) _⟩
        go_simp
      | 16, ho =>
        cases ho
        have q2 : x.tmps[2]?.getD undef = .pointer (some ⟨(w.heap.size), 0, none⟩) := hk.fix 2 (by kernel_rfl)
        refine .inl ⟨wanted_plain rfl, ?_⟩
        refine wp_value (v := .pointer (some ⟨(w.heap.size), 3, none⟩)) (w' := W) ?_ ⟨_, rfl, rfl, trivial, hg.quiet 16 (by decide) (by decide) (by decide) (some 24) (by decide) _⟩
        go_simp
      | 17, ho =>
        cases ho
        have q24 : x.tmps[24]?.getD undef = .pointer (some ⟨(w.heap.size), 3, none⟩) := hk.dep 16 24 (by kernel_rfl) (by kernel_rfl)
        refine .inl ⟨wanted_plain rfl, ?_⟩
        have cf : W.cell? ⟨(w.heap.size), 3, none⟩ = some (.int .i64 q3) := ((HX2.out.of (hg.kept.block _ HX2.out.lt (fun h => h))).cell 3).trans rfl
        refine wp_value (v := .int .i64 q3) (w' := W) ?_ ⟨_, rfl, rfl, trivial, hg.quiet 17 (by decide) (by decide) (by decide) (some 25) (by decide) _⟩
        go_simp
      | 18, ho =>
        cases ho
        have q25 : x.tmps[25]?.getD undef = .int .i64 q3 := hk.dep 17 25 (by kernel_rfl) (by kernel_rfl)
        refine .inl ⟨wanted_plain rfl, ?_⟩
        refine wp_enter (f := 42) (args := #[.int .i64 q3]) (w' := W) (S := fun v w1 => v = .string DR ∧ Below W.heap.size W w1) ?_ ((HDR.out W).mono fun e w' h => ⟨_, h.1, rfl, h.2⟩) ?_
        · go_simp
        · rintro v W' ⟨rfl, hb⟩
          exact ⟨_, rfl, rfl, trivial, hg.calls stays_any hb 18 (by decide) (by decide) (by decide) (some 26) (by decide) _⟩
      | 19, ho =>
        cases ho
        have q1 : x.tmps[1]?.getD undef = .int .i64 n := hk.fix 1 (by kernel_rfl)
        refine .inl ⟨wanted_plain rfl, ?_⟩
        refine wp_value (v := .int .i64 n) (w' := W) ?_ ⟨_, rfl, rfl, trivial, hg.quiet 19 (by decide) (by decide) (by decide) (some 27) (by decide) _⟩
        go_simp
      | 20, ho =>
        cases ho
        have q23 : x.tmps[23]?.getD undef = .agg #[.string ⟨#[]⟩, .int .i64 (1 + q0 % 4), .int .i64 pu, .string ⟨#[97, 64, 98, 46, 99, 100]⟩, .int .i64 0, .int .i64 0] := hk.dep 15 23 (by kernel_rfl) (by kernel_rfl)
        have q26 : x.tmps[26]?.getD undef = .string DR := hk.dep 18 26 (by kernel_rfl) (by kernel_rfl)
        have q27 : x.tmps[27]?.getD undef = .int .i64 n := hk.dep 19 27 (by kernel_rfl) (by kernel_rfl)
        refine .inl ⟨wanted_plain rfl, ?_⟩
        refine wp_enter (f := 41) (args := #[.agg #[.string ⟨#[]⟩, .int .i64 (1 + q0 % 4), .int .i64 pu, .string ⟨#[97, 64, 98, 46, 99, 100]⟩, .int .i64 0, .int .i64 0], .string DR, .int .i64 n]) (w' := W) (S := fun v w1 => v = .agg #[.string PLB, .string DG, .int .i64 (1 + q0 % 4), .int .i64 pu, .string ⟨#[97, 64, 98, 46, 99, 100]⟩, .int .i64 ck, .int .i64 tr, .bool true] ∧ Below W.heap.size W w1) ?_ ((HMI.out W).mono fun e w' h => ⟨_, h.1, rfl, h.2⟩) ?_
        · go_simp
        · rintro v W' ⟨rfl, hb⟩
          exact ⟨_, rfl, rfl, trivial, hg.calls stays_any hb 20 (by decide) (by decide) (by decide) (some 28) (by decide) _⟩
      | 21, ho =>
        cases ho
        refine .inl ⟨wanted_plain rfl, ?_⟩
        refine wp_value (run_alloc_op 87 rfl #[.string ⟨#[]⟩, .string ⟨#[]⟩, .int .i64 0, .int .i64 0, .string ⟨#[]⟩, .int .i64 0, .int .i64 0, .bool false] (made_new W)) ⟨_, rfl, .inl trivial, trivial, Gv.made stays_any hg hun (by rw [hs]; decide) (by decide) (by decide) (Nat.lt_of_lt_of_eq (by decide : 6 < 31) (hk.size.trans rfl).symm)⟩
      | 22, ho =>
        cases ho
        have q28 : x.tmps[28]?.getD undef = .agg #[.string PLB, .string DG, .int .i64 (1 + q0 % 4), .int .i64 pu, .string ⟨#[97, 64, 98, 46, 99, 100]⟩, .int .i64 ck, .int .i64 tr, .bool true] := hk.dep 20 28 (by kernel_rfl) (by kernel_rfl)
        refine .inl ⟨wanted_plain rfl, ?_⟩
        have hla := hdep 21 (by kernel_rfl)
        obtain ⟨g, e0, hg1, hg2⟩ := hg.var hla
        have hni : ¬ (listed.getD 22 false = true) := by rw [hun]; decide
        rw [if_neg hni] at hg2
        refine wp_skip (w' := W.setRow g #[.string PLB, .string DG, .int .i64 (1 + q0 % 4), .int .i64 pu, .string ⟨#[97, 64, 98, 46, 99, 100]⟩, .int .i64 ck, .int .i64 tr, .bool true]) ?_ ⟨undef, rfl, rfl, trivial, Gv.stored stays_any (fun _ h => h.elim) hg hla (by rw [hs]; decide) (by decide) (by decide) g hg1 e0 #[.string ⟨#[]⟩, .string ⟨#[]⟩, .int .i64 0, .int .i64 0, .string ⟨#[]⟩, .int .i64 0, .int .i64 0, .bool false] hg2 undef⟩
        exact run_store_op 87 _ _ rfl g #[.string PLB, .string DG, .int .i64 (1 + q0 % 4), .int .i64 pu, .string ⟨#[97, 64, 98, 46, 99, 100]⟩, .int .i64 ck, .int .i64 tr, .bool true] ((eval_slot x 6).trans e0) ((eval_slot x 28).trans q28) 87 #[.string ⟨#[]⟩, .string ⟨#[]⟩, .int .i64 0, .int .i64 0, .string ⟨#[]⟩, .int .i64 0, .int .i64 0, .bool false] hg2 new_size rfl (by simp [Value.oneCell'])
      | _ + 23, ho => cases ho
    intro listed x w4 hall hg hk
    obtain ⟨g6, e6, hg6, hx6⟩ := hg.var (hall 21 (by decide))
    rw [if_pos (hall 22 (by decide))] at hx6
    have e8 : x.tmps[8]?.getD undef = .pointer (some ⟨(w.heap.size), 0, none⟩) := hk.last 0 8 (by decide) (by kernel_rfl)
    have e9 : x.tmps[9]?.getD undef = .int .i64 q0 := hk.last 1 9 (by decide) (by kernel_rfl)
    have e10 : x.tmps[10]?.getD undef = .int .i64 (q0 % 4) := hk.last 2 10 (by decide) (by kernel_rfl)
    have e11 : x.tmps[11]?.getD undef = .int .i64 (1 + q0 % 4) := hk.last 3 11 (by decide) (by kernel_rfl)
    have e12 : x.tmps[12]?.getD undef = .pointer (some ⟨(w.heap.size), 1, none⟩) := hk.last 4 12 (by decide) (by kernel_rfl)
    have e13 : x.tmps[13]?.getD undef = .int .i64 q1 := hk.last 5 13 (by decide) (by kernel_rfl)
    have e14 : x.tmps[14]?.getD undef = .int .i64 (q1.tmod 6) := hk.last 6 14 (by decide) (by kernel_rfl)
    have e15 : x.tmps[15]?.getD undef = .int .i64 (wrap64 (q1.tmod 6 + 6)) := hk.last 7 15 (by decide) (by kernel_rfl)
    have e16 : x.tmps[16]?.getD undef = .int .i64 ((wrap64 (q1.tmod 6 + 6)).tmod 6) := hk.last 8 16 (by decide) (by kernel_rfl)
    have e17 : x.tmps[17]?.getD undef = .int .i64 pu := hk.last 9 17 (by decide) (by kernel_rfl)
    have e18 : x.tmps[18]?.getD undef = .pointer (some ⟨(w.heap.size), 2, none⟩) := hk.last 10 18 (by decide) (by kernel_rfl)
    have e19 : x.tmps[19]?.getD undef = .int .i64 q2 := hk.last 11 19 (by decide) (by kernel_rfl)
    have e20 : x.tmps[20]?.getD undef = .int .i64 0 := hk.last 12 20 (by decide) (by kernel_rfl)
    have e21 : x.tmps[21]?.getD undef = .pointer (some ⟨b2, 0, none⟩) := hk.last 13 21 (by decide) (by kernel_rfl)
    have e22 : x.tmps[22]?.getD undef = .string ⟨#[97, 64, 98, 46, 99, 100]⟩ := hk.last 14 22 (by decide) (by kernel_rfl)
    have e23 : x.tmps[23]?.getD undef = .agg #[.string ⟨#[]⟩, .int .i64 (1 + q0 % 4), .int .i64 pu, .string ⟨#[97, 64, 98, 46, 99, 100]⟩, .int .i64 0, .int .i64 0] := hk.last 15 23 (by decide) (by kernel_rfl)
    have e24 : x.tmps[24]?.getD undef = .pointer (some ⟨(w.heap.size), 3, none⟩) := hk.last 16 24 (by decide) (by kernel_rfl)
    have e25 : x.tmps[25]?.getD undef = .int .i64 q3 := hk.last 17 25 (by decide) (by kernel_rfl)
    have e26 : x.tmps[26]?.getD undef = .string DR := hk.last 18 26 (by decide) (by kernel_rfl)
    have e27 : x.tmps[27]?.getD undef = .int .i64 n := hk.last 19 27 (by decide) (by kernel_rfl)
    have e28 : x.tmps[28]?.getD undef = .agg #[.string PLB, .string DG, .int .i64 (1 + q0 % 4), .int .i64 pu, .string ⟨#[97, 64, 98, 46, 99, 100]⟩, .int .i64 ck, .int .i64 tr, .bool true] := hk.last 20 28 (by decide) (by kernel_rfl)
    have hkp := Lib.hid hg.kept
    have hx := hk.act [8, 9, 10, 11, 12, 13, 14, 15, 16, 17, 18, 19, 20, 21, 22, 23, 24, 25, 26, 27, 28, 6] (by kernel_rfl)
    clear hk hg hall
    simp only [List.foldl_cons, List.foldl_nil, e8, e9, e10, e11, e12, e13, e14, e15, e16, e17, e18, e19, e20, e21, e22, e23, e24, e25, e26, e27, e28, e6] at hx
    clear e8 e9 e10 e11 e12 e13 e14 e15 e16 e17 e18 e19 e20 e21 e22 e23 e24 e25 e26 e27 e28 e6
    subst hx
    simp only [Act.put, List.setIfInBounds_toArray, List.set_cons_succ, List.set_cons_zero]
    have HY4 := Lib.hid (HY2.out.of (hkp.out.block _ HY2.out.lt (fun h => h)))
    have HB4 := Lib.hid (Kept.below HB2.out hkp.out (fun _ h => h.elim) HB2.out.size)
    have c0 : w4.cell? ⟨g6, 1, none⟩ = some (.string DG) := (hx6.cell 1).trans rfl
    have c1 : w4.cell? ⟨g6, 2, none⟩ = some (.int .i64 (1 + q0 % 4)) := (hx6.cell 2).trans rfl
    have c2 : w4.cell? ⟨g6, 3, none⟩ = some (.int .i64 pu) := (hx6.cell 3).trans rfl
    have c3 : w4.cell? ⟨g6, 4, none⟩ = some (.string ⟨#[97, 64, 98, 46, 99, 100]⟩) := (hx6.cell 4).trans rfl
    have c4 : w4.cell? ⟨g6, 5, none⟩ = some (.int .i64 ck) := (hx6.cell 5).trans rfl
    have c5 : w4.cell? ⟨g6, 6, none⟩ = some (.int .i64 tr) := (hx6.cell 6).trans rfl
    have f0 := HY4.out.frozen 0
    have k0 := (HY4.out.cell 0).trans rfl
    have f1 := HY4.out.frozen 1
    have k1 := (HY4.out.cell 1).trans rfl
    have f2 := HY4.out.frozen 2
    have k2 := (HY4.out.cell 2).trans rfl
    have f3 := HY4.out.frozen 3
    have k3 := (HY4.out.cell 3).trans rfl
    have f4 := HY4.out.frozen 4
    have k4 := (HY4.out.cell 4).trans rfl
    have f5 := HY4.out.frozen 5
    have k5 := (HY4.out.cell 5).trans rfl
    go_wp2_with fail
    (try simp only [Exit.inBlock, Exit.then])
    refine bodyPost_ret (results_cell_row (P := Tryz.prog) rfl _ _ b1 26 _ (0, 0) _ rfl (HY4.out.six _ _ _ _ _ _) Tryz.underlying26 rfl sec_size) rfl ?_
    exact ⟨rfl, below_six HB4.out HB6.out _ _ _ _ _ _⟩
  · have hc : C = ⟨#[43, 49, 50, 51, 52, 53, 54, 55, 56]⟩ := by rw [← HC.out]; exact if_neg h2
    subst hc
    rw [show q2 % 2 = 1 by omega] at hone
    clear h2 HC
    refine wp_region_some (by kernel_rfl) (fun i v _ => Vs1 (w.heap.size) b2 DR PLB DG q0 q1 q2 q3 n pu ck tr i v) (Gv (fun _ => False) (fun _ _ => True) w3 0 87 #[.string ⟨#[]⟩, .string ⟨#[]⟩, .int .i64 0, .int .i64 0, .string ⟨#[]⟩, .int .i64 0, .int .i64 0, .bool false] #[.string PLB, .string DG, .int .i64 (1 + q0 % 4), .int .i64 pu, .string ⟨#[43, 49, 50, 51, 52, 53, 54, 55, 56]⟩, .int .i64 ck, .int .i64 tr, .bool true] 999 21 22 6) (fun _ _ => True) (by kernel_rfl) (by kernel_rfl) 31 rfl (by kernel_rfl) (fun _ _ _ _ h _ => by exact h) (fun _ => trivial) (by exact Gv.start trivial stays_any 23 _) ?_ ?_
    · intro i o ho listed x W hs hdep hun hg hk
      match i, ho with
      | 0, ho =>
        cases ho
        have q2 : x.tmps[2]?.getD undef = .pointer (some ⟨(w.heap.size), 0, none⟩) := hk.fix 2 (by kernel_rfl)
        refine .inl ⟨wanted_plain rfl, ?_⟩
        refine wp_value (v := .pointer (some ⟨(w.heap.size), 0, none⟩)) (w' := W) ?_ ⟨_, rfl, rfl, trivial, hg.quiet 0 (by decide) (by decide) (by decide) (some 8) (by decide) _⟩
        go_simp
      | 1, ho =>
        cases ho
        have q8 : x.tmps[8]?.getD undef = .pointer (some ⟨(w.heap.size), 0, none⟩) := hk.dep 0 8 (by kernel_rfl) (by kernel_rfl)
        refine .inl ⟨wanted_plain rfl, ?_⟩
        have cf : W.cell? ⟨(w.heap.size), 0, none⟩ = some (.int .i64 q0) := ((HX2.out.of (hg.kept.block _ HX2.out.lt (fun h => h))).cell 0).trans rfl
        refine wp_value (v := .int .i64 q0) (w' := W) ?_ ⟨_, rfl, rfl, trivial, hg.quiet 1 (by decide) (by decide) (by decide) (some 9) (by decide) _⟩
        go_simp
      | 2, ho =>
        cases ho
        have q9 : x.tmps[9]?.getD undef = .int .i64 q0 := hk.dep 1 9 (by kernel_rfl) (by kernel_rfl)
        refine .inl ⟨wanted_plain rfl, ?_⟩
        refine wp_value (v := .int .i64 (q0 % 4)) (w' := W) ?_ ⟨_, rfl, rfl, trivial, hg.quiet 2 (by decide) (by decide) (by decide) (some 10) (by decide) _⟩
        go_simp
      | 3, ho =>
        cases ho
        have q10 : x.tmps[10]?.getD undef = .int .i64 (q0 % 4) := hk.dep 2 10 (by kernel_rfl) (by kernel_rfl)
        refine .inl ⟨wanted_plain rfl, ?_⟩
        refine wp_value (v := .int .i64 (1 + q0 % 4)) (w' := W) ?_ ⟨_, rfl, rfl, trivial, hg.quiet 3 (by decide) (by decide) (by decide) (some 11) (by decide) _⟩
        (go_simp; rw [wrap_same]; exact acc_eq q0)
      | 4, ho =>
        cases ho
        have q2 : x.tmps[2]?.getD undef = .pointer (some ⟨(w.heap.size), 0, none⟩) := hk.fix 2 (by kernel_rfl)
        refine .inl ⟨wanted_plain rfl, ?_⟩
        refine wp_value (v := .pointer (some ⟨(w.heap.size), 1, none⟩)) (w' := W) ?_ ⟨_, rfl, rfl, trivial, hg.quiet 4 (by decide) (by decide) (by decide) (some 12) (by decide) _⟩
        go_simp
      | 5, ho =>
        cases ho
        have q12 : x.tmps[12]?.getD undef = .pointer (some ⟨(w.heap.size), 1, none⟩) := hk.dep 4 12 (by kernel_rfl) (by kernel_rfl)
        refine .inl ⟨wanted_plain rfl, ?_⟩
        have cf : W.cell? ⟨(w.heap.size), 1, none⟩ = some (.int .i64 q1) := ((HX2.out.of (hg.kept.block _ HX2.out.lt (fun h => h))).cell 1).trans rfl
        refine wp_value (v := .int .i64 q1) (w' := W) ?_ ⟨_, rfl, rfl, trivial, hg.quiet 5 (by decide) (by decide) (by decide) (some 13) (by decide) _⟩
        go_simp
      | 6, ho =>
        cases ho
        have q13 : x.tmps[13]?.getD undef = .int .i64 q1 := hk.dep 5 13 (by kernel_rfl) (by kernel_rfl)
        refine .inl ⟨wanted_plain rfl, ?_⟩
        refine wp_value (v := .int .i64 (q1.tmod 6)) (w' := W) ?_ ⟨_, rfl, rfl, trivial, hg.quiet 6 (by decide) (by decide) (by decide) (some 14) (by decide) _⟩
        go_simp
      | 7, ho =>
        cases ho
        have q14 : x.tmps[14]?.getD undef = .int .i64 (q1.tmod 6) := hk.dep 6 14 (by kernel_rfl) (by kernel_rfl)
        refine .inl ⟨wanted_plain rfl, ?_⟩
        refine wp_value (v := .int .i64 (wrap64 (q1.tmod 6 + 6))) (w' := W) ?_ ⟨_, rfl, rfl, trivial, hg.quiet 7 (by decide) (by decide) (by decide) (some 15) (by decide) _⟩
        (go_simp; rw [wrap_same])
      | 8, ho =>
        cases ho
        have q15 : x.tmps[15]?.getD undef = .int .i64 (wrap64 (q1.tmod 6 + 6)) := hk.dep 7 15 (by kernel_rfl) (by kernel_rfl)
        refine .inl ⟨wanted_plain rfl, ?_⟩
        refine wp_value (v := .int .i64 ((wrap64 (q1.tmod 6 + 6)).tmod 6)) (w' := W) ?_ ⟨_, rfl, rfl, trivial, hg.quiet 8 (by decide) (by decide) (by decide) (some 16) (by decide) _⟩
        go_simp
      | 9, ho =>
        cases ho
        have q16 : x.tmps[16]?.getD undef = .int .i64 ((wrap64 (q1.tmod 6 + 6)).tmod 6) := hk.dep 8 16 (by kernel_rfl) (by kernel_rfl)
        refine .inl ⟨wanted_plain rfl, ?_⟩
        refine wp_value (v := .int .i64 pu) (w' := W) ?_ ⟨_, rfl, rfl, trivial, hg.quiet 9 (by decide) (by decide) (by decide) (some 17) (by decide) _⟩
        (go_simp; rw [wrap_same]; exact hpur)
      | 10, ho =>
        cases ho
        have q2 : x.tmps[2]?.getD undef = .pointer (some ⟨(w.heap.size), 0, none⟩) := hk.fix 2 (by kernel_rfl)
        refine .inl ⟨wanted_plain rfl, ?_⟩
        refine wp_value (v := .pointer (some ⟨(w.heap.size), 2, none⟩)) (w' := W) ?_ ⟨_, rfl, rfl, trivial, hg.quiet 10 (by decide) (by decide) (by decide) (some 18) (by decide) _⟩
        go_simp
      | 11, ho =>
        cases ho
        have q18 : x.tmps[18]?.getD undef = .pointer (some ⟨(w.heap.size), 2, none⟩) := hk.dep 10 18 (by kernel_rfl) (by kernel_rfl)
        refine .inl ⟨wanted_plain rfl, ?_⟩
        have cf : W.cell? ⟨(w.heap.size), 2, none⟩ = some (.int .i64 q2) := ((HX2.out.of (hg.kept.block _ HX2.out.lt (fun h => h))).cell 2).trans rfl
        refine wp_value (v := .int .i64 q2) (w' := W) ?_ ⟨_, rfl, rfl, trivial, hg.quiet 11 (by decide) (by decide) (by decide) (some 19) (by decide) _⟩
        go_simp
      | 12, ho =>
        cases ho
        have q19 : x.tmps[19]?.getD undef = .int .i64 q2 := hk.dep 11 19 (by kernel_rfl) (by kernel_rfl)
        refine .inl ⟨wanted_plain rfl, ?_⟩
        refine wp_value (v := .int .i64 1) (w' := W) ?_ ⟨_, rfl, rfl, trivial, hg.quiet 12 (by decide) (by decide) (by decide) (some 20) (by decide) _⟩
        go_simp
      | 13, ho =>
        cases ho
        have q5 : x.tmps[5]?.getD undef = .pointer (some ⟨b2, 0, none⟩) := hk.fix 5 (by kernel_rfl)
        have q20 : x.tmps[20]?.getD undef = .int .i64 1 := hk.dep 12 20 (by kernel_rfl) (by kernel_rfl)
        refine .inl ⟨wanted_plain rfl, ?_⟩
        refine wp_value (v := .pointer (some ⟨b2, 1, none⟩)) (w' := W) ?_ ⟨_, rfl, rfl, trivial, hg.quiet 13 (by decide) (by decide) (by decide) (some 21) (by decide) _⟩
        go_simp
      | 14, ho =>
        cases ho
        have q21 : x.tmps[21]?.getD undef = .pointer (some ⟨b2, 1, none⟩) := hk.dep 13 21 (by kernel_rfl) (by kernel_rfl)
        refine .inl ⟨wanted_plain rfl, ?_⟩
        have cf : W.cell? ⟨b2, 1, none⟩ = some (.string ⟨#[43, 49, 50, 51, 52, 53, 54, 55, 56]⟩) := ((HZ2.out.of (hg.kept.block _ HZ2.out.lt (fun h => h))).cell 1).trans rfl
        refine wp_value (v := .string ⟨#[43, 49, 50, 51, 52, 53, 54, 55, 56]⟩) (w' := W) ?_ ⟨_, rfl, rfl, trivial, hg.quiet 14 (by decide) (by decide) (by decide) (some 22) (by decide) _⟩
        go_simp
      | 15, ho =>
        cases ho
        have q11 : x.tmps[11]?.getD undef = .int .i64 (1 + q0 % 4) := hk.dep 3 11 (by kernel_rfl) (by kernel_rfl)
        have q17 : x.tmps[17]?.getD undef = .int .i64 pu := hk.dep 9 17 (by kernel_rfl) (by kernel_rfl)
        have q22 : x.tmps[22]?.getD undef = .string ⟨#[43, 49, 50, 51, 52, 53, 54, 55, 56]⟩ := hk.dep 14 22 (by kernel_rfl) (by kernel_rfl)
        refine .inl ⟨wanted_plain rfl, ?_⟩
        refine wp_value (v := .agg #[.string ⟨#[]⟩, .int .i64 (1 + q0 % 4), .int .i64 pu, .string ⟨#[43, 49, 50, 51, 52, 53, 54, 55, 56]⟩, .int .i64 0, .int .i64 0]) (w' := W) ?_ ⟨_, rfl, rfl, trivial, hg.quiet 15 (by decide) (by decide) (by decide) (some 23) (by decide) _⟩
        go_simp
      | 16, ho =>
        cases ho
        have q2 : x.tmps[2]?.getD undef = .pointer (some ⟨(w.heap.size), 0, none⟩) := hk.fix 2 (by kernel_rfl)
        refine .inl ⟨wanted_plain rfl, ?_⟩
        refine wp_value (v := .pointer (some ⟨(w.heap.size), 3, none⟩)) (w' := W) ?_ ⟨_, rfl, rfl, trivial, hg.quiet 16 (by decide) (by decide) (by decide) (some 24) (by decide) _⟩
        go_simp
      | 17, ho =>
        cases ho
        have q24 : x.tmps[24]?.getD undef = .pointer (some ⟨(w.heap.size), 3, none⟩) := hk.dep 16 24 (by kernel_rfl) (by kernel_rfl)
        refine .inl ⟨wanted_plain rfl, ?_⟩
        have cf : W.cell? ⟨(w.heap.size), 3, none⟩ = some (.int .i64 q3) := ((HX2.out.of (hg.kept.block _ HX2.out.lt (fun h => h))).cell 3).trans rfl
        refine wp_value (v := .int .i64 q3) (w' := W) ?_ ⟨_, rfl, rfl, trivial, hg.quiet 17 (by decide) (by decide) (by decide) (some 25) (by decide) _⟩
        go_simp
      | 18, ho =>
        cases ho
        have q25 : x.tmps[25]?.getD undef = .int .i64 q3 := hk.dep 17 25 (by kernel_rfl) (by kernel_rfl)
        refine .inl ⟨wanted_plain rfl, ?_⟩
        refine wp_enter (f := 42) (args := #[.int .i64 q3]) (w' := W) (S := fun v w1 => v = .string DR ∧ Below W.heap.size W w1) ?_ ((HDR.out W).mono fun e w' h => ⟨_, h.1, rfl, h.2⟩) ?_
        · go_simp
        · rintro v W' ⟨rfl, hb⟩
          exact ⟨_, rfl, rfl, trivial, hg.calls stays_any hb 18 (by decide) (by decide) (by decide) (some 26) (by decide) _⟩
      | 19, ho =>
        cases ho
        have q1 : x.tmps[1]?.getD undef = .int .i64 n := hk.fix 1 (by kernel_rfl)
        refine .inl ⟨wanted_plain rfl, ?_⟩
        refine wp_value (v := .int .i64 n) (w' := W) ?_ ⟨_, rfl, rfl, trivial, hg.quiet 19 (by decide) (by decide) (by decide) (some 27) (by decide) _⟩
        go_simp
      | 20, ho =>
        cases ho
        have q23 : x.tmps[23]?.getD undef = .agg #[.string ⟨#[]⟩, .int .i64 (1 + q0 % 4), .int .i64 pu, .string ⟨#[43, 49, 50, 51, 52, 53, 54, 55, 56]⟩, .int .i64 0, .int .i64 0] := hk.dep 15 23 (by kernel_rfl) (by kernel_rfl)
        have q26 : x.tmps[26]?.getD undef = .string DR := hk.dep 18 26 (by kernel_rfl) (by kernel_rfl)
        have q27 : x.tmps[27]?.getD undef = .int .i64 n := hk.dep 19 27 (by kernel_rfl) (by kernel_rfl)
        refine .inl ⟨wanted_plain rfl, ?_⟩
        refine wp_enter (f := 41) (args := #[.agg #[.string ⟨#[]⟩, .int .i64 (1 + q0 % 4), .int .i64 pu, .string ⟨#[43, 49, 50, 51, 52, 53, 54, 55, 56]⟩, .int .i64 0, .int .i64 0], .string DR, .int .i64 n]) (w' := W) (S := fun v w1 => v = .agg #[.string PLB, .string DG, .int .i64 (1 + q0 % 4), .int .i64 pu, .string ⟨#[43, 49, 50, 51, 52, 53, 54, 55, 56]⟩, .int .i64 ck, .int .i64 tr, .bool true] ∧ Below W.heap.size W w1) ?_ ((HMI.out W).mono fun e w' h => ⟨_, h.1, rfl, h.2⟩) ?_
        · go_simp
        · rintro v W' ⟨rfl, hb⟩
          exact ⟨_, rfl, rfl, trivial, hg.calls stays_any hb 20 (by decide) (by decide) (by decide) (some 28) (by decide) _⟩
      | 21, ho =>
        cases ho
        refine .inl ⟨wanted_plain rfl, ?_⟩
        refine wp_value (run_alloc_op 87 rfl #[.string ⟨#[]⟩, .string ⟨#[]⟩, .int .i64 0, .int .i64 0, .string ⟨#[]⟩, .int .i64 0, .int .i64 0, .bool false] (made_new W)) ⟨_, rfl, .inl trivial, trivial, Gv.made stays_any hg hun (by rw [hs]; decide) (by decide) (by decide) (Nat.lt_of_lt_of_eq (by decide : 6 < 31) (hk.size.trans rfl).symm)⟩
      | 22, ho =>
        cases ho
        have q28 : x.tmps[28]?.getD undef = .agg #[.string PLB, .string DG, .int .i64 (1 + q0 % 4), .int .i64 pu, .string ⟨#[43, 49, 50, 51, 52, 53, 54, 55, 56]⟩, .int .i64 ck, .int .i64 tr, .bool true] := hk.dep 20 28 (by kernel_rfl) (by kernel_rfl)
        refine .inl ⟨wanted_plain rfl, ?_⟩
        have hla := hdep 21 (by kernel_rfl)
        obtain ⟨g, e0, hg1, hg2⟩ := hg.var hla
        have hni : ¬ (listed.getD 22 false = true) := by rw [hun]; decide
        rw [if_neg hni] at hg2
        refine wp_skip (w' := W.setRow g #[.string PLB, .string DG, .int .i64 (1 + q0 % 4), .int .i64 pu, .string ⟨#[43, 49, 50, 51, 52, 53, 54, 55, 56]⟩, .int .i64 ck, .int .i64 tr, .bool true]) ?_ ⟨undef, rfl, rfl, trivial, Gv.stored stays_any (fun _ h => h.elim) hg hla (by rw [hs]; decide) (by decide) (by decide) g hg1 e0 #[.string ⟨#[]⟩, .string ⟨#[]⟩, .int .i64 0, .int .i64 0, .string ⟨#[]⟩, .int .i64 0, .int .i64 0, .bool false] hg2 undef⟩
        exact run_store_op 87 _ _ rfl g #[.string PLB, .string DG, .int .i64 (1 + q0 % 4), .int .i64 pu, .string ⟨#[43, 49, 50, 51, 52, 53, 54, 55, 56]⟩, .int .i64 ck, .int .i64 tr, .bool true] ((eval_slot x 6).trans e0) ((eval_slot x 28).trans q28) 87 #[.string ⟨#[]⟩, .string ⟨#[]⟩, .int .i64 0, .int .i64 0, .string ⟨#[]⟩, .int .i64 0, .int .i64 0, .bool false] hg2 new_size rfl (by simp [Value.oneCell'])
      | _ + 23, ho => cases ho
    intro listed x w4 hall hg hk
    obtain ⟨g6, e6, hg6, hx6⟩ := hg.var (hall 21 (by decide))
    rw [if_pos (hall 22 (by decide))] at hx6
    have e8 : x.tmps[8]?.getD undef = .pointer (some ⟨(w.heap.size), 0, none⟩) := hk.last 0 8 (by decide) (by kernel_rfl)
    have e9 : x.tmps[9]?.getD undef = .int .i64 q0 := hk.last 1 9 (by decide) (by kernel_rfl)
    have e10 : x.tmps[10]?.getD undef = .int .i64 (q0 % 4) := hk.last 2 10 (by decide) (by kernel_rfl)
    have e11 : x.tmps[11]?.getD undef = .int .i64 (1 + q0 % 4) := hk.last 3 11 (by decide) (by kernel_rfl)
    have e12 : x.tmps[12]?.getD undef = .pointer (some ⟨(w.heap.size), 1, none⟩) := hk.last 4 12 (by decide) (by kernel_rfl)
    have e13 : x.tmps[13]?.getD undef = .int .i64 q1 := hk.last 5 13 (by decide) (by kernel_rfl)
    have e14 : x.tmps[14]?.getD undef = .int .i64 (q1.tmod 6) := hk.last 6 14 (by decide) (by kernel_rfl)
    have e15 : x.tmps[15]?.getD undef = .int .i64 (wrap64 (q1.tmod 6 + 6)) := hk.last 7 15 (by decide) (by kernel_rfl)
    have e16 : x.tmps[16]?.getD undef = .int .i64 ((wrap64 (q1.tmod 6 + 6)).tmod 6) := hk.last 8 16 (by decide) (by kernel_rfl)
    have e17 : x.tmps[17]?.getD undef = .int .i64 pu := hk.last 9 17 (by decide) (by kernel_rfl)
    have e18 : x.tmps[18]?.getD undef = .pointer (some ⟨(w.heap.size), 2, none⟩) := hk.last 10 18 (by decide) (by kernel_rfl)
    have e19 : x.tmps[19]?.getD undef = .int .i64 q2 := hk.last 11 19 (by decide) (by kernel_rfl)
    have e20 : x.tmps[20]?.getD undef = .int .i64 1 := hk.last 12 20 (by decide) (by kernel_rfl)
    have e21 : x.tmps[21]?.getD undef = .pointer (some ⟨b2, 1, none⟩) := hk.last 13 21 (by decide) (by kernel_rfl)
    have e22 : x.tmps[22]?.getD undef = .string ⟨#[43, 49, 50, 51, 52, 53, 54, 55, 56]⟩ := hk.last 14 22 (by decide) (by kernel_rfl)
    have e23 : x.tmps[23]?.getD undef = .agg #[.string ⟨#[]⟩, .int .i64 (1 + q0 % 4), .int .i64 pu, .string ⟨#[43, 49, 50, 51, 52, 53, 54, 55, 56]⟩, .int .i64 0, .int .i64 0] := hk.last 15 23 (by decide) (by kernel_rfl)
    have e24 : x.tmps[24]?.getD undef = .pointer (some ⟨(w.heap.size), 3, none⟩) := hk.last 16 24 (by decide) (by kernel_rfl)
    have e25 : x.tmps[25]?.getD undef = .int .i64 q3 := hk.last 17 25 (by decide) (by kernel_rfl)
    have e26 : x.tmps[26]?.getD undef = .string DR := hk.last 18 26 (by decide) (by kernel_rfl)
    have e27 : x.tmps[27]?.getD undef = .int .i64 n := hk.last 19 27 (by decide) (by kernel_rfl)
    have e28 : x.tmps[28]?.getD undef = .agg #[.string PLB, .string DG, .int .i64 (1 + q0 % 4), .int .i64 pu, .string ⟨#[43, 49, 50, 51, 52, 53, 54, 55, 56]⟩, .int .i64 ck, .int .i64 tr, .bool true] := hk.last 20 28 (by decide) (by kernel_rfl)
    have hkp := Lib.hid hg.kept
    have hx := hk.act [8, 9, 10, 11, 12, 13, 14, 15, 16, 17, 18, 19, 20, 21, 22, 23, 24, 25, 26, 27, 28, 6] (by kernel_rfl)
    clear hk hg hall
    simp only [List.foldl_cons, List.foldl_nil, e8, e9, e10, e11, e12, e13, e14, e15, e16, e17, e18, e19, e20, e21, e22, e23, e24, e25, e26, e27, e28, e6] at hx
    clear e8 e9 e10 e11 e12 e13 e14 e15 e16 e17 e18 e19 e20 e21 e22 e23 e24 e25 e26 e27 e28 e6
    subst hx
    simp only [Act.put, List.setIfInBounds_toArray, List.set_cons_succ, List.set_cons_zero]
    have HY4 := Lib.hid (HY2.out.of (hkp.out.block _ HY2.out.lt (fun h => h)))
    have HB4 := Lib.hid (Kept.below HB2.out hkp.out (fun _ h => h.elim) HB2.out.size)
    have c0 : w4.cell? ⟨g6, 1, none⟩ = some (.string DG) := (hx6.cell 1).trans rfl
    have c1 : w4.cell? ⟨g6, 2, none⟩ = some (.int .i64 (1 + q0 % 4)) := (hx6.cell 2).trans rfl
    have c2 : w4.cell? ⟨g6, 3, none⟩ = some (.int .i64 pu) := (hx6.cell 3).trans rfl
    have c3 : w4.cell? ⟨g6, 4, none⟩ = some (.string ⟨#[43, 49, 50, 51, 52, 53, 54, 55, 56]⟩) := (hx6.cell 4).trans rfl
    have c4 : w4.cell? ⟨g6, 5, none⟩ = some (.int .i64 ck) := (hx6.cell 5).trans rfl
    have c5 : w4.cell? ⟨g6, 6, none⟩ = some (.int .i64 tr) := (hx6.cell 6).trans rfl
    have f0 := HY4.out.frozen 0
    have k0 := (HY4.out.cell 0).trans rfl
    have f1 := HY4.out.frozen 1
    have k1 := (HY4.out.cell 1).trans rfl
    have f2 := HY4.out.frozen 2
    have k2 := (HY4.out.cell 2).trans rfl
    have f3 := HY4.out.frozen 3
    have k3 := (HY4.out.cell 3).trans rfl
    have f4 := HY4.out.frozen 4
    have k4 := (HY4.out.cell 4).trans rfl
    have f5 := HY4.out.frozen 5
    have k5 := (HY4.out.cell 5).trans rfl
    go_wp2_with fail
    (try simp only [Exit.inBlock, Exit.then])
    refine bodyPost_ret (results_cell_row (P := Tryz.prog) rfl _ _ b1 26 _ (0, 0) _ rfl (HY4.out.six _ _ _ _ _ _) Tryz.underlying26 rfl sec_size) rfl ?_
    exact ⟨rfl, below_six HB4.out HB6.out _ _ _ _ _ _⟩
end Go.Proofs.YtfjdcopndkdbmaaGreatDoor
