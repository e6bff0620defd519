/-
  Contract of mint.Right: whether a secret may be. Condition: one variable of the library's holds some number; texts of 50000 bytes at most.
-/
import Derived.Test.YtfjdcopndkdbmaaGreatDoorMinV
import Derived.Test.YtfjdcopndkdbmaaGreatDoorMinA
import Derived.Test.YtfjdcopndkdbmaaGreatDoorAdb
import Derived.Test.YtfjdcopndkdbmaaGreatDoorAnyI
namespace Go.Proofs.YtfjdcopndkdbmaaGreatDoor
open Go.RowKit

/-- What each operation of the drawn statement leaves. -/
def Vr1 (b : Nat) (c : ByteArray) : Nat → Value → Prop
  | 0, v => v = .pointer (some ⟨b, 3, none⟩)
  | 1, v => v = .string c
  | 2, v => v = .int .i64 0
  | 3, v => v = .bool false
  | 4, v => v = .bool false
  | 5, v => v = undef
  | 6, v => v = undef
  | 7, v => v = undef
  | 8, v => v = .bool false
  | 9, v => v = .bool false
  | 10, v => v = undef
  | 11, v => v = undef
  | 12, v => v = undef
  | 13, v => v = .bool false
  | 14, v => v = .bool false
  | 15, v => v = undef
  | 16, v => v = undef
  | 17, v => v = undef
  | 18, v => v = undef
  | 19, v => v = undef
  | 20, v => v = undef
  | 21, v => v = .bool false
  | 22, v => v = .bool false
  | _, _ => True
/-- What each operation of the drawn statement leaves. -/
def Vr2 (b : Nat) (c : ByteArray) (kd : Nat) (e0 : Int) : Nat → Value → Prop
  | 0, v => v = .pointer (some ⟨b, 3, none⟩)
  | 1, v => v = .string c
  | 2, v => v = .int .i64 kd
  | 3, v => v = .bool true
  | 4, v => v = .bool true
  | 5, v => v = .pointer (some ⟨b, 4, none⟩)
  | 6, v => v = .int .i64 e0
  | 7, v => v = .bool false
  | 8, v => v = .bool false
  | 9, v => v = .bool false
  | 10, v => v = undef
  | 11, v => v = undef
  | 12, v => v = undef
  | 13, v => v = .bool false
  | 14, v => v = .bool false
  | 15, v => v = undef
  | 16, v => v = undef
  | 17, v => v = undef
  | 18, v => v = undef
  | 19, v => v = undef
  | 20, v => v = undef
  | 21, v => v = .bool false
  | 22, v => v = .bool false
  | _, _ => True
/-- What each operation of the drawn statement leaves. -/
def Vr4 (b : Nat) (c : ByteArray) (p : Int) (kd : Nat) (e0 : Int) (t0 : Int) (tr : Int) (b4 : Bool) : Nat → Value → Prop
  | 0, v => v = .pointer (some ⟨b, 3, none⟩)
  | 1, v => v = .string c
  | 2, v => v = .int .i64 kd
  | 3, v => v = .bool true
  | 4, v => v = .bool true
  | 5, v => v = .pointer (some ⟨b, 4, none⟩)
  | 6, v => v = .int .i64 e0
  | 7, v => v = .bool true
  | 8, v => v = .bool true
  | 9, v => v = .bool true
  | 10, v => v = .pointer (some ⟨b, 5, none⟩)
  | 11, v => v = .int .i64 t0
  | 12, v => v = .bool true
  | 13, v => v = .bool true
  | 14, v => v = .bool true
  | 15, v => v = .pointer (some ⟨b, 5, none⟩)
  | 16, v => v = .int .i64 t0
  | 17, v => v = .pointer (some ⟨b, 2, none⟩)
  | 18, v => v = .int .i64 p
  | 19, v => v = .int .i64 tr
  | 20, v => v = .bool b4
  | 21, v => v = .bool b4
  | 22, v => v = .bool b4
  | _, _ => True
/-- What each operation of the drawn statement leaves. -/
def Vr3 (b : Nat) (c : ByteArray) (kd : Nat) (e0 : Int) (t0 : Int) : Nat → Value → Prop
  | 0, v => v = .pointer (some ⟨b, 3, none⟩)
  | 1, v => v = .string c
  | 2, v => v = .int .i64 kd
  | 3, v => v = .bool true
  | 4, v => v = .bool true
  | 5, v => v = .pointer (some ⟨b, 4, none⟩)
  | 6, v => v = .int .i64 e0
  | 7, v => v = .bool true
  | 8, v => v = .bool true
  | 9, v => v = .bool true
  | 10, v => v = .pointer (some ⟨b, 5, none⟩)
  | 11, v => v = .int .i64 t0
  | 12, v => v = .bool false
  | 13, v => v = .bool false
  | 14, v => v = .bool false
  | 15, v => v = undef
  | 16, v => v = undef
  | 17, v => v = undef
  | 18, v => v = undef
  | 19, v => v = undef
  | 20, v => v = undef
  | 21, v => v = .bool false
  | 22, v => v = .bool false
  | _, _ => True
set_option maxRecDepth 100000 in
set_option maxHeartbeats 4000000 in
theorem right_any (D : ByteArray) (a p : Int) (c : ByteArray) (e0 t0 : Int) (hc : c.size ≤ 50000) (w : World) (hm : MaxIs w) :
    Calls Tryz.prog 35 #[.agg (secV D a p c e0 t0)] w fun e w' => e = .returned (.bool (rightB D a p c e0 t0)) ∧ Below w.heap.size w w' := by
  unfold rightB secV
  have HA := Lib.hid (fun W => isaccount_any a W)
  have HP := Lib.hid (fun W => ispurpose_any p W)
  have HK := Lib.hid (fun W h => kind_any c (by omega) W h)
  have HT := Lib.hid (fun W => istime_any e0 W)
  have HTR := Lib.hid (fun W => tries_any p W)
  generalize Mi.tries p = tr at HTR ⊢
  generalize Ad.kind c.data.toList = kd at HK ⊢
  generalize decide (1 ≤ a ∧ a ≤ 99) = b1 at HA ⊢
  generalize decide (1 ≤ p ∧ p ≤ 6) = b2 at HP ⊢
  generalize decide (0 ≤ e0 ∧ e0 ≤ 1099511627776) = b3 at HT ⊢
  obtain ⟨RB, hRB⟩ : ∃ RB, (decide (D.size = 32) && b1 && b2 && !(kd == 0) && b3 && decide (1 ≤ t0 ∧ t0 ≤ tr)) = RB := ⟨_, rfl⟩
  rw [hRB]
  have HRB := Lib.hid hRB
  clear hRB
  by_cases h32 : D.size = 32
  · have hdi : (D.size : Int) = 32 := by omega
    have hbi : ((D.size : Int) != 32) = false := by simpa using hdi
    rw [decide_eq_true h32] at HRB
    go_enter Tryz.func35, Tryz.ntmps35
    go_wp2_with fail
    refine (HA.out _).mono ?_
    rintro e wq ⟨rfl, rfl⟩
    cases b1 with
    | false =>
      go_wp2_with fail
      go_ret
      exact ⟨by rw [← HRB.out]; rfl, (Below.refl _ w).alloc (Nat.le_refl _) _⟩
    | true =>
      go_wp2_with fail
      refine (HP.out _).mono ?_
      rintro e w2 ⟨rfl, hb⟩
      have HX := Lib.hid ((Blk.new w 26 #[.string D, .int .i64 a, .int .i64 p, .string c, .int .i64 e0, .int .i64 t0]).of (hb.block _ (by simp)))
      have HB2 := Lib.hid (((Below.refl _ w).alloc (Nat.le_refl _) (.cells #[.string D, .int .i64 a, .int .i64 p, .string c, .int .i64 e0, .int .i64 t0] 26)).trans (hb.mono (by simp)))
      have HM := Lib.hid (hm.below HB2.out)
      clear hb HA HP hm
      cases b2 with
      | false =>
        go_wp2_with fail
        go_ret
        exact ⟨by rw [← HRB.out]; rfl, HB2.out⟩
      | true =>
        go_wp2_with fail
        generalize hbw : w.heap.size = b at *
        by_cases hk : kd = 0
        · subst hk
          refine wp_region_some (by kernel_rfl) (fun i v _ => Vr1 b c i v) (fun _ _ W => Gc w2 W) (fun w w' => Below w.heap.size w w') (by kernel_rfl) (by kernel_rfl) 41 rfl (by kernel_rfl) (fun _ _ _ _ h _ => by exact h) (fun _ => (Below.refl _ _)) (Gc.start w2) ?_ ?_
          · intro i o ho listed x W hs hdep hun hg hk
            match i, ho with
            | 0, ho =>
              cases ho
              have q1 : x.tmps[1]?.getD undef = .pointer (some ⟨b, 0, none⟩) := hk.fix 1 (by kernel_rfl)
              refine .inl ⟨wanted_plain rfl, ?_⟩
              refine wp_value (v := .pointer (some ⟨b, 3, none⟩)) (w' := W) ?_ ⟨_, rfl, rfl, (Below.refl _ _), hg⟩
              go_simp
            | 1, ho =>
              cases ho
              have q19 : x.tmps[19]?.getD undef = .pointer (some ⟨b, 3, none⟩) := hk.dep 0 19 (by kernel_rfl) (by kernel_rfl)
              refine .inl ⟨wanted_plain rfl, ?_⟩
              have cf : W.cell? ⟨b, 3, none⟩ = some (.string c) := ((HX.out.of (hg.below.block _ HX.out.lt)).cell 3).trans rfl
              refine wp_value (v := .string c) (w' := W) ?_ ⟨_, rfl, rfl, (Below.refl _ _), hg⟩
              go_simp
            | 2, ho =>
              cases ho
              have q20 : x.tmps[20]?.getD undef = .string c := hk.dep 1 20 (by kernel_rfl) (by kernel_rfl)
              refine .inl ⟨wanted_plain rfl, ?_⟩
              refine wp_enter (f := 59) (args := #[.string c]) (w' := W) (S := fun v w1 => v = .int .i64 0 ∧ Below W.heap.size W w1) ?_ ((HK.out W (HM.out.below hg.below)).mono fun e w' h => ⟨_, h.1, rfl, h.2⟩) ?_
              · go_simp
              · rintro v W' ⟨rfl, hb⟩
                exact ⟨_, rfl, rfl, hb, hg.calls hb⟩
            | 3, ho =>
              cases ho
              have q21 : x.tmps[21]?.getD undef = .int .i64 0 := hk.dep 2 21 (by kernel_rfl) (by kernel_rfl)
              refine .inl ⟨wanted_plain rfl, ?_⟩
              refine wp_value (v := .bool false) (w' := W) ?_ ⟨_, rfl, rfl, (Below.refl _ _), hg⟩
              go_simp
            | 4, ho =>
              cases ho
              have q22 : x.tmps[22]?.getD undef = .bool false := hk.dep 3 22 (by kernel_rfl) (by kernel_rfl)
              refine .inl ⟨wanted_plain rfl, ?_⟩
              refine wp_value (v := .bool false) (w' := W) ?_ ⟨_, rfl, rfl, (Below.refl _ _), hg⟩
              go_simp
            | 5, ho =>
              cases ho
              refine .inr ⟨wanted_no (g := 4) (d := 23) (c := false) (by rfl) (by kernel_rfl) (show x.tmps[23]?.getD undef = .bool false from hk.dep 4 23 (by kernel_rfl) (by kernel_rfl)) (by decide), rfl, hg⟩
            | 6, ho =>
              cases ho
              refine .inr ⟨wanted_no (g := 4) (d := 23) (c := false) (by rfl) (by kernel_rfl) (show x.tmps[23]?.getD undef = .bool false from hk.dep 4 23 (by kernel_rfl) (by kernel_rfl)) (by decide), rfl, hg⟩
            | 7, ho =>
              cases ho
              refine .inr ⟨wanted_no (g := 4) (d := 23) (c := false) (by rfl) (by kernel_rfl) (show x.tmps[23]?.getD undef = .bool false from hk.dep 4 23 (by kernel_rfl) (by kernel_rfl)) (by decide), rfl, hg⟩
            | 8, ho =>
              cases ho
              have q23 : x.tmps[23]?.getD undef = .bool false := hk.dep 4 23 (by kernel_rfl) (by kernel_rfl)
              have q26 : x.tmps[26]?.getD undef = undef := hk.dep 7 26 (by kernel_rfl) (by kernel_rfl)
              refine .inl ⟨wanted_plain rfl, ?_⟩
              refine wp_value (v := .bool false) (w' := W) ?_ ⟨_, rfl, rfl, (Below.refl _ _), hg⟩
              go_simp
            | 9, ho =>
              cases ho
              have q27 : x.tmps[27]?.getD undef = .bool false := hk.dep 8 27 (by kernel_rfl) (by kernel_rfl)
              refine .inl ⟨wanted_plain rfl, ?_⟩
              refine wp_value (v := .bool false) (w' := W) ?_ ⟨_, rfl, rfl, (Below.refl _ _), hg⟩
              go_simp
            | 10, ho =>
              cases ho
              refine .inr ⟨wanted_no (g := 9) (d := 28) (c := false) (by rfl) (by kernel_rfl) (show x.tmps[28]?.getD undef = .bool false from hk.dep 9 28 (by kernel_rfl) (by kernel_rfl)) (by decide), rfl, hg⟩
            | 11, ho =>
              cases ho
              refine .inr ⟨wanted_no (g := 9) (d := 28) (c := false) (by rfl) (by kernel_rfl) (show x.tmps[28]?.getD undef = .bool false from hk.dep 9 28 (by kernel_rfl) (by kernel_rfl)) (by decide), rfl, hg⟩
            | 12, ho =>
              cases ho
              refine .inr ⟨wanted_no (g := 9) (d := 28) (c := false) (by rfl) (by kernel_rfl) (show x.tmps[28]?.getD undef = .bool false from hk.dep 9 28 (by kernel_rfl) (by kernel_rfl)) (by decide), rfl, hg⟩
            | 13, ho =>
              cases ho
              have q28 : x.tmps[28]?.getD undef = .bool false := hk.dep 9 28 (by kernel_rfl) (by kernel_rfl)
              have q31 : x.tmps[31]?.getD undef = undef := hk.dep 12 31 (by kernel_rfl) (by kernel_rfl)
              refine .inl ⟨wanted_plain rfl, ?_⟩
              refine wp_value (v := .bool false) (w' := W) ?_ ⟨_, rfl, rfl, (Below.refl _ _), hg⟩
              go_simp
            | 14, ho =>
              cases ho
              have q32 : x.tmps[32]?.getD undef = .bool false := hk.dep 13 32 (by kernel_rfl) (by kernel_rfl)
              refine .inl ⟨wanted_plain rfl, ?_⟩
              refine wp_value (v := .bool false) (w' := W) ?_ ⟨_, rfl, rfl, (Below.refl _ _), hg⟩
              go_simp
            | 15, ho =>
              cases ho
              refine .inr ⟨wanted_no (g := 14) (d := 33) (c := false) (by rfl) (by kernel_rfl) (show x.tmps[33]?.getD undef = .bool false from hk.dep 14 33 (by kernel_rfl) (by kernel_rfl)) (by decide), rfl, hg⟩
            | 16, ho =>
              cases ho
              refine .inr ⟨wanted_no (g := 14) (d := 33) (c := false) (by rfl) (by kernel_rfl) (show x.tmps[33]?.getD undef = .bool false from hk.dep 14 33 (by kernel_rfl) (by kernel_rfl)) (by decide), rfl, hg⟩
            | 17, ho =>
              cases ho
              refine .inr ⟨wanted_no (g := 14) (d := 33) (c := false) (by rfl) (by kernel_rfl) (show x.tmps[33]?.getD undef = .bool false from hk.dep 14 33 (by kernel_rfl) (by kernel_rfl)) (by decide), rfl, hg⟩
            | 18, ho =>
              cases ho
              refine .inr ⟨wanted_no (g := 14) (d := 33) (c := false) (by rfl) (by kernel_rfl) (show x.tmps[33]?.getD undef = .bool false from hk.dep 14 33 (by kernel_rfl) (by kernel_rfl)) (by decide), rfl, hg⟩
            | 19, ho =>
              cases ho
              refine .inr ⟨wanted_no (g := 14) (d := 33) (c := false) (by rfl) (by kernel_rfl) (show x.tmps[33]?.getD undef = .bool false from hk.dep 14 33 (by kernel_rfl) (by kernel_rfl)) (by decide), rfl, hg⟩
            | 20, ho =>
              cases ho
              refine .inr ⟨wanted_no (g := 14) (d := 33) (c := false) (by rfl) (by kernel_rfl) (show x.tmps[33]?.getD undef = .bool false from hk.dep 14 33 (by kernel_rfl) (by kernel_rfl)) (by decide), rfl, hg⟩
            | 21, ho =>
              cases ho
              have q33 : x.tmps[33]?.getD undef = .bool false := hk.dep 14 33 (by kernel_rfl) (by kernel_rfl)
              have q39 : x.tmps[39]?.getD undef = undef := hk.dep 20 39 (by kernel_rfl) (by kernel_rfl)
              refine .inl ⟨wanted_plain rfl, ?_⟩
              refine wp_value (v := .bool false) (w' := W) ?_ ⟨_, rfl, rfl, (Below.refl _ _), hg⟩
              go_simp
            | 22, ho =>
              cases ho
              have q40 : x.tmps[40]?.getD undef = .bool false := hk.dep 21 40 (by kernel_rfl) (by kernel_rfl)
              refine .inl ⟨wanted_plain rfl, ?_⟩
              refine wp_value (v := .bool false) (w' := W) ?_ ⟨_, rfl, rfl, (Below.refl _ _), hg⟩
              go_simp
            | _ + 23, ho => cases ho
          intro listed x w3 hall hg hk
          have e19 : x.tmps[19]?.getD undef = .pointer (some ⟨b, 3, none⟩) := hk.last 0 19 (by decide) (by kernel_rfl)
          have e20 : x.tmps[20]?.getD undef = .string c := hk.last 1 20 (by decide) (by kernel_rfl)
          have e21 : x.tmps[21]?.getD undef = .int .i64 0 := hk.last 2 21 (by decide) (by kernel_rfl)
          have e22 : x.tmps[22]?.getD undef = .bool false := hk.last 3 22 (by decide) (by kernel_rfl)
          have e23 : x.tmps[23]?.getD undef = .bool false := hk.last 4 23 (by decide) (by kernel_rfl)
          have e24 : x.tmps[24]?.getD undef = undef := hk.last 5 24 (by decide) (by kernel_rfl)
          have e25 : x.tmps[25]?.getD undef = undef := hk.last 6 25 (by decide) (by kernel_rfl)
          have e26 : x.tmps[26]?.getD undef = undef := hk.last 7 26 (by decide) (by kernel_rfl)
          have e27 : x.tmps[27]?.getD undef = .bool false := hk.last 8 27 (by decide) (by kernel_rfl)
          have e28 : x.tmps[28]?.getD undef = .bool false := hk.last 9 28 (by decide) (by kernel_rfl)
          have e29 : x.tmps[29]?.getD undef = undef := hk.last 10 29 (by decide) (by kernel_rfl)
          have e30 : x.tmps[30]?.getD undef = undef := hk.last 11 30 (by decide) (by kernel_rfl)
          have e31 : x.tmps[31]?.getD undef = undef := hk.last 12 31 (by decide) (by kernel_rfl)
          have e32 : x.tmps[32]?.getD undef = .bool false := hk.last 13 32 (by decide) (by kernel_rfl)
          have e33 : x.tmps[33]?.getD undef = .bool false := hk.last 14 33 (by decide) (by kernel_rfl)
          have e34 : x.tmps[34]?.getD undef = undef := hk.last 15 34 (by decide) (by kernel_rfl)
          have e35 : x.tmps[35]?.getD undef = undef := hk.last 16 35 (by decide) (by kernel_rfl)
          have e36 : x.tmps[36]?.getD undef = undef := hk.last 17 36 (by decide) (by kernel_rfl)
          have e37 : x.tmps[37]?.getD undef = undef := hk.last 18 37 (by decide) (by kernel_rfl)
          have e38 : x.tmps[38]?.getD undef = undef := hk.last 19 38 (by decide) (by kernel_rfl)
          have e39 : x.tmps[39]?.getD undef = undef := hk.last 20 39 (by decide) (by kernel_rfl)
          have e40 : x.tmps[40]?.getD undef = .bool false := hk.last 21 40 (by decide) (by kernel_rfl)
          have e2 : x.tmps[2]?.getD undef = .bool false := hk.last 22 2 (by decide) (by kernel_rfl)
          have hB := Lib.hid hg.below
          have hx := hk.act [19, 20, 21, 22, 23, 24, 25, 26, 27, 28, 29, 30, 31, 32, 33, 34, 35, 36, 37, 38, 39, 40, 2] (by kernel_rfl)
          clear hk hg hall
          simp only [List.foldl_cons, List.foldl_nil, e19, e20, e21, e22, e23, e24, e25, e26, e27, e28, e29, e30, e31, e32, e33, e34, e35, e36, e37, e38, e39, e40, e2] at hx
          clear e19 e20 e21 e22 e23 e24 e25 e26 e27 e28 e29 e30 e31 e32 e33 e34 e35 e36 e37 e38 e39 e40 e2
          subst hx
          simp only [Act.put, List.setIfInBounds_toArray, List.set_cons_succ, List.set_cons_zero]
          go_wp2_with fail
          go_ret
          exact ⟨by rw [← HRB.out]; rfl, (by first | exact HB2.out.trans (hB.out.mono (by have h := HB2.out.size; omega)) | (rw [hbw]; exact HB2.out.trans (hB.out.mono (by have h := HB2.out.size; omega))))⟩
        · have hkb : (kd == 0) = false := by simpa using hk
          have hkn : ((kd : Int) != 0) = true := by simpa using hk
          cases b3 with
          | false =>
            refine wp_region_some (by kernel_rfl) (fun i v _ => Vr2 b c kd e0 i v) (fun _ _ W => Gc w2 W) (fun w w' => Below w.heap.size w w') (by kernel_rfl) (by kernel_rfl) 41 rfl (by kernel_rfl) (fun _ _ _ _ h _ => by exact h) (fun _ => (Below.refl _ _)) (Gc.start w2) ?_ ?_
            · intro i o ho listed x W hs hdep hun hg hk
              match i, ho with
              | 0, ho =>
                cases ho
                have q1 : x.tmps[1]?.getD undef = .pointer (some ⟨b, 0, none⟩) := hk.fix 1 (by kernel_rfl)
                refine .inl ⟨wanted_plain rfl, ?_⟩
                refine wp_value (v := .pointer (some ⟨b, 3, none⟩)) (w' := W) ?_ ⟨_, rfl, rfl, (Below.refl _ _), hg⟩
                go_simp
              | 1, ho =>
                cases ho
                have q19 : x.tmps[19]?.getD undef = .pointer (some ⟨b, 3, none⟩) := hk.dep 0 19 (by kernel_rfl) (by kernel_rfl)
                refine .inl ⟨wanted_plain rfl, ?_⟩
                have cf : W.cell? ⟨b, 3, none⟩ = some (.string c) := ((HX.out.of (hg.below.block _ HX.out.lt)).cell 3).trans rfl
                refine wp_value (v := .string c) (w' := W) ?_ ⟨_, rfl, rfl, (Below.refl _ _), hg⟩
                go_simp
              | 2, ho =>
                cases ho
                have q20 : x.tmps[20]?.getD undef = .string c := hk.dep 1 20 (by kernel_rfl) (by kernel_rfl)
                refine .inl ⟨wanted_plain rfl, ?_⟩
                refine wp_enter (f := 59) (args := #[.string c]) (w' := W) (S := fun v w1 => v = .int .i64 kd ∧ Below W.heap.size W w1) ?_ ((HK.out W (HM.out.below hg.below)).mono fun e w' h => ⟨_, h.1, rfl, h.2⟩) ?_
                · go_simp
                · rintro v W' ⟨rfl, hb⟩
                  exact ⟨_, rfl, rfl, hb, hg.calls hb⟩
              | 3, ho =>
                cases ho
                have q21 : x.tmps[21]?.getD undef = .int .i64 kd := hk.dep 2 21 (by kernel_rfl) (by kernel_rfl)
                refine .inl ⟨wanted_plain rfl, ?_⟩
                refine wp_value (v := .bool true) (w' := W) ?_ ⟨_, rfl, rfl, (Below.refl _ _), hg⟩
                go_simp
              | 4, ho =>
                cases ho
                have q22 : x.tmps[22]?.getD undef = .bool true := hk.dep 3 22 (by kernel_rfl) (by kernel_rfl)
                refine .inl ⟨wanted_plain rfl, ?_⟩
                refine wp_value (v := .bool true) (w' := W) ?_ ⟨_, rfl, rfl, (Below.refl _ _), hg⟩
                go_simp
              | 5, ho =>
                cases ho
                have q1 : x.tmps[1]?.getD undef = .pointer (some ⟨b, 0, none⟩) := hk.fix 1 (by kernel_rfl)
                refine .inl ⟨wanted_guard (g := 4) (d := 23) (by rfl) (by kernel_rfl) (show x.tmps[23]?.getD undef = .bool true from hk.dep 4 23 (by kernel_rfl) (by kernel_rfl)), ?_⟩
                refine wp_value (v := .pointer (some ⟨b, 4, none⟩)) (w' := W) ?_ ⟨_, rfl, rfl, (Below.refl _ _), hg⟩
                go_simp
              | 6, ho =>
                cases ho
                have q24 : x.tmps[24]?.getD undef = .pointer (some ⟨b, 4, none⟩) := hk.dep 5 24 (by kernel_rfl) (by kernel_rfl)
                refine .inl ⟨wanted_guard (g := 4) (d := 23) (by rfl) (by kernel_rfl) (show x.tmps[23]?.getD undef = .bool true from hk.dep 4 23 (by kernel_rfl) (by kernel_rfl)), ?_⟩
                have cf : W.cell? ⟨b, 4, none⟩ = some (.int .i64 e0) := ((HX.out.of (hg.below.block _ HX.out.lt)).cell 4).trans rfl
                refine wp_value (v := .int .i64 e0) (w' := W) ?_ ⟨_, rfl, rfl, (Below.refl _ _), hg⟩
                go_simp
              | 7, ho =>
                cases ho
                have q25 : x.tmps[25]?.getD undef = .int .i64 e0 := hk.dep 6 25 (by kernel_rfl) (by kernel_rfl)
                refine .inl ⟨wanted_guard (g := 4) (d := 23) (by rfl) (by kernel_rfl) (show x.tmps[23]?.getD undef = .bool true from hk.dep 4 23 (by kernel_rfl) (by kernel_rfl)), ?_⟩
                refine wp_enter (f := 60) (args := #[.int .i64 e0]) (w' := W) (S := fun v w1 => v = .bool false ∧ Below W.heap.size W w1) ?_ ((HT.out W).mono fun e w' h => ⟨_, h.1, rfl, by rw [← h.2]; exact Below.refl _ _⟩) ?_
                · go_simp
                · rintro v W' ⟨rfl, hb⟩
                  exact ⟨_, rfl, rfl, hb, hg.calls hb⟩
              | 8, ho =>
                cases ho
                have q23 : x.tmps[23]?.getD undef = .bool true := hk.dep 4 23 (by kernel_rfl) (by kernel_rfl)
                have q26 : x.tmps[26]?.getD undef = .bool false := hk.dep 7 26 (by kernel_rfl) (by kernel_rfl)
                refine .inl ⟨wanted_plain rfl, ?_⟩
                refine wp_value (v := .bool false) (w' := W) ?_ ⟨_, rfl, rfl, (Below.refl _ _), hg⟩
                go_simp
              | 9, ho =>
                cases ho
                have q27 : x.tmps[27]?.getD undef = .bool false := hk.dep 8 27 (by kernel_rfl) (by kernel_rfl)
                refine .inl ⟨wanted_plain rfl, ?_⟩
                refine wp_value (v := .bool false) (w' := W) ?_ ⟨_, rfl, rfl, (Below.refl _ _), hg⟩
                go_simp
              | 10, ho =>
                cases ho
                refine .inr ⟨wanted_no (g := 9) (d := 28) (c := false) (by rfl) (by kernel_rfl) (show x.tmps[28]?.getD undef = .bool false from hk.dep 9 28 (by kernel_rfl) (by kernel_rfl)) (by decide), rfl, hg⟩
              | 11, ho =>
                cases ho
                refine .inr ⟨wanted_no (g := 9) (d := 28) (c := false) (by rfl) (by kernel_rfl) (show x.tmps[28]?.getD undef = .bool false from hk.dep 9 28 (by kernel_rfl) (by kernel_rfl)) (by decide), rfl, hg⟩
              | 12, ho =>
                cases ho
                refine .inr ⟨wanted_no (g := 9) (d := 28) (c := false) (by rfl) (by kernel_rfl) (show x.tmps[28]?.getD undef = .bool false from hk.dep 9 28 (by kernel_rfl) (by kernel_rfl)) (by decide), rfl, hg⟩
              | 13, ho =>
                cases ho
                have q28 : x.tmps[28]?.getD undef = .bool false := hk.dep 9 28 (by kernel_rfl) (by kernel_rfl)
                have q31 : x.tmps[31]?.getD undef = undef := hk.dep 12 31 (by kernel_rfl) (by kernel_rfl)
                refine .inl ⟨wanted_plain rfl, ?_⟩
                refine wp_value (v := .bool false) (w' := W) ?_ ⟨_, rfl, rfl, (Below.refl _ _), hg⟩
                go_simp
              | 14, ho =>
                cases ho
                have q32 : x.tmps[32]?.getD undef = .bool false := hk.dep 13 32 (by kernel_rfl) (by kernel_rfl)
                refine .inl ⟨wanted_plain rfl, ?_⟩
                refine wp_value (v := .bool false) (w' := W) ?_ ⟨_, rfl, rfl, (Below.refl _ _), hg⟩
                go_simp
              | 15, ho =>
                cases ho
                refine .inr ⟨wanted_no (g := 14) (d := 33) (c := false) (by rfl) (by kernel_rfl) (show x.tmps[33]?.getD undef = .bool false from hk.dep 14 33 (by kernel_rfl) (by kernel_rfl)) (by decide), rfl, hg⟩
              | 16, ho =>
                cases ho
                refine .inr ⟨wanted_no (g := 14) (d := 33) (c := false) (by rfl) (by kernel_rfl) (show x.tmps[33]?.getD undef = .bool false from hk.dep 14 33 (by kernel_rfl) (by kernel_rfl)) (by decide), rfl, hg⟩
              | 17, ho =>
                cases ho
                refine .inr ⟨wanted_no (g := 14) (d := 33) (c := false) (by rfl) (by kernel_rfl) (show x.tmps[33]?.getD undef = .bool false from hk.dep 14 33 (by kernel_rfl) (by kernel_rfl)) (by decide), rfl, hg⟩
              | 18, ho =>
                cases ho
                refine .inr ⟨wanted_no (g := 14) (d := 33) (c := false) (by rfl) (by kernel_rfl) (show x.tmps[33]?.getD undef = .bool false from hk.dep 14 33 (by kernel_rfl) (by kernel_rfl)) (by decide), rfl, hg⟩
              | 19, ho =>
                cases ho
                refine .inr ⟨wanted_no (g := 14) (d := 33) (c := false) (by rfl) (by kernel_rfl) (show x.tmps[33]?.getD undef = .bool false from hk.dep 14 33 (by kernel_rfl) (by kernel_rfl)) (by decide), rfl, hg⟩
              | 20, ho =>
                cases ho
                refine .inr ⟨wanted_no (g := 14) (d := 33) (c := false) (by rfl) (by kernel_rfl) (show x.tmps[33]?.getD undef = .bool false from hk.dep 14 33 (by kernel_rfl) (by kernel_rfl)) (by decide), rfl, hg⟩
              | 21, ho =>
                cases ho
                have q33 : x.tmps[33]?.getD undef = .bool false := hk.dep 14 33 (by kernel_rfl) (by kernel_rfl)
                have q39 : x.tmps[39]?.getD undef = undef := hk.dep 20 39 (by kernel_rfl) (by kernel_rfl)
                refine .inl ⟨wanted_plain rfl, ?_⟩
                refine wp_value (v := .bool false) (w' := W) ?_ ⟨_, rfl, rfl, (Below.refl _ _), hg⟩
                go_simp
              | 22, ho =>
                cases ho
                have q40 : x.tmps[40]?.getD undef = .bool false := hk.dep 21 40 (by kernel_rfl) (by kernel_rfl)
                refine .inl ⟨wanted_plain rfl, ?_⟩
                refine wp_value (v := .bool false) (w' := W) ?_ ⟨_, rfl, rfl, (Below.refl _ _), hg⟩
                go_simp
              | _ + 23, ho => cases ho
            intro listed x w3 hall hg hk
            have e19 : x.tmps[19]?.getD undef = .pointer (some ⟨b, 3, none⟩) := hk.last 0 19 (by decide) (by kernel_rfl)
            have e20 : x.tmps[20]?.getD undef = .string c := hk.last 1 20 (by decide) (by kernel_rfl)
            have e21 : x.tmps[21]?.getD undef = .int .i64 kd := hk.last 2 21 (by decide) (by kernel_rfl)
            have e22 : x.tmps[22]?.getD undef = .bool true := hk.last 3 22 (by decide) (by kernel_rfl)
            have e23 : x.tmps[23]?.getD undef = .bool true := hk.last 4 23 (by decide) (by kernel_rfl)
            have e24 : x.tmps[24]?.getD undef = .pointer (some ⟨b, 4, none⟩) := hk.last 5 24 (by decide) (by kernel_rfl)
            have e25 : x.tmps[25]?.getD undef = .int .i64 e0 := hk.last 6 25 (by decide) (by kernel_rfl)
            have e26 : x.tmps[26]?.getD undef = .bool false := hk.last 7 26 (by decide) (by kernel_rfl)
            have e27 : x.tmps[27]?.getD undef = .bool false := hk.last 8 27 (by decide) (by kernel_rfl)
            have e28 : x.tmps[28]?.getD undef = .bool false := hk.last 9 28 (by decide) (by kernel_rfl)
            have e29 : x.tmps[29]?.getD undef = undef := hk.last 10 29 (by decide) (by kernel_rfl)
            have e30 : x.tmps[30]?.getD undef = undef := hk.last 11 30 (by decide) (by kernel_rfl)
            have e31 : x.tmps[31]?.getD undef = undef := hk.last 12 31 (by decide) (by kernel_rfl)
            have e32 : x.tmps[32]?.getD undef = .bool false := hk.last 13 32 (by decide) (by kernel_rfl)
            have e33 : x.tmps[33]?.getD undef = .bool false := hk.last 14 33 (by decide) (by kernel_rfl)
            have e34 : x.tmps[34]?.getD undef = undef := hk.last 15 34 (by decide) (by kernel_rfl)
            have e35 : x.tmps[35]?.getD undef = undef := hk.last 16 35 (by decide) (by kernel_rfl)
            have e36 : x.tmps[36]?.getD undef = undef := hk.last 17 36 (by decide) (by kernel_rfl)
            have e37 : x.tmps[37]?.getD undef = undef := hk.last 18 37 (by decide) (by kernel_rfl)
            have e38 : x.tmps[38]?.getD undef = undef := hk.last 19 38 (by decide) (by kernel_rfl)
            have e39 : x.tmps[39]?.getD undef = undef := hk.last 20 39 (by decide) (by kernel_rfl)
            have e40 : x.tmps[40]?.getD undef = .bool false := hk.last 21 40 (by decide) (by kernel_rfl)
            have e2 : x.tmps[2]?.getD undef = .bool false := hk.last 22 2 (by decide) (by kernel_rfl)
            have hB := Lib.hid hg.below
            have hx := hk.act [19, 20, 21, 22, 23, 24, 25, 26, 27, 28, 29, 30, 31, 32, 33, 34, 35, 36, 37, 38, 39, 40, 2] (by kernel_rfl)
            clear hk hg hall
            simp only [List.foldl_cons, List.foldl_nil, e19, e20, e21, e22, e23, e24, e25, e26, e27, e28, e29, e30, e31, e32, e33, e34, e35, e36, e37, e38, e39, e40, e2] at hx
            clear e19 e20 e21 e22 e23 e24 e25 e26 e27 e28 e29 e30 e31 e32 e33 e34 e35 e36 e37 e38 e39 e40 e2
            subst hx
            simp only [Act.put, List.setIfInBounds_toArray, List.set_cons_succ, List.set_cons_zero]
            go_wp2_with fail
            go_ret
            exact ⟨by rw [← HRB.out]; rw [hkb]; rfl, (by first | exact HB2.out.trans (hB.out.mono (by have h := HB2.out.size; omega)) | (rw [hbw]; exact HB2.out.trans (hB.out.mono (by have h := HB2.out.size; omega))))⟩
          | true =>
            by_cases h1 : 1 ≤ t0
            · obtain ⟨b4, hb4⟩ : ∃ b4, decide (t0 ≤ tr) = b4 := ⟨_, rfl⟩
              have hs : decide (1 ≤ t0 ∧ t0 ≤ tr) = b4 := by rw [← hb4]; simp [h1]
              have hd1 : decide (1 ≤ t0) = true := decide_eq_true h1
              refine wp_region_some (by kernel_rfl) (fun i v _ => Vr4 b c p kd e0 t0 tr b4 i v) (fun _ _ W => Gc w2 W) (fun w w' => Below w.heap.size w w') (by kernel_rfl) (by kernel_rfl) 41 rfl (by kernel_rfl) (fun _ _ _ _ h _ => by exact h) (fun _ => (Below.refl _ _)) (Gc.start w2) ?_ ?_
              · intro i o ho listed x W hs hdep hun hg hk
                match i, ho with
                | 0, ho =>
                  cases ho
                  have q1 : x.tmps[1]?.getD undef = .pointer (some ⟨b, 0, none⟩) := hk.fix 1 (by kernel_rfl)
                  refine .inl ⟨wanted_plain rfl, ?_⟩
                  refine wp_value (v := .pointer (some ⟨b, 3, none⟩)) (w' := W) ?_ ⟨_, rfl, rfl, (Below.refl _ _), hg⟩
                  go_simp
                | 1, ho =>
                  cases ho
                  have q19 : x.tmps[19]?.getD undef = .pointer (some ⟨b, 3, none⟩) := hk.dep 0 19 (by kernel_rfl) (by kernel_rfl)
                  refine .inl ⟨wanted_plain rfl, ?_⟩
                  have cf : W.cell? ⟨b, 3, none⟩ = some (.string c) := ((HX.out.of (hg.below.block _ HX.out.lt)).cell 3).trans rfl
                  refine wp_value (v := .string c) (w' := W) ?_ ⟨_, rfl, rfl, (Below.refl _ _), hg⟩
                  go_simp
                | 2, ho =>
                  cases ho
                  have q20 : x.tmps[20]?.getD undef = .string c := hk.dep 1 20 (by kernel_rfl) (by kernel_rfl)
                  refine .inl ⟨wanted_plain rfl, ?_⟩
                  refine wp_enter (f := 59) (args := #[.string c]) (w' := W) (S := fun v w1 => v = .int .i64 kd ∧ Below W.heap.size W w1) ?_ ((HK.out W (HM.out.below hg.below)).mono fun e w' h => ⟨_, h.1, rfl, h.2⟩) ?_
                  · go_simp
                  · rintro v W' ⟨rfl, hb⟩
                    exact ⟨_, rfl, rfl, hb, hg.calls hb⟩
                | 3, ho =>
                  cases ho
                  have q21 : x.tmps[21]?.getD undef = .int .i64 kd := hk.dep 2 21 (by kernel_rfl) (by kernel_rfl)
                  refine .inl ⟨wanted_plain rfl, ?_⟩
                  refine wp_value (v := .bool true) (w' := W) ?_ ⟨_, rfl, rfl, (Below.refl _ _), hg⟩
                  go_simp
                | 4, ho =>
                  cases ho
                  have q22 : x.tmps[22]?.getD undef = .bool true := hk.dep 3 22 (by kernel_rfl) (by kernel_rfl)
                  refine .inl ⟨wanted_plain rfl, ?_⟩
                  refine wp_value (v := .bool true) (w' := W) ?_ ⟨_, rfl, rfl, (Below.refl _ _), hg⟩
                  go_simp
                | 5, ho =>
                  cases ho
                  have q1 : x.tmps[1]?.getD undef = .pointer (some ⟨b, 0, none⟩) := hk.fix 1 (by kernel_rfl)
                  refine .inl ⟨wanted_guard (g := 4) (d := 23) (by rfl) (by kernel_rfl) (show x.tmps[23]?.getD undef = .bool true from hk.dep 4 23 (by kernel_rfl) (by kernel_rfl)), ?_⟩
                  refine wp_value (v := .pointer (some ⟨b, 4, none⟩)) (w' := W) ?_ ⟨_, rfl, rfl, (Below.refl _ _), hg⟩
                  go_simp
                | 6, ho =>
                  cases ho
                  have q24 : x.tmps[24]?.getD undef = .pointer (some ⟨b, 4, none⟩) := hk.dep 5 24 (by kernel_rfl) (by kernel_rfl)
                  refine .inl ⟨wanted_guard (g := 4) (d := 23) (by rfl) (by kernel_rfl) (show x.tmps[23]?.getD undef = .bool true from hk.dep 4 23 (by kernel_rfl) (by kernel_rfl)), ?_⟩
                  have cf : W.cell? ⟨b, 4, none⟩ = some (.int .i64 e0) := ((HX.out.of (hg.below.block _ HX.out.lt)).cell 4).trans rfl
                  refine wp_value (v := .int .i64 e0) (w' := W) ?_ ⟨_, rfl, rfl, (Below.refl _ _), hg⟩
                  go_simp
                | 7, ho =>
                  cases ho
                  have q25 : x.tmps[25]?.getD undef = .int .i64 e0 := hk.dep 6 25 (by kernel_rfl) (by kernel_rfl)
                  refine .inl ⟨wanted_guard (g := 4) (d := 23) (by rfl) (by kernel_rfl) (show x.tmps[23]?.getD undef = .bool true from hk.dep 4 23 (by kernel_rfl) (by kernel_rfl)), ?_⟩
                  refine wp_enter (f := 60) (args := #[.int .i64 e0]) (w' := W) (S := fun v w1 => v = .bool true ∧ Below W.heap.size W w1) ?_ ((HT.out W).mono fun e w' h => ⟨_, h.1, rfl, by rw [← h.2]; exact Below.refl _ _⟩) ?_
                  · go_simp
                  · rintro v W' ⟨rfl, hb⟩
                    exact ⟨_, rfl, rfl, hb, hg.calls hb⟩
                | 8, ho =>
                  cases ho
                  have q23 : x.tmps[23]?.getD undef = .bool true := hk.dep 4 23 (by kernel_rfl) (by kernel_rfl)
                  have q26 : x.tmps[26]?.getD undef = .bool true := hk.dep 7 26 (by kernel_rfl) (by kernel_rfl)
                  refine .inl ⟨wanted_plain rfl, ?_⟩
                  refine wp_value (v := .bool true) (w' := W) ?_ ⟨_, rfl, rfl, (Below.refl _ _), hg⟩
                  go_simp
                | 9, ho =>
                  cases ho
                  have q27 : x.tmps[27]?.getD undef = .bool true := hk.dep 8 27 (by kernel_rfl) (by kernel_rfl)
                  refine .inl ⟨wanted_plain rfl, ?_⟩
                  refine wp_value (v := .bool true) (w' := W) ?_ ⟨_, rfl, rfl, (Below.refl _ _), hg⟩
                  go_simp
                | 10, ho =>
                  cases ho
                  have q1 : x.tmps[1]?.getD undef = .pointer (some ⟨b, 0, none⟩) := hk.fix 1 (by kernel_rfl)
                  refine .inl ⟨wanted_guard (g := 9) (d := 28) (by rfl) (by kernel_rfl) (show x.tmps[28]?.getD undef = .bool true from hk.dep 9 28 (by kernel_rfl) (by kernel_rfl)), ?_⟩
                  refine wp_value (v := .pointer (some ⟨b, 5, none⟩)) (w' := W) ?_ ⟨_, rfl, rfl, (Below.refl _ _), hg⟩
                  go_simp
                | 11, ho =>
                  cases ho
                  have q29 : x.tmps[29]?.getD undef = .pointer (some ⟨b, 5, none⟩) := hk.dep 10 29 (by kernel_rfl) (by kernel_rfl)
                  refine .inl ⟨wanted_guard (g := 9) (d := 28) (by rfl) (by kernel_rfl) (show x.tmps[28]?.getD undef = .bool true from hk.dep 9 28 (by kernel_rfl) (by kernel_rfl)), ?_⟩
                  have cf : W.cell? ⟨b, 5, none⟩ = some (.int .i64 t0) := ((HX.out.of (hg.below.block _ HX.out.lt)).cell 5).trans rfl
                  refine wp_value (v := .int .i64 t0) (w' := W) ?_ ⟨_, rfl, rfl, (Below.refl _ _), hg⟩
                  go_simp
                | 12, ho =>
                  cases ho
                  have q30 : x.tmps[30]?.getD undef = .int .i64 t0 := hk.dep 11 30 (by kernel_rfl) (by kernel_rfl)
                  refine .inl ⟨wanted_guard (g := 9) (d := 28) (by rfl) (by kernel_rfl) (show x.tmps[28]?.getD undef = .bool true from hk.dep 9 28 (by kernel_rfl) (by kernel_rfl)), ?_⟩
                  refine wp_value (v := .bool true) (w' := W) ?_ ⟨_, rfl, rfl, (Below.refl _ _), hg⟩
                  go_simp
                | 13, ho =>
                  cases ho
                  have q28 : x.tmps[28]?.getD undef = .bool true := hk.dep 9 28 (by kernel_rfl) (by kernel_rfl)
                  have q31 : x.tmps[31]?.getD undef = .bool true := hk.dep 12 31 (by kernel_rfl) (by kernel_rfl)
                  refine .inl ⟨wanted_plain rfl, ?_⟩
                  refine wp_value (v := .bool true) (w' := W) ?_ ⟨_, rfl, rfl, (Below.refl _ _), hg⟩
                  go_simp
                | 14, ho =>
                  cases ho
                  have q32 : x.tmps[32]?.getD undef = .bool true := hk.dep 13 32 (by kernel_rfl) (by kernel_rfl)
                  refine .inl ⟨wanted_plain rfl, ?_⟩
                  refine wp_value (v := .bool true) (w' := W) ?_ ⟨_, rfl, rfl, (Below.refl _ _), hg⟩
                  go_simp
                | 15, ho =>
                  cases ho
                  have q1 : x.tmps[1]?.getD undef = .pointer (some ⟨b, 0, none⟩) := hk.fix 1 (by kernel_rfl)
                  refine .inl ⟨wanted_guard (g := 14) (d := 33) (by rfl) (by kernel_rfl) (show x.tmps[33]?.getD undef = .bool true from hk.dep 14 33 (by kernel_rfl) (by kernel_rfl)), ?_⟩
                  refine wp_value (v := .pointer (some ⟨b, 5, none⟩)) (w' := W) ?_ ⟨_, rfl, rfl, (Below.refl _ _), hg⟩
                  go_simp
                | 16, ho =>
                  cases ho
                  have q34 : x.tmps[34]?.getD undef = .pointer (some ⟨b, 5, none⟩) := hk.dep 15 34 (by kernel_rfl) (by kernel_rfl)
                  refine .inl ⟨wanted_guard (g := 14) (d := 33) (by rfl) (by kernel_rfl) (show x.tmps[33]?.getD undef = .bool true from hk.dep 14 33 (by kernel_rfl) (by kernel_rfl)), ?_⟩
                  have cf : W.cell? ⟨b, 5, none⟩ = some (.int .i64 t0) := ((HX.out.of (hg.below.block _ HX.out.lt)).cell 5).trans rfl
                  refine wp_value (v := .int .i64 t0) (w' := W) ?_ ⟨_, rfl, rfl, (Below.refl _ _), hg⟩
                  go_simp
                | 17, ho =>
                  cases ho
                  have q1 : x.tmps[1]?.getD undef = .pointer (some ⟨b, 0, none⟩) := hk.fix 1 (by kernel_rfl)
                  refine .inl ⟨wanted_guard (g := 14) (d := 33) (by rfl) (by kernel_rfl) (show x.tmps[33]?.getD undef = .bool true from hk.dep 14 33 (by kernel_rfl) (by kernel_rfl)), ?_⟩
                  refine wp_value (v := .pointer (some ⟨b, 2, none⟩)) (w' := W) ?_ ⟨_, rfl, rfl, (Below.refl _ _), hg⟩
                  go_simp
                | 18, ho =>
                  cases ho
                  have q36 : x.tmps[36]?.getD undef = .pointer (some ⟨b, 2, none⟩) := hk.dep 17 36 (by kernel_rfl) (by kernel_rfl)
                  refine .inl ⟨wanted_guard (g := 14) (d := 33) (by rfl) (by kernel_rfl) (show x.tmps[33]?.getD undef = .bool true from hk.dep 14 33 (by kernel_rfl) (by kernel_rfl)), ?_⟩
                  have cf : W.cell? ⟨b, 2, none⟩ = some (.int .i64 p) := ((HX.out.of (hg.below.block _ HX.out.lt)).cell 2).trans rfl
                  refine wp_value (v := .int .i64 p) (w' := W) ?_ ⟨_, rfl, rfl, (Below.refl _ _), hg⟩
                  go_simp
                | 19, ho =>
                  cases ho
                  have q37 : x.tmps[37]?.getD undef = .int .i64 p := hk.dep 18 37 (by kernel_rfl) (by kernel_rfl)
                  refine .inl ⟨wanted_guard (g := 14) (d := 33) (by rfl) (by kernel_rfl) (show x.tmps[33]?.getD undef = .bool true from hk.dep 14 33 (by kernel_rfl) (by kernel_rfl)), ?_⟩
                  refine wp_enter (f := 61) (args := #[.int .i64 p]) (w' := W) (S := fun v w1 => v = .int .i64 tr ∧ Below W.heap.size W w1) ?_ ((HTR.out W).mono fun e w' h => ⟨_, h.1, rfl, h.2⟩) ?_
                  · go_simp
                  · rintro v W' ⟨rfl, hb⟩
                    exact ⟨_, rfl, rfl, hb, hg.calls hb⟩
                | 20, ho =>
                  cases ho
                  have q35 : x.tmps[35]?.getD undef = .int .i64 t0 := hk.dep 16 35 (by kernel_rfl) (by kernel_rfl)
                  have q38 : x.tmps[38]?.getD undef = .int .i64 tr := hk.dep 19 38 (by kernel_rfl) (by kernel_rfl)
                  refine .inl ⟨wanted_guard (g := 14) (d := 33) (by rfl) (by kernel_rfl) (show x.tmps[33]?.getD undef = .bool true from hk.dep 14 33 (by kernel_rfl) (by kernel_rfl)), ?_⟩
                  refine wp_value (v := .bool b4) (w' := W) ?_ ⟨_, rfl, rfl, (Below.refl _ _), hg⟩
                  go_simp
                | 21, ho =>
                  cases ho
                  have q33 : x.tmps[33]?.getD undef = .bool true := hk.dep 14 33 (by kernel_rfl) (by kernel_rfl)
                  have q39 : x.tmps[39]?.getD undef = .bool b4 := hk.dep 20 39 (by kernel_rfl) (by kernel_rfl)
                  refine .inl ⟨wanted_plain rfl, ?_⟩
                  refine wp_value (v := .bool b4) (w' := W) ?_ ⟨_, rfl, rfl, (Below.refl _ _), hg⟩
                  go_simp
                | 22, ho =>
                  cases ho
                  have q40 : x.tmps[40]?.getD undef = .bool b4 := hk.dep 21 40 (by kernel_rfl) (by kernel_rfl)
                  refine .inl ⟨wanted_plain rfl, ?_⟩
                  refine wp_value (v := .bool b4) (w' := W) ?_ ⟨_, rfl, rfl, (Below.refl _ _), hg⟩
                  go_simp
                | _ + 23, ho => cases ho
              intro listed x w3 hall hg hk
              have e19 : x.tmps[19]?.getD undef = .pointer (some ⟨b, 3, none⟩) := hk.last 0 19 (by decide) (by kernel_rfl)
              have e20 : x.tmps[20]?.getD undef = .string c := hk.last 1 20 (by decide) (by kernel_rfl)
              have e21 : x.tmps[21]?.getD undef = .int .i64 kd := hk.last 2 21 (by decide) (by kernel_rfl)
              have e22 : x.tmps[22]?.getD undef = .bool true := hk.last 3 22 (by decide) (by kernel_rfl)
              have e23 : x.tmps[23]?.getD undef = .bool true := hk.last 4 23 (by decide) (by kernel_rfl)
              have e24 : x.tmps[24]?.getD undef = .pointer (some ⟨b, 4, none⟩) := hk.last 5 24 (by decide) (by kernel_rfl)
              have e25 : x.tmps[25]?.getD undef = .int .i64 e0 := hk.last 6 25 (by decide) (by kernel_rfl)
              have e26 : x.tmps[26]?.getD undef = .bool true := hk.last 7 26 (by decide) (by kernel_rfl)
              have e27 : x.tmps[27]?.getD undef = .bool true := hk.last 8 27 (by decide) (by kernel_rfl)
              have e28 : x.tmps[28]?.getD undef = .bool true := hk.last 9 28 (by decide) (by kernel_rfl)
              have e29 : x.tmps[29]?.getD undef = .pointer (some ⟨b, 5, none⟩) := hk.last 10 29 (by decide) (by kernel_rfl)
              have e30 : x.tmps[30]?.getD undef = .int .i64 t0 := hk.last 11 30 (by decide) (by kernel_rfl)
              have e31 : x.tmps[31]?.getD undef = .bool true := hk.last 12 31 (by decide) (by kernel_rfl)
              have e32 : x.tmps[32]?.getD undef = .bool true := hk.last 13 32 (by decide) (by kernel_rfl)
              have e33 : x.tmps[33]?.getD undef = .bool true := hk.last 14 33 (by decide) (by kernel_rfl)
              have e34 : x.tmps[34]?.getD undef = .pointer (some ⟨b, 5, none⟩) := hk.last 15 34 (by decide) (by kernel_rfl)
              have e35 : x.tmps[35]?.getD undef = .int .i64 t0 := hk.last 16 35 (by decide) (by kernel_rfl)
              have e36 : x.tmps[36]?.getD undef = .pointer (some ⟨b, 2, none⟩) := hk.last 17 36 (by decide) (by kernel_rfl)
              have e37 : x.tmps[37]?.getD undef = .int .i64 p := hk.last 18 37 (by decide) (by kernel_rfl)
              have e38 : x.tmps[38]?.getD undef = .int .i64 tr := hk.last 19 38 (by decide) (by kernel_rfl)
              have e39 : x.tmps[39]?.getD undef = .bool b4 := hk.last 20 39 (by decide) (by kernel_rfl)
              have e40 : x.tmps[40]?.getD undef = .bool b4 := hk.last 21 40 (by decide) (by kernel_rfl)
              have e2 : x.tmps[2]?.getD undef = .bool b4 := hk.last 22 2 (by decide) (by kernel_rfl)
              have hB := Lib.hid hg.below
              have hx := hk.act [19, 20, 21, 22, 23, 24, 25, 26, 27, 28, 29, 30, 31, 32, 33, 34, 35, 36, 37, 38, 39, 40, 2] (by kernel_rfl)
              clear hk hg hall
              simp only [List.foldl_cons, List.foldl_nil, e19, e20, e21, e22, e23, e24, e25, e26, e27, e28, e29, e30, e31, e32, e33, e34, e35, e36, e37, e38, e39, e40, e2] at hx
              clear e19 e20 e21 e22 e23 e24 e25 e26 e27 e28 e29 e30 e31 e32 e33 e34 e35 e36 e37 e38 e39 e40 e2
              subst hx
              simp only [Act.put, List.setIfInBounds_toArray, List.set_cons_succ, List.set_cons_zero]
              go_wp2_with fail
              go_ret
              exact ⟨by rw [← HRB.out]; rw [hkb, hs]; rfl, (by first | exact HB2.out.trans (hB.out.mono (by have h := HB2.out.size; omega)) | (rw [hbw]; exact HB2.out.trans (hB.out.mono (by have h := HB2.out.size; omega))))⟩
            · have hs : decide (1 ≤ t0 ∧ t0 ≤ tr) = false := decide_eq_false (fun h => h1 h.1)
              have hd1 : decide (1 ≤ t0) = false := decide_eq_false h1
              refine wp_region_some (by kernel_rfl) (fun i v _ => Vr3 b c kd e0 t0 i v) (fun _ _ W => Gc w2 W) (fun w w' => Below w.heap.size w w') (by kernel_rfl) (by kernel_rfl) 41 rfl (by kernel_rfl) (fun _ _ _ _ h _ => by exact h) (fun _ => (Below.refl _ _)) (Gc.start w2) ?_ ?_
              · intro i o ho listed x W hs hdep hun hg hk
                match i, ho with
                | 0, ho =>
                  cases ho
                  have q1 : x.tmps[1]?.getD undef = .pointer (some ⟨b, 0, none⟩) := hk.fix 1 (by kernel_rfl)
                  refine .inl ⟨wanted_plain rfl, ?_⟩
                  refine wp_value (v := .pointer (some ⟨b, 3, none⟩)) (w' := W) ?_ ⟨_, rfl, rfl, (Below.refl _ _), hg⟩
                  go_simp
                | 1, ho =>
                  cases ho
                  have q19 : x.tmps[19]?.getD undef = .pointer (some ⟨b, 3, none⟩) := hk.dep 0 19 (by kernel_rfl) (by kernel_rfl)
                  refine .inl ⟨wanted_plain rfl, ?_⟩
                  have cf : W.cell? ⟨b, 3, none⟩ = some (.string c) := ((HX.out.of (hg.below.block _ HX.out.lt)).cell 3).trans rfl
                  refine wp_value (v := .string c) (w' := W) ?_ ⟨_, rfl, rfl, (Below.refl _ _), hg⟩
                  go_simp
                | 2, ho =>
                  cases ho
                  have q20 : x.tmps[20]?.getD undef = .string c := hk.dep 1 20 (by kernel_rfl) (by kernel_rfl)
                  refine .inl ⟨wanted_plain rfl, ?_⟩
                  refine wp_enter (f := 59) (args := #[.string c]) (w' := W) (S := fun v w1 => v = .int .i64 kd ∧ Below W.heap.size W w1) ?_ ((HK.out W (HM.out.below hg.below)).mono fun e w' h => ⟨_, h.1, rfl, h.2⟩) ?_
                  · go_simp
                  · rintro v W' ⟨rfl, hb⟩
                    exact ⟨_, rfl, rfl, hb, hg.calls hb⟩
                | 3, ho =>
                  cases ho
                  have q21 : x.tmps[21]?.getD undef = .int .i64 kd := hk.dep 2 21 (by kernel_rfl) (by kernel_rfl)
                  refine .inl ⟨wanted_plain rfl, ?_⟩
                  refine wp_value (v := .bool true) (w' := W) ?_ ⟨_, rfl, rfl, (Below.refl _ _), hg⟩
                  go_simp
                | 4, ho =>
                  cases ho
                  have q22 : x.tmps[22]?.getD undef = .bool true := hk.dep 3 22 (by kernel_rfl) (by kernel_rfl)
                  refine .inl ⟨wanted_plain rfl, ?_⟩
                  refine wp_value (v := .bool true) (w' := W) ?_ ⟨_, rfl, rfl, (Below.refl _ _), hg⟩
                  go_simp
                | 5, ho =>
                  cases ho
                  have q1 : x.tmps[1]?.getD undef = .pointer (some ⟨b, 0, none⟩) := hk.fix 1 (by kernel_rfl)
                  refine .inl ⟨wanted_guard (g := 4) (d := 23) (by rfl) (by kernel_rfl) (show x.tmps[23]?.getD undef = .bool true from hk.dep 4 23 (by kernel_rfl) (by kernel_rfl)), ?_⟩
                  refine wp_value (v := .pointer (some ⟨b, 4, none⟩)) (w' := W) ?_ ⟨_, rfl, rfl, (Below.refl _ _), hg⟩
                  go_simp
                | 6, ho =>
                  cases ho
                  have q24 : x.tmps[24]?.getD undef = .pointer (some ⟨b, 4, none⟩) := hk.dep 5 24 (by kernel_rfl) (by kernel_rfl)
                  refine .inl ⟨wanted_guard (g := 4) (d := 23) (by rfl) (by kernel_rfl) (show x.tmps[23]?.getD undef = .bool true from hk.dep 4 23 (by kernel_rfl) (by kernel_rfl)), ?_⟩
                  have cf : W.cell? ⟨b, 4, none⟩ = some (.int .i64 e0) := ((HX.out.of (hg.below.block _ HX.out.lt)).cell 4).trans rfl
                  refine wp_value (v := .int .i64 e0) (w' := W) ?_ ⟨_, rfl, rfl, (Below.refl _ _), hg⟩
                  go_simp
                | 7, ho =>
                  cases ho
                  have q25 : x.tmps[25]?.getD undef = .int .i64 e0 := hk.dep 6 25 (by kernel_rfl) (by kernel_rfl)
                  refine .inl ⟨wanted_guard (g := 4) (d := 23) (by rfl) (by kernel_rfl) (show x.tmps[23]?.getD undef = .bool true from hk.dep 4 23 (by kernel_rfl) (by kernel_rfl)), ?_⟩
                  refine wp_enter (f := 60) (args := #[.int .i64 e0]) (w' := W) (S := fun v w1 => v = .bool true ∧ Below W.heap.size W w1) ?_ ((HT.out W).mono fun e w' h => ⟨_, h.1, rfl, by rw [← h.2]; exact Below.refl _ _⟩) ?_
                  · go_simp
                  · rintro v W' ⟨rfl, hb⟩
                    exact ⟨_, rfl, rfl, hb, hg.calls hb⟩
                | 8, ho =>
                  cases ho
                  have q23 : x.tmps[23]?.getD undef = .bool true := hk.dep 4 23 (by kernel_rfl) (by kernel_rfl)
                  have q26 : x.tmps[26]?.getD undef = .bool true := hk.dep 7 26 (by kernel_rfl) (by kernel_rfl)
                  refine .inl ⟨wanted_plain rfl, ?_⟩
                  refine wp_value (v := .bool true) (w' := W) ?_ ⟨_, rfl, rfl, (Below.refl _ _), hg⟩
                  go_simp
                | 9, ho =>
                  cases ho
                  have q27 : x.tmps[27]?.getD undef = .bool true := hk.dep 8 27 (by kernel_rfl) (by kernel_rfl)
                  refine .inl ⟨wanted_plain rfl, ?_⟩
                  refine wp_value (v := .bool true) (w' := W) ?_ ⟨_, rfl, rfl, (Below.refl _ _), hg⟩
                  go_simp
                | 10, ho =>
                  cases ho
                  have q1 : x.tmps[1]?.getD undef = .pointer (some ⟨b, 0, none⟩) := hk.fix 1 (by kernel_rfl)
                  refine .inl ⟨wanted_guard (g := 9) (d := 28) (by rfl) (by kernel_rfl) (show x.tmps[28]?.getD undef = .bool true from hk.dep 9 28 (by kernel_rfl) (by kernel_rfl)), ?_⟩
                  refine wp_value (v := .pointer (some ⟨b, 5, none⟩)) (w' := W) ?_ ⟨_, rfl, rfl, (Below.refl _ _), hg⟩
                  go_simp
                | 11, ho =>
                  cases ho
                  have q29 : x.tmps[29]?.getD undef = .pointer (some ⟨b, 5, none⟩) := hk.dep 10 29 (by kernel_rfl) (by kernel_rfl)
                  refine .inl ⟨wanted_guard (g := 9) (d := 28) (by rfl) (by kernel_rfl) (show x.tmps[28]?.getD undef = .bool true from hk.dep 9 28 (by kernel_rfl) (by kernel_rfl)), ?_⟩
                  have cf : W.cell? ⟨b, 5, none⟩ = some (.int .i64 t0) := ((HX.out.of (hg.below.block _ HX.out.lt)).cell 5).trans rfl
                  refine wp_value (v := .int .i64 t0) (w' := W) ?_ ⟨_, rfl, rfl, (Below.refl _ _), hg⟩
                  go_simp
                | 12, ho =>
                  cases ho
                  have q30 : x.tmps[30]?.getD undef = .int .i64 t0 := hk.dep 11 30 (by kernel_rfl) (by kernel_rfl)
                  refine .inl ⟨wanted_guard (g := 9) (d := 28) (by rfl) (by kernel_rfl) (show x.tmps[28]?.getD undef = .bool true from hk.dep 9 28 (by kernel_rfl) (by kernel_rfl)), ?_⟩
                  refine wp_value (v := .bool false) (w' := W) ?_ ⟨_, rfl, rfl, (Below.refl _ _), hg⟩
                  go_simp
                | 13, ho =>
                  cases ho
                  have q28 : x.tmps[28]?.getD undef = .bool true := hk.dep 9 28 (by kernel_rfl) (by kernel_rfl)
                  have q31 : x.tmps[31]?.getD undef = .bool false := hk.dep 12 31 (by kernel_rfl) (by kernel_rfl)
                  refine .inl ⟨wanted_plain rfl, ?_⟩
                  refine wp_value (v := .bool false) (w' := W) ?_ ⟨_, rfl, rfl, (Below.refl _ _), hg⟩
                  go_simp
                | 14, ho =>
                  cases ho
                  have q32 : x.tmps[32]?.getD undef = .bool false := hk.dep 13 32 (by kernel_rfl) (by kernel_rfl)
                  refine .inl ⟨wanted_plain rfl, ?_⟩
                  refine wp_value (v := .bool false) (w' := W) ?_ ⟨_, rfl, rfl, (Below.refl _ _), hg⟩
                  go_simp
                | 15, ho =>
                  cases ho
                  refine .inr ⟨wanted_no (g := 14) (d := 33) (c := false) (by rfl) (by kernel_rfl) (show x.tmps[33]?.getD undef = .bool false from hk.dep 14 33 (by kernel_rfl) (by kernel_rfl)) (by decide), rfl, hg⟩
                | 16, ho =>
                  cases ho
                  refine .inr ⟨wanted_no (g := 14) (d := 33) (c := false) (by rfl) (by kernel_rfl) (show x.tmps[33]?.getD undef = .bool false from hk.dep 14 33 (by kernel_rfl) (by kernel_rfl)) (by decide), rfl, hg⟩
                | 17, ho =>
                  cases ho
                  refine .inr ⟨wanted_no (g := 14) (d := 33) (c := false) (by rfl) (by kernel_rfl) (show x.tmps[33]?.getD undef = .bool false from hk.dep 14 33 (by kernel_rfl) (by kernel_rfl)) (by decide), rfl, hg⟩
                | 18, ho =>
                  cases ho
                  refine .inr ⟨wanted_no (g := 14) (d := 33) (c := false) (by rfl) (by kernel_rfl) (show x.tmps[33]?.getD undef = .bool false from hk.dep 14 33 (by kernel_rfl) (by kernel_rfl)) (by decide), rfl, hg⟩
                | 19, ho =>
                  cases ho
                  refine .inr ⟨wanted_no (g := 14) (d := 33) (c := false) (by rfl) (by kernel_rfl) (show x.tmps[33]?.getD undef = .bool false from hk.dep 14 33 (by kernel_rfl) (by kernel_rfl)) (by decide), rfl, hg⟩
                | 20, ho =>
                  cases ho
                  refine .inr ⟨wanted_no (g := 14) (d := 33) (c := false) (by rfl) (by kernel_rfl) (show x.tmps[33]?.getD undef = .bool false from hk.dep 14 33 (by kernel_rfl) (by kernel_rfl)) (by decide), rfl, hg⟩
                | 21, ho =>
                  cases ho
                  have q33 : x.tmps[33]?.getD undef = .bool false := hk.dep 14 33 (by kernel_rfl) (by kernel_rfl)
                  have q39 : x.tmps[39]?.getD undef = undef := hk.dep 20 39 (by kernel_rfl) (by kernel_rfl)
                  refine .inl ⟨wanted_plain rfl, ?_⟩
                  refine wp_value (v := .bool false) (w' := W) ?_ ⟨_, rfl, rfl, (Below.refl _ _), hg⟩
                  go_simp
                | 22, ho =>
                  cases ho
                  have q40 : x.tmps[40]?.getD undef = .bool false := hk.dep 21 40 (by kernel_rfl) (by kernel_rfl)
                  refine .inl ⟨wanted_plain rfl, ?_⟩
                  refine wp_value (v := .bool false) (w' := W) ?_ ⟨_, rfl, rfl, (Below.refl _ _), hg⟩
                  go_simp
                | _ + 23, ho => cases ho
              intro listed x w3 hall hg hk
              have e19 : x.tmps[19]?.getD undef = .pointer (some ⟨b, 3, none⟩) := hk.last 0 19 (by decide) (by kernel_rfl)
              have e20 : x.tmps[20]?.getD undef = .string c := hk.last 1 20 (by decide) (by kernel_rfl)
              have e21 : x.tmps[21]?.getD undef = .int .i64 kd := hk.last 2 21 (by decide) (by kernel_rfl)
              have e22 : x.tmps[22]?.getD undef = .bool true := hk.last 3 22 (by decide) (by kernel_rfl)
              have e23 : x.tmps[23]?.getD undef = .bool true := hk.last 4 23 (by decide) (by kernel_rfl)
              have e24 : x.tmps[24]?.getD undef = .pointer (some ⟨b, 4, none⟩) := hk.last 5 24 (by decide) (by kernel_rfl)
              have e25 : x.tmps[25]?.getD undef = .int .i64 e0 := hk.last 6 25 (by decide) (by kernel_rfl)
              have e26 : x.tmps[26]?.getD undef = .bool true := hk.last 7 26 (by decide) (by kernel_rfl)
              have e27 : x.tmps[27]?.getD undef = .bool true := hk.last 8 27 (by decide) (by kernel_rfl)
              have e28 : x.tmps[28]?.getD undef = .bool true := hk.last 9 28 (by decide) (by kernel_rfl)
              have e29 : x.tmps[29]?.getD undef = .pointer (some ⟨b, 5, none⟩) := hk.last 10 29 (by decide) (by kernel_rfl)
              have e30 : x.tmps[30]?.getD undef = .int .i64 t0 := hk.last 11 30 (by decide) (by kernel_rfl)
              have e31 : x.tmps[31]?.getD undef = .bool false := hk.last 12 31 (by decide) (by kernel_rfl)
              have e32 : x.tmps[32]?.getD undef = .bool false := hk.last 13 32 (by decide) (by kernel_rfl)
              have e33 : x.tmps[33]?.getD undef = .bool false := hk.last 14 33 (by decide) (by kernel_rfl)
              have e34 : x.tmps[34]?.getD undef = undef := hk.last 15 34 (by decide) (by kernel_rfl)
              have e35 : x.tmps[35]?.getD undef = undef := hk.last 16 35 (by decide) (by kernel_rfl)
              have e36 : x.tmps[36]?.getD undef = undef := hk.last 17 36 (by decide) (by kernel_rfl)
              have e37 : x.tmps[37]?.getD undef = undef := hk.last 18 37 (by decide) (by kernel_rfl)
              have e38 : x.tmps[38]?.getD undef = undef := hk.last 19 38 (by decide) (by kernel_rfl)
              have e39 : x.tmps[39]?.getD undef = undef := hk.last 20 39 (by decide) (by kernel_rfl)
              have e40 : x.tmps[40]?.getD undef = .bool false := hk.last 21 40 (by decide) (by kernel_rfl)
              have e2 : x.tmps[2]?.getD undef = .bool false := hk.last 22 2 (by decide) (by kernel_rfl)
              have hB := Lib.hid hg.below
              have hx := hk.act [19, 20, 21, 22, 23, 24, 25, 26, 27, 28, 29, 30, 31, 32, 33, 34, 35, 36, 37, 38, 39, 40, 2] (by kernel_rfl)
              clear hk hg hall
              simp only [List.foldl_cons, List.foldl_nil, e19, e20, e21, e22, e23, e24, e25, e26, e27, e28, e29, e30, e31, e32, e33, e34, e35, e36, e37, e38, e39, e40, e2] at hx
              clear e19 e20 e21 e22 e23 e24 e25 e26 e27 e28 e29 e30 e31 e32 e33 e34 e35 e36 e37 e38 e39 e40 e2
              subst hx
              simp only [Act.put, List.setIfInBounds_toArray, List.set_cons_succ, List.set_cons_zero]
              go_wp2_with fail
              go_ret
              exact ⟨by rw [← HRB.out]; rw [hkb, hs]; rfl, (by first | exact HB2.out.trans (hB.out.mono (by have h := HB2.out.size; omega)) | (rw [hbw]; exact HB2.out.trans (hB.out.mono (by have h := HB2.out.size; omega))))⟩
  · have hbi : ((D.size : Int) != 32) = true := by simpa using (show ¬ (D.size : Int) = 32 by omega)
    rw [decide_eq_false h32] at HRB
    go_enter Tryz.func35, Tryz.ntmps35
    go_wp2_with fail
    go_ret
    exact ⟨by rw [← HRB.out]; rfl, (Below.refl _ w).alloc (Nat.le_refl _) _⟩
end Go.Proofs.YtfjdcopndkdbmaaGreatDoor
