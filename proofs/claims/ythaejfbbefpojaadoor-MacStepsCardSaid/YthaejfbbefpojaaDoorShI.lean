/-
  Contract of the document's root, for third roots. Of any number.
-/
import Derived.Test.YthaejfbbefpojaaDoorShG
import Derived.LoopTactic
namespace Go.Proofs.YthaejfbbefpojaaDoor
open Go.RowKit

theorem cmp5 (p y z q3 : Nat) : p < y ∨ (¬ p < y ∧ y = p ∧ 0 < z) ∨ (¬ p < y ∧ y = p ∧ z = 0 ∧ 0 < q3) ∨ (¬ p < y ∧ y = p ∧ z = 0 ∧ q3 = 0) ∨ (¬ p < y ∧ y ≠ p) := by omega
theorem cb_over (p t q0 q1 q2 q3 y z : Nat) (h0 : t * t / 18446744073709551616 = q0) (h1 : t * t % 18446744073709551616 = q1) (h2 : t * (q0 * 18446744073709551616 + q1) / 18446744073709551616 = q2) (h3 : t * (q0 * 18446744073709551616 + q1) % 18446744073709551616 = q3) (hy : q2 / 4294967296 = y) (hz : q2 % 4294967296 = z) : over p t true = decide (p < y ∨ (y = p ∧ (0 < z ∨ 0 < q3))) := by
  unfold over
  simp only [if_true]
  have hT : q0 * 18446744073709551616 + q1 = t * t := by omega
  rw [hT] at h2 h3
  rw [show t ^ 3 = t * (t * t) by rw [Nat.pow_succ, Nat.pow_two, Nat.mul_comm]]
  generalize t * (t * t) = T at h2 h3 ⊢
  clear hT h0 h1
  congr 1
  apply propext
  constructor <;> intro h <;> omega
set_option maxRecDepth 100000 in
set_option maxHeartbeats 8000000 in
theorem root_cb (p : Nat) (w : World) :
    Calls Tryd.prog 36 #[.int .u64 (p : Int), .bool true] w fun e w' => e = .returned (.int .u32 (R (BitVec.ofNat 32 (Sh.root p true)))) ∧ Below w.heap.size w w' := by
  go_enter Tryd.func36, Tryd.ntmps36
  go_wp2_with fail
  go_loopw [5, 6, 7, 8, 9] (fun r b _ _ _ wr => ∃ (x : Nat) (z : Int) (m : Nat), r = .int .u64 x ∧ b = .int .i64 z ∧ m = (z + 1).toNat ∧ -1 ≤ z ∧ z ≤ 36 ∧ x + 2 ^ (min m 35) ≤ 2 ^ 35 ∧ (35 ≤ m → x = 0) ∧ Sh.rootFrom p true (min m 35) x = Sh.rootFrom p true 35 0 ∧ Below w.heap.size w wr)
    (fun _ b _ _ _ _ => (intOf b + 1).toNat)
  case atStart => exact ⟨0, 36, 37, rfl, rfl, rfl, by omega, by omega, by decide, fun _ => rfl, rfl, Below.refl _ _⟩
  case round =>
    obtain ⟨x, z, m, rfl, rfl, hm, hz1, hz2, hx, h35, hrf, hb⟩ := hrel
    by_cases hz : 0 ≤ z
    · obtain ⟨k, rfl⟩ : ∃ k : Nat, z = (k : Int) := ⟨z.toNat, by omega⟩
      have hk : k ≤ 36 := by omega
      have hm' : m = k + 1 := by omega
      subst hm'
      have hpw : (2 : Nat) ^ k ≤ 68719476736 := Nat.pow_le_pow_right (by decide) hk
      obtain ⟨s, hs⟩ : ∃ s, 2 ^ k = s := ⟨_, rfl⟩
      have hx35 : x ≤ 34359738368 := by have h1 : (2 : Nat) ^ 35 = 34359738368 := rfl; have h2 := Nat.two_pow_pos (min (k + 1) 35); omega
      have HX := Lib.hid (And.intro hx (And.intro h35 (And.intro hs hrf)))
      rw [hs] at hpw
      have hw : IntKind.u64.wrap ((2 : Int) ^ k) = (s : Int) := by
        rw [show ((2 : Int) ^ k) = ((2 ^ k : Nat) : Int) by simp, hs, IntKind.wrap_u64]
        omega
      obtain ⟨tt, htt⟩ : ∃ t, x + s = t := ⟨_, rfl⟩
      have hti : (x : Int) + (s : Int) = (tt : Int) := by omega
      have htl : tt < 274877906944 := by omega
      have HTT := Lib.hid htt
      have HB := Lib.hid hb
      have HT := Lib.hid (fun W => times_any tt 0 tt htl (by decide) (by omega) W)
      rw [Nat.zero_mul, Nat.zero_add] at HT
      obtain ⟨q0, hq0⟩ : ∃ q, tt * tt / 18446744073709551616 = q := ⟨_, rfl⟩
      obtain ⟨q1, hq1⟩ : ∃ q, tt * tt % 18446744073709551616 = q := ⟨_, rfl⟩
      obtain ⟨q2, hq2⟩ : ∃ q, tt * (q0 * 18446744073709551616 + q1) / 18446744073709551616 = q := ⟨_, rfl⟩
      obtain ⟨q3, hq3⟩ : ∃ q, tt * (q0 * 18446744073709551616 + q1) % 18446744073709551616 = q := ⟨_, rfl⟩
      obtain ⟨y, hy⟩ : ∃ q, q2 / 4294967296 = q := ⟨_, rfl⟩
      obtain ⟨z, hz'⟩ : ∃ q, q2 % 4294967296 = q := ⟨_, rfl⟩
      have HOV := Lib.hid (cb_over p tt q0 q1 q2 q3 y z hq0 hq1 hq2 hq3 hy hz')
      have hq0l : q0 < 18446744073709551616 := by
        have := Nat.mul_le_mul (show tt ≤ 274877906943 by omega) (show tt ≤ 274877906943 by omega)
        omega
      have hq1l : q1 < 18446744073709551616 := by omega
      have hq0s : q0 < 4096 := by
        have := Nat.mul_le_mul (show tt ≤ 274877906943 by omega) (show tt ≤ 274877906943 by omega)
        omega
      have HT3 := Lib.hid (fun W => times_any tt q0 q1 htl hq0s hq1l W)
      rw [hq2, hq3] at HT3
      have hq2l : q2 < 18446744073709551616 := by
        have h1 : q0 * 18446744073709551616 + q1 ≤ 75557863725914323419135 := by omega
        have h2 := Nat.mul_le_mul (show tt ≤ 274877906943 by omega) h1
        rw [← hq2]
        generalize tt * (q0 * 18446744073709551616 + q1) = T at h2 ⊢
        omega
      have hq3l : q3 < 18446744073709551616 := by rw [← hq3]; omega
      have dv : (q2 : Int) / 4294967296 = (y : Int) := by omega
      have mk := mask32 q2 hq2l
      rw [hz'] at mk
      have hyl : y < 4294967296 := by omega
      have hzl : z < 4294967296 := by omega
      rw [hq0, hq1] at HT
      rw [← htt] at HOV
      clear hb hx h35 hrf hs htt hq0 hq1 hq2 hq3 hy hz' hq0s
      go_wp2_with fail
      refine (HT.out _).mono ?_
      rintro e w2 ⟨rfl, hb2⟩
      have HB2 := Lib.hid ((HB.out.trans (hb2.mono HB.out.size)))
      have hsz2 := HB.out.size
      have hle2 := hb2.size
      clear hb2 HT
      have hbk := (Blk.new w2 87 #[.int .u64 0, .int .u64 0]).row (ul [q0, q1])
      have c0 := Blk.ul hbk 0 q0 rfl
      have c1 := Blk.ul hbk 1 q1 rfl
      have HB3 := Lib.hid (Kept.below HB2.out (Kept.setRow (S := fun b => w2.heap.size ≤ b) (Kept.alloc (Kept.refl _ w2) (.cells #[.int .u64 0, .int .u64 0] 87)) (.inl (Nat.le_refl _)) (ul [q0, q1])) (fun _ h => Nat.le_trans hsz2 (Nat.le_trans hle2 h)) HB2.out.size)
      obtain ⟨W, hW⟩ : ∃ W, (w2.alloc (.cells #[.int .u64 0, .int .u64 0] 87)).setRow w2.heap.size (ul [q0, q1]) = W := ⟨_, rfl⟩
      have HW := Lib.hid hW
      rw [hW] at hbk c0 c1 HB3
      have HBK := Lib.hid hbk
      have HSZ := Lib.hid (Nat.le_trans hsz2 hle2)
      clear hbk hsz2 hle2 hW
      rcases cmp4 p q0 q1 with hA | ⟨hA, hB, hC⟩ | ⟨hA, hB, hC⟩ | ⟨hA, hB⟩
      · have f1 : (p : Int) < (q0 : Int) := by omega
        have n1 : decide (p < q0) = true := by simp; omega
        clear hA
        go_wp2_with (refine wpList_store_row rfl 87 _ _ rfl w2.heap.size (ul [q0, q1]) rfl rfl 87 _ (Blk.new w2 _ _) (by rw [ul_size]; exact sz2) rfl (ul_one _) (Hid.out ?_))
        rw [HW.out]
        refine Lib.hid ?_
        go_wp2_with fail
        refine (HT3.out _).mono ?_
        rintro e w3 ⟨rfl, hb3⟩
        clear f1 n1 HT3 c0 c1
        have hbl : Blk w3 w2.heap.size 87 (ul [q0, q1]) := HBK.out.of (hb3.block _ HBK.out.lt)
        have HBL := Lib.hid hbl
        have hb4 := (hbl.row (ul [q2, q3]))
        have c0 := Blk.ul hb4 0 q2 rfl
        have c1 := Blk.ul hb4 1 q3 rfl
        have HB4 := Lib.hid (Kept.below (HB3.out.trans (hb3.mono HB3.out.size)) (Kept.setRow (S := fun b => w2.heap.size ≤ b) (Kept.refl _ w3) (.inl (Nat.le_refl _)) (ul [q2, q3])) (fun _ h => Nat.le_trans HSZ.out h) (HB3.out.trans (hb3.mono HB3.out.size)).size)
        clear hb3 hbl hb4 HBK HB3
        rcases cmp5 p y z q3 with hA | ⟨hA, hB, hC⟩ | ⟨hA, hB, hC, hD⟩ | ⟨hA, hB, hC, hD⟩ | ⟨hA, hB⟩
        · have f1 : (p : Int) < (y : Int) := by omega
          have n1 : decide (p < y) = true := by simp; omega
          have hov : over p (x + s) true = true := by rw [HOV.out]; exact decide_eq_true (by omega)
          clear hA
          by_cases hk34 : k ≤ 34
          · have hz34 : (k : Int) ≤ 34 := by omega
            have HNX := Lib.hid (root_next HX.out.1 HX.out.2.1 HX.out.2.2 true hov)
            have hnx : nxt k x s true = x := by unfold nxt; simp [hk34]
            rw [hnx] at HNX
            clear hov hnx
            go_wp2_with (refine wpList_store_row rfl 87 _ _ rfl w2.heap.size (ul [q2, q3]) rfl rfl 87 _ HBL.out (by rw [ul_size]; exact sz2) rfl (ul_one _) (Hid.out ?_))
            refine Lib.hid ?_
            go_wp2_with fail
            go_roundw
            case rel => exact ⟨x, (k : Int) - 1, k, rfl, rfl, by omega, by omega, by omega, HNX.out.1, HNX.out.2.1, HNX.out.2.2, HB4.out⟩
            case measure => simp [intOf] <;> omega
          · have hz34 : ¬ (k : Int) ≤ 34 := by omega
            have HNX := Lib.hid (root_next HX.out.1 HX.out.2.1 HX.out.2.2 true hov)
            have hnx : nxt k x s true = x := by unfold nxt; simp [hk34]
            rw [hnx] at HNX
            clear hov hnx
            go_wp2_with (refine wpList_store_row rfl 87 _ _ rfl w2.heap.size (ul [q2, q3]) rfl rfl 87 _ HBL.out (by rw [ul_size]; exact sz2) rfl (ul_one _) (Hid.out ?_))
            refine Lib.hid ?_
            go_wp2_with fail
            go_roundw
            case rel => exact ⟨x, (k : Int) - 1, k, rfl, rfl, by omega, by omega, by omega, HNX.out.1, HNX.out.2.1, HNX.out.2.2, HB4.out⟩
            case measure => simp [intOf] <;> omega
        · have f1 : ¬ (p : Int) < (y : Int) := by omega
          have n1 : decide (p < y) = false := by simp; omega
          have f2 : ((y : Int) == (p : Int)) = true := beq_iff_eq.2 (by omega)
          have f3 : (0 : Int) < (z : Int) := by omega
          have n3 : decide (0 < z) = true := by simp; omega
          have hov : over p (x + s) true = true := by rw [HOV.out]; exact decide_eq_true (by omega)
          clear hA hB hC
          by_cases hk34 : k ≤ 34
          · have hz34 : (k : Int) ≤ 34 := by omega
            have HNX := Lib.hid (root_next HX.out.1 HX.out.2.1 HX.out.2.2 true hov)
            have hnx : nxt k x s true = x := by unfold nxt; simp [hk34]
            rw [hnx] at HNX
            clear hov hnx
            go_wp2_with (refine wpList_store_row rfl 87 _ _ rfl w2.heap.size (ul [q2, q3]) rfl rfl 87 _ HBL.out (by rw [ul_size]; exact sz2) rfl (ul_one _) (Hid.out ?_))
            refine Lib.hid ?_
            go_wp2_with fail
            go_roundw
            case rel => exact ⟨x, (k : Int) - 1, k, rfl, rfl, by omega, by omega, by omega, HNX.out.1, HNX.out.2.1, HNX.out.2.2, HB4.out⟩
            case measure => simp [intOf] <;> omega
          · have hz34 : ¬ (k : Int) ≤ 34 := by omega
            have HNX := Lib.hid (root_next HX.out.1 HX.out.2.1 HX.out.2.2 true hov)
            have hnx : nxt k x s true = x := by unfold nxt; simp [hk34]
            rw [hnx] at HNX
            clear hov hnx
            go_wp2_with (refine wpList_store_row rfl 87 _ _ rfl w2.heap.size (ul [q2, q3]) rfl rfl 87 _ HBL.out (by rw [ul_size]; exact sz2) rfl (ul_one _) (Hid.out ?_))
            refine Lib.hid ?_
            go_wp2_with fail
            go_roundw
            case rel => exact ⟨x, (k : Int) - 1, k, rfl, rfl, by omega, by omega, by omega, HNX.out.1, HNX.out.2.1, HNX.out.2.2, HB4.out⟩
            case measure => simp [intOf] <;> omega
        · have f1 : ¬ (p : Int) < (y : Int) := by omega
          have n1 : decide (p < y) = false := by simp; omega
          have f2 : ((y : Int) == (p : Int)) = true := beq_iff_eq.2 (by omega)
          have f3 : ¬ (0 : Int) < (z : Int) := by omega
          have n3 : decide (0 < z) = false := by simp; omega
          have f4 : (0 : Int) < (q3 : Int) := by omega
          have n4 : decide (0 < q3) = true := by simp; omega
          have hov : over p (x + s) true = true := by rw [HOV.out]; exact decide_eq_true (by omega)
          clear hA hB hC hD
          by_cases hk34 : k ≤ 34
          · have hz34 : (k : Int) ≤ 34 := by omega
            have HNX := Lib.hid (root_next HX.out.1 HX.out.2.1 HX.out.2.2 true hov)
            have hnx : nxt k x s true = x := by unfold nxt; simp [hk34]
            rw [hnx] at HNX
            clear hov hnx
            go_wp2_with (refine wpList_store_row rfl 87 _ _ rfl w2.heap.size (ul [q2, q3]) rfl rfl 87 _ HBL.out (by rw [ul_size]; exact sz2) rfl (ul_one _) (Hid.out ?_))
            refine Lib.hid ?_
            go_wp2_with fail
            go_roundw
            case rel => exact ⟨x, (k : Int) - 1, k, rfl, rfl, by omega, by omega, by omega, HNX.out.1, HNX.out.2.1, HNX.out.2.2, HB4.out⟩
            case measure => simp [intOf] <;> omega
          · have hz34 : ¬ (k : Int) ≤ 34 := by omega
            have HNX := Lib.hid (root_next HX.out.1 HX.out.2.1 HX.out.2.2 true hov)
            have hnx : nxt k x s true = x := by unfold nxt; simp [hk34]
            rw [hnx] at HNX
            clear hov hnx
            go_wp2_with (refine wpList_store_row rfl 87 _ _ rfl w2.heap.size (ul [q2, q3]) rfl rfl 87 _ HBL.out (by rw [ul_size]; exact sz2) rfl (ul_one _) (Hid.out ?_))
            refine Lib.hid ?_
            go_wp2_with fail
            go_roundw
            case rel => exact ⟨x, (k : Int) - 1, k, rfl, rfl, by omega, by omega, by omega, HNX.out.1, HNX.out.2.1, HNX.out.2.2, HB4.out⟩
            case measure => simp [intOf] <;> omega
        · have f1 : ¬ (p : Int) < (y : Int) := by omega
          have n1 : decide (p < y) = false := by simp; omega
          have f2 : ((y : Int) == (p : Int)) = true := beq_iff_eq.2 (by omega)
          have f3 : ¬ (0 : Int) < (z : Int) := by omega
          have n3 : decide (0 < z) = false := by simp; omega
          have f4 : ¬ (0 : Int) < (q3 : Int) := by omega
          have n4 : decide (0 < q3) = false := by simp; omega
          have hov : over p (x + s) true = false := by rw [HOV.out]; exact decide_eq_false (by omega)
          clear hA hB hC hD
          by_cases hk34 : k ≤ 34
          · have hz34 : (k : Int) ≤ 34 := by omega
            have HNX := Lib.hid (root_next HX.out.1 HX.out.2.1 HX.out.2.2 false hov)
            have hnx : nxt k x s false = x + s := by unfold nxt; simp [hk34]
            rw [hnx] at HNX
            clear hov hnx
            go_wp2_with (refine wpList_store_row rfl 87 _ _ rfl w2.heap.size (ul [q2, q3]) rfl rfl 87 _ HBL.out (by rw [ul_size]; exact sz2) rfl (ul_one _) (Hid.out ?_))
            refine Lib.hid ?_
            go_wp2_with fail
            go_roundw
            case rel => exact ⟨x + s, (k : Int) - 1, k, by rw [← HTT.out], rfl, by omega, by omega, by omega, HNX.out.1, HNX.out.2.1, HNX.out.2.2, HB4.out⟩
            case measure => simp [intOf] <;> omega
          · have hz34 : ¬ (k : Int) ≤ 34 := by omega
            have HNX := Lib.hid (root_next HX.out.1 HX.out.2.1 HX.out.2.2 false hov)
            have hnx : nxt k x s false = x := by unfold nxt; simp [hk34]
            rw [hnx] at HNX
            clear hov hnx
            go_wp2_with (refine wpList_store_row rfl 87 _ _ rfl w2.heap.size (ul [q2, q3]) rfl rfl 87 _ HBL.out (by rw [ul_size]; exact sz2) rfl (ul_one _) (Hid.out ?_))
            refine Lib.hid ?_
            go_wp2_with fail
            go_roundw
            case rel => exact ⟨x, (k : Int) - 1, k, rfl, rfl, by omega, by omega, by omega, HNX.out.1, HNX.out.2.1, HNX.out.2.2, HB4.out⟩
            case measure => simp [intOf] <;> omega
        · have f1 : ¬ (p : Int) < (y : Int) := by omega
          have n1 : decide (p < y) = false := by simp; omega
          have f2 : ((y : Int) == (p : Int)) = false := beq_eq_false_iff_ne.2 (by omega)
          have n2 : decide (y = p) = false := by simp; omega
          have hov : over p (x + s) true = false := by rw [HOV.out]; exact decide_eq_false (by omega)
          clear hA hB
          by_cases hk34 : k ≤ 34
          · have hz34 : (k : Int) ≤ 34 := by omega
            have HNX := Lib.hid (root_next HX.out.1 HX.out.2.1 HX.out.2.2 false hov)
            have hnx : nxt k x s false = x + s := by unfold nxt; simp [hk34]
            rw [hnx] at HNX
            clear hov hnx
            go_wp2_with (refine wpList_store_row rfl 87 _ _ rfl w2.heap.size (ul [q2, q3]) rfl rfl 87 _ HBL.out (by rw [ul_size]; exact sz2) rfl (ul_one _) (Hid.out ?_))
            refine Lib.hid ?_
            go_wp2_with fail
            go_roundw
            case rel => exact ⟨x + s, (k : Int) - 1, k, by rw [← HTT.out], rfl, by omega, by omega, by omega, HNX.out.1, HNX.out.2.1, HNX.out.2.2, HB4.out⟩
            case measure => simp [intOf] <;> omega
          · have hz34 : ¬ (k : Int) ≤ 34 := by omega
            have HNX := Lib.hid (root_next HX.out.1 HX.out.2.1 HX.out.2.2 false hov)
            have hnx : nxt k x s false = x := by unfold nxt; simp [hk34]
            rw [hnx] at HNX
            clear hov hnx
            go_wp2_with (refine wpList_store_row rfl 87 _ _ rfl w2.heap.size (ul [q2, q3]) rfl rfl 87 _ HBL.out (by rw [ul_size]; exact sz2) rfl (ul_one _) (Hid.out ?_))
            refine Lib.hid ?_
            go_wp2_with fail
            go_roundw
            case rel => exact ⟨x, (k : Int) - 1, k, rfl, rfl, by omega, by omega, by omega, HNX.out.1, HNX.out.2.1, HNX.out.2.2, HB4.out⟩
            case measure => simp [intOf] <;> omega
      · have f1 : ¬ (p : Int) < (q0 : Int) := by omega
        have n1 : decide (p < q0) = false := by simp; omega
        have f2 : ((q0 : Int) == (p : Int)) = true := beq_iff_eq.2 (by omega)
        have f3 : (0 : Int) < (q1 : Int) := by omega
        have n3 : decide (0 < q1) = true := by simp; omega
        clear hA hB hC
        go_wp2_with (refine wpList_store_row rfl 87 _ _ rfl w2.heap.size (ul [q0, q1]) rfl rfl 87 _ (Blk.new w2 _ _) (by rw [ul_size]; exact sz2) rfl (ul_one _) (Hid.out ?_))
        rw [HW.out]
        refine Lib.hid ?_
        go_wp2_with fail
        refine (HT3.out _).mono ?_
        rintro e w3 ⟨rfl, hb3⟩
        clear f1 n1 f2 f3 n3 HT3 c0 c1
        have hbl : Blk w3 w2.heap.size 87 (ul [q0, q1]) := HBK.out.of (hb3.block _ HBK.out.lt)
        have HBL := Lib.hid hbl
        have hb4 := (hbl.row (ul [q2, q3]))
        have c0 := Blk.ul hb4 0 q2 rfl
        have c1 := Blk.ul hb4 1 q3 rfl
        have HB4 := Lib.hid (Kept.below (HB3.out.trans (hb3.mono HB3.out.size)) (Kept.setRow (S := fun b => w2.heap.size ≤ b) (Kept.refl _ w3) (.inl (Nat.le_refl _)) (ul [q2, q3])) (fun _ h => Nat.le_trans HSZ.out h) (HB3.out.trans (hb3.mono HB3.out.size)).size)
        clear hb3 hbl hb4 HBK HB3
        rcases cmp5 p y z q3 with hA | ⟨hA, hB, hC⟩ | ⟨hA, hB, hC, hD⟩ | ⟨hA, hB, hC, hD⟩ | ⟨hA, hB⟩
        · have f1 : (p : Int) < (y : Int) := by omega
          have n1 : decide (p < y) = true := by simp; omega
          have hov : over p (x + s) true = true := by rw [HOV.out]; exact decide_eq_true (by omega)
          clear hA
          by_cases hk34 : k ≤ 34
          · have hz34 : (k : Int) ≤ 34 := by omega
            have HNX := Lib.hid (root_next HX.out.1 HX.out.2.1 HX.out.2.2 true hov)
            have hnx : nxt k x s true = x := by unfold nxt; simp [hk34]
            rw [hnx] at HNX
            clear hov hnx
            go_wp2_with (refine wpList_store_row rfl 87 _ _ rfl w2.heap.size (ul [q2, q3]) rfl rfl 87 _ HBL.out (by rw [ul_size]; exact sz2) rfl (ul_one _) (Hid.out ?_))
            refine Lib.hid ?_
            go_wp2_with fail
            go_roundw
            case rel => exact ⟨x, (k : Int) - 1, k, rfl, rfl, by omega, by omega, by omega, HNX.out.1, HNX.out.2.1, HNX.out.2.2, HB4.out⟩
            case measure => simp [intOf] <;> omega
          · have hz34 : ¬ (k : Int) ≤ 34 := by omega
            have HNX := Lib.hid (root_next HX.out.1 HX.out.2.1 HX.out.2.2 true hov)
            have hnx : nxt k x s true = x := by unfold nxt; simp [hk34]
            rw [hnx] at HNX
            clear hov hnx
            go_wp2_with (refine wpList_store_row rfl 87 _ _ rfl w2.heap.size (ul [q2, q3]) rfl rfl 87 _ HBL.out (by rw [ul_size]; exact sz2) rfl (ul_one _) (Hid.out ?_))
            refine Lib.hid ?_
            go_wp2_with fail
            go_roundw
            case rel => exact ⟨x, (k : Int) - 1, k, rfl, rfl, by omega, by omega, by omega, HNX.out.1, HNX.out.2.1, HNX.out.2.2, HB4.out⟩
            case measure => simp [intOf] <;> omega
        · have f1 : ¬ (p : Int) < (y : Int) := by omega
          have n1 : decide (p < y) = false := by simp; omega
          have f2 : ((y : Int) == (p : Int)) = true := beq_iff_eq.2 (by omega)
          have f3 : (0 : Int) < (z : Int) := by omega
          have n3 : decide (0 < z) = true := by simp; omega
          have hov : over p (x + s) true = true := by rw [HOV.out]; exact decide_eq_true (by omega)
          clear hA hB hC
          by_cases hk34 : k ≤ 34
          · have hz34 : (k : Int) ≤ 34 := by omega
            have HNX := Lib.hid (root_next HX.out.1 HX.out.2.1 HX.out.2.2 true hov)
            have hnx : nxt k x s true = x := by unfold nxt; simp [hk34]
            rw [hnx] at HNX
            clear hov hnx
            go_wp2_with (refine wpList_store_row rfl 87 _ _ rfl w2.heap.size (ul [q2, q3]) rfl rfl 87 _ HBL.out (by rw [ul_size]; exact sz2) rfl (ul_one _) (Hid.out ?_))
            refine Lib.hid ?_
            go_wp2_with fail
            go_roundw
            case rel => exact ⟨x, (k : Int) - 1, k, rfl, rfl, by omega, by omega, by omega, HNX.out.1, HNX.out.2.1, HNX.out.2.2, HB4.out⟩
            case measure => simp [intOf] <;> omega
          · have hz34 : ¬ (k : Int) ≤ 34 := by omega
            have HNX := Lib.hid (root_next HX.out.1 HX.out.2.1 HX.out.2.2 true hov)
            have hnx : nxt k x s true = x := by unfold nxt; simp [hk34]
            rw [hnx] at HNX
            clear hov hnx
            go_wp2_with (refine wpList_store_row rfl 87 _ _ rfl w2.heap.size (ul [q2, q3]) rfl rfl 87 _ HBL.out (by rw [ul_size]; exact sz2) rfl (ul_one _) (Hid.out ?_))
            refine Lib.hid ?_
            go_wp2_with fail
            go_roundw
            case rel => exact ⟨x, (k : Int) - 1, k, rfl, rfl, by omega, by omega, by omega, HNX.out.1, HNX.out.2.1, HNX.out.2.2, HB4.out⟩
            case measure => simp [intOf] <;> omega
        · have f1 : ¬ (p : Int) < (y : Int) := by omega
          have n1 : decide (p < y) = false := by simp; omega
          have f2 : ((y : Int) == (p : Int)) = true := beq_iff_eq.2 (by omega)
          have f3 : ¬ (0 : Int) < (z : Int) := by omega
          have n3 : decide (0 < z) = false := by simp; omega
          have f4 : (0 : Int) < (q3 : Int) := by omega
          have n4 : decide (0 < q3) = true := by simp; omega
          have hov : over p (x + s) true = true := by rw [HOV.out]; exact decide_eq_true (by omega)
          clear hA hB hC hD
          by_cases hk34 : k ≤ 34
          · have hz34 : (k : Int) ≤ 34 := by omega
            have HNX := Lib.hid (root_next HX.out.1 HX.out.2.1 HX.out.2.2 true hov)
            have hnx : nxt k x s true = x := by unfold nxt; simp [hk34]
            rw [hnx] at HNX
            clear hov hnx
            go_wp2_with (refine wpList_store_row rfl 87 _ _ rfl w2.heap.size (ul [q2, q3]) rfl rfl 87 _ HBL.out (by rw [ul_size]; exact sz2) rfl (ul_one _) (Hid.out ?_))
            refine Lib.hid ?_
            go_wp2_with fail
            go_roundw
            case rel => exact ⟨x, (k : Int) - 1, k, rfl, rfl, by omega, by omega, by omega, HNX.out.1, HNX.out.2.1, HNX.out.2.2, HB4.out⟩
            case measure => simp [intOf] <;> omega
          · have hz34 : ¬ (k : Int) ≤ 34 := by omega
            have HNX := Lib.hid (root_next HX.out.1 HX.out.2.1 HX.out.2.2 true hov)
            have hnx : nxt k x s true = x := by unfold nxt; simp [hk34]
            rw [hnx] at HNX
            clear hov hnx
            go_wp2_with (refine wpList_store_row rfl 87 _ _ rfl w2.heap.size (ul [q2, q3]) rfl rfl 87 _ HBL.out (by rw [ul_size]; exact sz2) rfl (ul_one _) (Hid.out ?_))
            refine Lib.hid ?_
            go_wp2_with fail
            go_roundw
            case rel => exact ⟨x, (k : Int) - 1, k, rfl, rfl, by omega, by omega, by omega, HNX.out.1, HNX.out.2.1, HNX.out.2.2, HB4.out⟩
            case measure => simp [intOf] <;> omega
        · have f1 : ¬ (p : Int) < (y : Int) := by omega
          have n1 : decide (p < y) = false := by simp; omega
          have f2 : ((y : Int) == (p : Int)) = true := beq_iff_eq.2 (by omega)
          have f3 : ¬ (0 : Int) < (z : Int) := by omega
          have n3 : decide (0 < z) = false := by simp; omega
          have f4 : ¬ (0 : Int) < (q3 : Int) := by omega
          have n4 : decide (0 < q3) = false := by simp; omega
          have hov : over p (x + s) true = false := by rw [HOV.out]; exact decide_eq_false (by omega)
          clear hA hB hC hD
          by_cases hk34 : k ≤ 34
          · have hz34 : (k : Int) ≤ 34 := by omega
            have HNX := Lib.hid (root_next HX.out.1 HX.out.2.1 HX.out.2.2 false hov)
            have hnx : nxt k x s false = x + s := by unfold nxt; simp [hk34]
            rw [hnx] at HNX
            clear hov hnx
            go_wp2_with (refine wpList_store_row rfl 87 _ _ rfl w2.heap.size (ul [q2, q3]) rfl rfl 87 _ HBL.out (by rw [ul_size]; exact sz2) rfl (ul_one _) (Hid.out ?_))
            refine Lib.hid ?_
            go_wp2_with fail
            go_roundw
            case rel => exact ⟨x + s, (k : Int) - 1, k, by rw [← HTT.out], rfl, by omega, by omega, by omega, HNX.out.1, HNX.out.2.1, HNX.out.2.2, HB4.out⟩
            case measure => simp [intOf] <;> omega
          · have hz34 : ¬ (k : Int) ≤ 34 := by omega
            have HNX := Lib.hid (root_next HX.out.1 HX.out.2.1 HX.out.2.2 false hov)
            have hnx : nxt k x s false = x := by unfold nxt; simp [hk34]
            rw [hnx] at HNX
            clear hov hnx
            go_wp2_with (refine wpList_store_row rfl 87 _ _ rfl w2.heap.size (ul [q2, q3]) rfl rfl 87 _ HBL.out (by rw [ul_size]; exact sz2) rfl (ul_one _) (Hid.out ?_))
            refine Lib.hid ?_
            go_wp2_with fail
            go_roundw
            case rel => exact ⟨x, (k : Int) - 1, k, rfl, rfl, by omega, by omega, by omega, HNX.out.1, HNX.out.2.1, HNX.out.2.2, HB4.out⟩
            case measure => simp [intOf] <;> omega
        · have f1 : ¬ (p : Int) < (y : Int) := by omega
          have n1 : decide (p < y) = false := by simp; omega
          have f2 : ((y : Int) == (p : Int)) = false := beq_eq_false_iff_ne.2 (by omega)
          have n2 : decide (y = p) = false := by simp; omega
          have hov : over p (x + s) true = false := by rw [HOV.out]; exact decide_eq_false (by omega)
          clear hA hB
          by_cases hk34 : k ≤ 34
          · have hz34 : (k : Int) ≤ 34 := by omega
            have HNX := Lib.hid (root_next HX.out.1 HX.out.2.1 HX.out.2.2 false hov)
            have hnx : nxt k x s false = x + s := by unfold nxt; simp [hk34]
            rw [hnx] at HNX
            clear hov hnx
            go_wp2_with (refine wpList_store_row rfl 87 _ _ rfl w2.heap.size (ul [q2, q3]) rfl rfl 87 _ HBL.out (by rw [ul_size]; exact sz2) rfl (ul_one _) (Hid.out ?_))
            refine Lib.hid ?_
            go_wp2_with fail
            go_roundw
            case rel => exact ⟨x + s, (k : Int) - 1, k, by rw [← HTT.out], rfl, by omega, by omega, by omega, HNX.out.1, HNX.out.2.1, HNX.out.2.2, HB4.out⟩
            case measure => simp [intOf] <;> omega
          · have hz34 : ¬ (k : Int) ≤ 34 := by omega
            have HNX := Lib.hid (root_next HX.out.1 HX.out.2.1 HX.out.2.2 false hov)
            have hnx : nxt k x s false = x := by unfold nxt; simp [hk34]
            rw [hnx] at HNX
            clear hov hnx
            go_wp2_with (refine wpList_store_row rfl 87 _ _ rfl w2.heap.size (ul [q2, q3]) rfl rfl 87 _ HBL.out (by rw [ul_size]; exact sz2) rfl (ul_one _) (Hid.out ?_))
            refine Lib.hid ?_
            go_wp2_with fail
            go_roundw
            case rel => exact ⟨x, (k : Int) - 1, k, rfl, rfl, by omega, by omega, by omega, HNX.out.1, HNX.out.2.1, HNX.out.2.2, HB4.out⟩
            case measure => simp [intOf] <;> omega
      · have f1 : ¬ (p : Int) < (q0 : Int) := by omega
        have n1 : decide (p < q0) = false := by simp; omega
        have f2 : ((q0 : Int) == (p : Int)) = true := beq_iff_eq.2 (by omega)
        have f3 : ¬ (0 : Int) < (q1 : Int) := by omega
        have n3 : decide (0 < q1) = false := by simp; omega
        clear hA hB hC
        go_wp2_with (refine wpList_store_row rfl 87 _ _ rfl w2.heap.size (ul [q0, q1]) rfl rfl 87 _ (Blk.new w2 _ _) (by rw [ul_size]; exact sz2) rfl (ul_one _) (Hid.out ?_))
        rw [HW.out]
        refine Lib.hid ?_
        go_wp2_with fail
        refine (HT3.out _).mono ?_
        rintro e w3 ⟨rfl, hb3⟩
        clear f1 n1 f2 f3 n3 HT3 c0 c1
        have hbl : Blk w3 w2.heap.size 87 (ul [q0, q1]) := HBK.out.of (hb3.block _ HBK.out.lt)
        have HBL := Lib.hid hbl
        have hb4 := (hbl.row (ul [q2, q3]))
        have c0 := Blk.ul hb4 0 q2 rfl
        have c1 := Blk.ul hb4 1 q3 rfl
        have HB4 := Lib.hid (Kept.below (HB3.out.trans (hb3.mono HB3.out.size)) (Kept.setRow (S := fun b => w2.heap.size ≤ b) (Kept.refl _ w3) (.inl (Nat.le_refl _)) (ul [q2, q3])) (fun _ h => Nat.le_trans HSZ.out h) (HB3.out.trans (hb3.mono HB3.out.size)).size)
        clear hb3 hbl hb4 HBK HB3
        rcases cmp5 p y z q3 with hA | ⟨hA, hB, hC⟩ | ⟨hA, hB, hC, hD⟩ | ⟨hA, hB, hC, hD⟩ | ⟨hA, hB⟩
        · have f1 : (p : Int) < (y : Int) := by omega
          have n1 : decide (p < y) = true := by simp; omega
          have hov : over p (x + s) true = true := by rw [HOV.out]; exact decide_eq_true (by omega)
          clear hA
          by_cases hk34 : k ≤ 34
          · have hz34 : (k : Int) ≤ 34 := by omega
            have HNX := Lib.hid (root_next HX.out.1 HX.out.2.1 HX.out.2.2 true hov)
            have hnx : nxt k x s true = x := by unfold nxt; simp [hk34]
            rw [hnx] at HNX
            clear hov hnx
            go_wp2_with (refine wpList_store_row rfl 87 _ _ rfl w2.heap.size (ul [q2, q3]) rfl rfl 87 _ HBL.out (by rw [ul_size]; exact sz2) rfl (ul_one _) (Hid.out ?_))
            refine Lib.hid ?_
            go_wp2_with fail
            go_roundw
            case rel => exact ⟨x, (k : Int) - 1, k, rfl, rfl, by omega, by omega, by omega, HNX.out.1, HNX.out.2.1, HNX.out.2.2, HB4.out⟩
            case measure => simp [intOf] <;> omega
          · have hz34 : ¬ (k : Int) ≤ 34 := by omega
            have HNX := Lib.hid (root_next HX.out.1 HX.out.2.1 HX.out.2.2 true hov)
            have hnx : nxt k x s true = x := by unfold nxt; simp [hk34]
            rw [hnx] at HNX
            clear hov hnx
            go_wp2_with (refine wpList_store_row rfl 87 _ _ rfl w2.heap.size (ul [q2, q3]) rfl rfl 87 _ HBL.out (by rw [ul_size]; exact sz2) rfl (ul_one _) (Hid.out ?_))
            refine Lib.hid ?_
            go_wp2_with fail
            go_roundw
            case rel => exact ⟨x, (k : Int) - 1, k, rfl, rfl, by omega, by omega, by omega, HNX.out.1, HNX.out.2.1, HNX.out.2.2, HB4.out⟩
            case measure => simp [intOf] <;> omega
        · have f1 : ¬ (p : Int) < (y : Int) := by omega
          have n1 : decide (p < y) = false := by simp; omega
          have f2 : ((y : Int) == (p : Int)) = true := beq_iff_eq.2 (by omega)
          have f3 : (0 : Int) < (z : Int) := by omega
          have n3 : decide (0 < z) = true := by simp; omega
          have hov : over p (x + s) true = true := by rw [HOV.out]; exact decide_eq_true (by omega)
          clear hA hB hC
          by_cases hk34 : k ≤ 34
          · have hz34 : (k : Int) ≤ 34 := by omega
            have HNX := Lib.hid (root_next HX.out.1 HX.out.2.1 HX.out.2.2 true hov)
            have hnx : nxt k x s true = x := by unfold nxt; simp [hk34]
            rw [hnx] at HNX
            clear hov hnx
            go_wp2_with (refine wpList_store_row rfl 87 _ _ rfl w2.heap.size (ul [q2, q3]) rfl rfl 87 _ HBL.out (by rw [ul_size]; exact sz2) rfl (ul_one _) (Hid.out ?_))
            refine Lib.hid ?_
            go_wp2_with fail
            go_roundw
            case rel => exact ⟨x, (k : Int) - 1, k, rfl, rfl, by omega, by omega, by omega, HNX.out.1, HNX.out.2.1, HNX.out.2.2, HB4.out⟩
            case measure => simp [intOf] <;> omega
          · have hz34 : ¬ (k : Int) ≤ 34 := by omega
            have HNX := Lib.hid (root_next HX.out.1 HX.out.2.1 HX.out.2.2 true hov)
            have hnx : nxt k x s true = x := by unfold nxt; simp [hk34]
            rw [hnx] at HNX
            clear hov hnx
            go_wp2_with (refine wpList_store_row rfl 87 _ _ rfl w2.heap.size (ul [q2, q3]) rfl rfl 87 _ HBL.out (by rw [ul_size]; exact sz2) rfl (ul_one _) (Hid.out ?_))
            refine Lib.hid ?_
            go_wp2_with fail
            go_roundw
            case rel => exact ⟨x, (k : Int) - 1, k, rfl, rfl, by omega, by omega, by omega, HNX.out.1, HNX.out.2.1, HNX.out.2.2, HB4.out⟩
            case measure => simp [intOf] <;> omega
        · have f1 : ¬ (p : Int) < (y : Int) := by omega
          have n1 : decide (p < y) = false := by simp; omega
          have f2 : ((y : Int) == (p : Int)) = true := beq_iff_eq.2 (by omega)
          have f3 : ¬ (0 : Int) < (z : Int) := by omega
          have n3 : decide (0 < z) = false := by simp; omega
          have f4 : (0 : Int) < (q3 : Int) := by omega
          have n4 : decide (0 < q3) = true := by simp; omega
          have hov : over p (x + s) true = true := by rw [HOV.out]; exact decide_eq_true (by omega)
          clear hA hB hC hD
          by_cases hk34 : k ≤ 34
          · have hz34 : (k : Int) ≤ 34 := by omega
            have HNX := Lib.hid (root_next HX.out.1 HX.out.2.1 HX.out.2.2 true hov)
            have hnx : nxt k x s true = x := by unfold nxt; simp [hk34]
            rw [hnx] at HNX
            clear hov hnx
            go_wp2_with (refine wpList_store_row rfl 87 _ _ rfl w2.heap.size (ul [q2, q3]) rfl rfl 87 _ HBL.out (by rw [ul_size]; exact sz2) rfl (ul_one _) (Hid.out ?_))
            refine Lib.hid ?_
            go_wp2_with fail
            go_roundw
            case rel => exact ⟨x, (k : Int) - 1, k, rfl, rfl, by omega, by omega, by omega, HNX.out.1, HNX.out.2.1, HNX.out.2.2, HB4.out⟩
            case measure => simp [intOf] <;> omega
          · have hz34 : ¬ (k : Int) ≤ 34 := by omega
            have HNX := Lib.hid (root_next HX.out.1 HX.out.2.1 HX.out.2.2 true hov)
            have hnx : nxt k x s true = x := by unfold nxt; simp [hk34]
            rw [hnx] at HNX
            clear hov hnx
            go_wp2_with (refine wpList_store_row rfl 87 _ _ rfl w2.heap.size (ul [q2, q3]) rfl rfl 87 _ HBL.out (by rw [ul_size]; exact sz2) rfl (ul_one _) (Hid.out ?_))
            refine Lib.hid ?_
            go_wp2_with fail
            go_roundw
            case rel => exact ⟨x, (k : Int) - 1, k, rfl, rfl, by omega, by omega, by omega, HNX.out.1, HNX.out.2.1, HNX.out.2.2, HB4.out⟩
            case measure => simp [intOf] <;> omega
        · have f1 : ¬ (p : Int) < (y : Int) := by omega
          have n1 : decide (p < y) = false := by simp; omega
          have f2 : ((y : Int) == (p : Int)) = true := beq_iff_eq.2 (by omega)
          have f3 : ¬ (0 : Int) < (z : Int) := by omega
          have n3 : decide (0 < z) = false := by simp; omega
          have f4 : ¬ (0 : Int) < (q3 : Int) := by omega
          have n4 : decide (0 < q3) = false := by simp; omega
          have hov : over p (x + s) true = false := by rw [HOV.out]; exact decide_eq_false (by omega)
          clear hA hB hC hD
          by_cases hk34 : k ≤ 34
          · have hz34 : (k : Int) ≤ 34 := by omega
            have HNX := Lib.hid (root_next HX.out.1 HX.out.2.1 HX.out.2.2 false hov)
            have hnx : nxt k x s false = x + s := by unfold nxt; simp [hk34]
            rw [hnx] at HNX
            clear hov hnx
            go_wp2_with (refine wpList_store_row rfl 87 _ _ rfl w2.heap.size (ul [q2, q3]) rfl rfl 87 _ HBL.out (by rw [ul_size]; exact sz2) rfl (ul_one _) (Hid.out ?_))
            refine Lib.hid ?_
            go_wp2_with fail
            go_roundw
            case rel => exact ⟨x + s, (k : Int) - 1, k, by rw [← HTT.out], rfl, by omega, by omega, by omega, HNX.out.1, HNX.out.2.1, HNX.out.2.2, HB4.out⟩
            case measure => simp [intOf] <;> omega
          · have hz34 : ¬ (k : Int) ≤ 34 := by omega
            have HNX := Lib.hid (root_next HX.out.1 HX.out.2.1 HX.out.2.2 false hov)
            have hnx : nxt k x s false = x := by unfold nxt; simp [hk34]
            rw [hnx] at HNX
            clear hov hnx
            go_wp2_with (refine wpList_store_row rfl 87 _ _ rfl w2.heap.size (ul [q2, q3]) rfl rfl 87 _ HBL.out (by rw [ul_size]; exact sz2) rfl (ul_one _) (Hid.out ?_))
            refine Lib.hid ?_
            go_wp2_with fail
            go_roundw
            case rel => exact ⟨x, (k : Int) - 1, k, rfl, rfl, by omega, by omega, by omega, HNX.out.1, HNX.out.2.1, HNX.out.2.2, HB4.out⟩
            case measure => simp [intOf] <;> omega
        · have f1 : ¬ (p : Int) < (y : Int) := by omega
          have n1 : decide (p < y) = false := by simp; omega
          have f2 : ((y : Int) == (p : Int)) = false := beq_eq_false_iff_ne.2 (by omega)
          have n2 : decide (y = p) = false := by simp; omega
          have hov : over p (x + s) true = false := by rw [HOV.out]; exact decide_eq_false (by omega)
          clear hA hB
          by_cases hk34 : k ≤ 34
          · have hz34 : (k : Int) ≤ 34 := by omega
            have HNX := Lib.hid (root_next HX.out.1 HX.out.2.1 HX.out.2.2 false hov)
            have hnx : nxt k x s false = x + s := by unfold nxt; simp [hk34]
            rw [hnx] at HNX
            clear hov hnx
            go_wp2_with (refine wpList_store_row rfl 87 _ _ rfl w2.heap.size (ul [q2, q3]) rfl rfl 87 _ HBL.out (by rw [ul_size]; exact sz2) rfl (ul_one _) (Hid.out ?_))
            refine Lib.hid ?_
            go_wp2_with fail
            go_roundw
            case rel => exact ⟨x + s, (k : Int) - 1, k, by rw [← HTT.out], rfl, by omega, by omega, by omega, HNX.out.1, HNX.out.2.1, HNX.out.2.2, HB4.out⟩
            case measure => simp [intOf] <;> omega
          · have hz34 : ¬ (k : Int) ≤ 34 := by omega
            have HNX := Lib.hid (root_next HX.out.1 HX.out.2.1 HX.out.2.2 false hov)
            have hnx : nxt k x s false = x := by unfold nxt; simp [hk34]
            rw [hnx] at HNX
            clear hov hnx
            go_wp2_with (refine wpList_store_row rfl 87 _ _ rfl w2.heap.size (ul [q2, q3]) rfl rfl 87 _ HBL.out (by rw [ul_size]; exact sz2) rfl (ul_one _) (Hid.out ?_))
            refine Lib.hid ?_
            go_wp2_with fail
            go_roundw
            case rel => exact ⟨x, (k : Int) - 1, k, rfl, rfl, by omega, by omega, by omega, HNX.out.1, HNX.out.2.1, HNX.out.2.2, HB4.out⟩
            case measure => simp [intOf] <;> omega
      · have f1 : ¬ (p : Int) < (q0 : Int) := by omega
        have n1 : decide (p < q0) = false := by simp; omega
        have f2 : ((q0 : Int) == (p : Int)) = false := beq_eq_false_iff_ne.2 (by omega)
        have n2 : decide (q0 = p) = false := by simp; omega
        clear hA hB
        go_wp2_with (refine wpList_store_row rfl 87 _ _ rfl w2.heap.size (ul [q0, q1]) rfl rfl 87 _ (Blk.new w2 _ _) (by rw [ul_size]; exact sz2) rfl (ul_one _) (Hid.out ?_))
        rw [HW.out]
        refine Lib.hid ?_
        go_wp2_with fail
        refine (HT3.out _).mono ?_
        rintro e w3 ⟨rfl, hb3⟩
        clear f1 n1 f2 n2 HT3 c0 c1
        have hbl : Blk w3 w2.heap.size 87 (ul [q0, q1]) := HBK.out.of (hb3.block _ HBK.out.lt)
        have HBL := Lib.hid hbl
        have hb4 := (hbl.row (ul [q2, q3]))
        have c0 := Blk.ul hb4 0 q2 rfl
        have c1 := Blk.ul hb4 1 q3 rfl
        have HB4 := Lib.hid (Kept.below (HB3.out.trans (hb3.mono HB3.out.size)) (Kept.setRow (S := fun b => w2.heap.size ≤ b) (Kept.refl _ w3) (.inl (Nat.le_refl _)) (ul [q2, q3])) (fun _ h => Nat.le_trans HSZ.out h) (HB3.out.trans (hb3.mono HB3.out.size)).size)
        clear hb3 hbl hb4 HBK HB3
        rcases cmp5 p y z q3 with hA | ⟨hA, hB, hC⟩ | ⟨hA, hB, hC, hD⟩ | ⟨hA, hB, hC, hD⟩ | ⟨hA, hB⟩
        · have f1 : (p : Int) < (y : Int) := by omega
          have n1 : decide (p < y) = true := by simp; omega
          have hov : over p (x + s) true = true := by rw [HOV.out]; exact decide_eq_true (by omega)
          clear hA
          by_cases hk34 : k ≤ 34
          · have hz34 : (k : Int) ≤ 34 := by omega
            have HNX := Lib.hid (root_next HX.out.1 HX.out.2.1 HX.out.2.2 true hov)
            have hnx : nxt k x s true = x := by unfold nxt; simp [hk34]
            rw [hnx] at HNX
            clear hov hnx
            go_wp2_with (refine wpList_store_row rfl 87 _ _ rfl w2.heap.size (ul [q2, q3]) rfl rfl 87 _ HBL.out (by rw [ul_size]; exact sz2) rfl (ul_one _) (Hid.out ?_))
            refine Lib.hid ?_
            go_wp2_with fail
            go_roundw
            case rel => exact ⟨x, (k : Int) - 1, k, rfl, rfl, by omega, by omega, by omega, HNX.out.1, HNX.out.2.1, HNX.out.2.2, HB4.out⟩
            case measure => simp [intOf] <;> omega
          · have hz34 : ¬ (k : Int) ≤ 34 := by omega
            have HNX := Lib.hid (root_next HX.out.1 HX.out.2.1 HX.out.2.2 true hov)
            have hnx : nxt k x s true = x := by unfold nxt; simp [hk34]
            rw [hnx] at HNX
            clear hov hnx
            go_wp2_with (refine wpList_store_row rfl 87 _ _ rfl w2.heap.size (ul [q2, q3]) rfl rfl 87 _ HBL.out (by rw [ul_size]; exact sz2) rfl (ul_one _) (Hid.out ?_))
            refine Lib.hid ?_
            go_wp2_with fail
            go_roundw
            case rel => exact ⟨x, (k : Int) - 1, k, rfl, rfl, by omega, by omega, by omega, HNX.out.1, HNX.out.2.1, HNX.out.2.2, HB4.out⟩
            case measure => simp [intOf] <;> omega
        · have f1 : ¬ (p : Int) < (y : Int) := by omega
          have n1 : decide (p < y) = false := by simp; omega
          have f2 : ((y : Int) == (p : Int)) = true := beq_iff_eq.2 (by omega)
          have f3 : (0 : Int) < (z : Int) := by omega
          have n3 : decide (0 < z) = true := by simp; omega
          have hov : over p (x + s) true = true := by rw [HOV.out]; exact decide_eq_true (by omega)
          clear hA hB hC
          by_cases hk34 : k ≤ 34
          · have hz34 : (k : Int) ≤ 34 := by omega
            have HNX := Lib.hid (root_next HX.out.1 HX.out.2.1 HX.out.2.2 true hov)
            have hnx : nxt k x s true = x := by unfold nxt; simp [hk34]
            rw [hnx] at HNX
            clear hov hnx
            go_wp2_with (refine wpList_store_row rfl 87 _ _ rfl w2.heap.size (ul [q2, q3]) rfl rfl 87 _ HBL.out (by rw [ul_size]; exact sz2) rfl (ul_one _) (Hid.out ?_))
            refine Lib.hid ?_
            go_wp2_with fail
            go_roundw
            case rel => exact ⟨x, (k : Int) - 1, k, rfl, rfl, by omega, by omega, by omega, HNX.out.1, HNX.out.2.1, HNX.out.2.2, HB4.out⟩
            case measure => simp [intOf] <;> omega
          · have hz34 : ¬ (k : Int) ≤ 34 := by omega
            have HNX := Lib.hid (root_next HX.out.1 HX.out.2.1 HX.out.2.2 true hov)
            have hnx : nxt k x s true = x := by unfold nxt; simp [hk34]
            rw [hnx] at HNX
            clear hov hnx
            go_wp2_with (refine wpList_store_row rfl 87 _ _ rfl w2.heap.size (ul [q2, q3]) rfl rfl 87 _ HBL.out (by rw [ul_size]; exact sz2) rfl (ul_one _) (Hid.out ?_))
            refine Lib.hid ?_
            go_wp2_with fail
            go_roundw
            case rel => exact ⟨x, (k : Int) - 1, k, rfl, rfl, by omega, by omega, by omega, HNX.out.1, HNX.out.2.1, HNX.out.2.2, HB4.out⟩
            case measure => simp [intOf] <;> omega
        · have f1 : ¬ (p : Int) < (y : Int) := by omega
          have n1 : decide (p < y) = false := by simp; omega
          have f2 : ((y : Int) == (p : Int)) = true := beq_iff_eq.2 (by omega)
          have f3 : ¬ (0 : Int) < (z : Int) := by omega
          have n3 : decide (0 < z) = false := by simp; omega
          have f4 : (0 : Int) < (q3 : Int) := by omega
          have n4 : decide (0 < q3) = true := by simp; omega
          have hov : over p (x + s) true = true := by rw [HOV.out]; exact decide_eq_true (by omega)
          clear hA hB hC hD
          by_cases hk34 : k ≤ 34
          · have hz34 : (k : Int) ≤ 34 := by omega
            have HNX := Lib.hid (root_next HX.out.1 HX.out.2.1 HX.out.2.2 true hov)
            have hnx : nxt k x s true = x := by unfold nxt; simp [hk34]
            rw [hnx] at HNX
            clear hov hnx
            go_wp2_with (refine wpList_store_row rfl 87 _ _ rfl w2.heap.size (ul [q2, q3]) rfl rfl 87 _ HBL.out (by rw [ul_size]; exact sz2) rfl (ul_one _) (Hid.out ?_))
            refine Lib.hid ?_
            go_wp2_with fail
            go_roundw
            case rel => exact ⟨x, (k : Int) - 1, k, rfl, rfl, by omega, by omega, by omega, HNX.out.1, HNX.out.2.1, HNX.out.2.2, HB4.out⟩
            case measure => simp [intOf] <;> omega
          · have hz34 : ¬ (k : Int) ≤ 34 := by omega
            have HNX := Lib.hid (root_next HX.out.1 HX.out.2.1 HX.out.2.2 true hov)
            have hnx : nxt k x s true = x := by unfold nxt; simp [hk34]
            rw [hnx] at HNX
            clear hov hnx
            go_wp2_with (refine wpList_store_row rfl 87 _ _ rfl w2.heap.size (ul [q2, q3]) rfl rfl 87 _ HBL.out (by rw [ul_size]; exact sz2) rfl (ul_one _) (Hid.out ?_))
            refine Lib.hid ?_
            go_wp2_with fail
            go_roundw
            case rel => exact ⟨x, (k : Int) - 1, k, rfl, rfl, by omega, by omega, by omega, HNX.out.1, HNX.out.2.1, HNX.out.2.2, HB4.out⟩
            case measure => simp [intOf] <;> omega
        · have f1 : ¬ (p : Int) < (y : Int) := by omega
          have n1 : decide (p < y) = false := by simp; omega
          have f2 : ((y : Int) == (p : Int)) = true := beq_iff_eq.2 (by omega)
          have f3 : ¬ (0 : Int) < (z : Int) := by omega
          have n3 : decide (0 < z) = false := by simp; omega
          have f4 : ¬ (0 : Int) < (q3 : Int) := by omega
          have n4 : decide (0 < q3) = false := by simp; omega
          have hov : over p (x + s) true = false := by rw [HOV.out]; exact decide_eq_false (by omega)
          clear hA hB hC hD
          by_cases hk34 : k ≤ 34
          · have hz34 : (k : Int) ≤ 34 := by omega
            have HNX := Lib.hid (root_next HX.out.1 HX.out.2.1 HX.out.2.2 false hov)
            have hnx : nxt k x s false = x + s := by unfold nxt; simp [hk34]
            rw [hnx] at HNX
            clear hov hnx
            go_wp2_with (refine wpList_store_row rfl 87 _ _ rfl w2.heap.size (ul [q2, q3]) rfl rfl 87 _ HBL.out (by rw [ul_size]; exact sz2) rfl (ul_one _) (Hid.out ?_))
            refine Lib.hid ?_
            go_wp2_with fail
            go_roundw
            case rel => exact ⟨x + s, (k : Int) - 1, k, by rw [← HTT.out], rfl, by omega, by omega, by omega, HNX.out.1, HNX.out.2.1, HNX.out.2.2, HB4.out⟩
            case measure => simp [intOf] <;> omega
          · have hz34 : ¬ (k : Int) ≤ 34 := by omega
            have HNX := Lib.hid (root_next HX.out.1 HX.out.2.1 HX.out.2.2 false hov)
            have hnx : nxt k x s false = x := by unfold nxt; simp [hk34]
            rw [hnx] at HNX
            clear hov hnx
            go_wp2_with (refine wpList_store_row rfl 87 _ _ rfl w2.heap.size (ul [q2, q3]) rfl rfl 87 _ HBL.out (by rw [ul_size]; exact sz2) rfl (ul_one _) (Hid.out ?_))
            refine Lib.hid ?_
            go_wp2_with fail
            go_roundw
            case rel => exact ⟨x, (k : Int) - 1, k, rfl, rfl, by omega, by omega, by omega, HNX.out.1, HNX.out.2.1, HNX.out.2.2, HB4.out⟩
            case measure => simp [intOf] <;> omega
        · have f1 : ¬ (p : Int) < (y : Int) := by omega
          have n1 : decide (p < y) = false := by simp; omega
          have f2 : ((y : Int) == (p : Int)) = false := beq_eq_false_iff_ne.2 (by omega)
          have n2 : decide (y = p) = false := by simp; omega
          have hov : over p (x + s) true = false := by rw [HOV.out]; exact decide_eq_false (by omega)
          clear hA hB
          by_cases hk34 : k ≤ 34
          · have hz34 : (k : Int) ≤ 34 := by omega
            have HNX := Lib.hid (root_next HX.out.1 HX.out.2.1 HX.out.2.2 false hov)
            have hnx : nxt k x s false = x + s := by unfold nxt; simp [hk34]
            rw [hnx] at HNX
            clear hov hnx
            go_wp2_with (refine wpList_store_row rfl 87 _ _ rfl w2.heap.size (ul [q2, q3]) rfl rfl 87 _ HBL.out (by rw [ul_size]; exact sz2) rfl (ul_one _) (Hid.out ?_))
            refine Lib.hid ?_
            go_wp2_with fail
            go_roundw
            case rel => exact ⟨x + s, (k : Int) - 1, k, by rw [← HTT.out], rfl, by omega, by omega, by omega, HNX.out.1, HNX.out.2.1, HNX.out.2.2, HB4.out⟩
            case measure => simp [intOf] <;> omega
          · have hz34 : ¬ (k : Int) ≤ 34 := by omega
            have HNX := Lib.hid (root_next HX.out.1 HX.out.2.1 HX.out.2.2 false hov)
            have hnx : nxt k x s false = x := by unfold nxt; simp [hk34]
            rw [hnx] at HNX
            clear hov hnx
            go_wp2_with (refine wpList_store_row rfl 87 _ _ rfl w2.heap.size (ul [q2, q3]) rfl rfl 87 _ HBL.out (by rw [ul_size]; exact sz2) rfl (ul_one _) (Hid.out ?_))
            refine Lib.hid ?_
            go_wp2_with fail
            go_roundw
            case rel => exact ⟨x, (k : Int) - 1, k, rfl, rfl, by omega, by omega, by omega, HNX.out.1, HNX.out.2.1, HNX.out.2.2, HB4.out⟩
            case measure => simp [intOf] <;> omega
    · have hz0 : ¬ (0 : Int) ≤ z := hz
      have hm0 : m = 0 := by omega
      subst hm0
      have HB := Lib.hid hb
      have hfin : Sh.rootFrom p true 0 x = Sh.rootFrom p true 35 0 := hrf
      have hr : Sh.root p true = x % 4294967296 := by unfold Sh.root; rw [← hfin]; rfl
      have HR := Lib.hid hr
      have hx35 : x ≤ 34359738368 := by have h1 : (2 : Nat) ^ 35 = 34359738368 := rfl; have h2 : (2 : Nat) ^ (min 0 35) = 1 := rfl; omega
      have mk := mask32 x (by omega)
      obtain ⟨y, hy⟩ : ∃ y, x % 4294967296 = y := ⟨_, rfl⟩
      rw [hy] at mk hr
      have hyl : y < 4294967296 := by omega
      have hR : R (BitVec.ofNat 32 (Sh.root p true)) = (y : Int) := by rw [hr]; unfold R; rw [BitVec.toNat_ofNat]; omega
      have HRR := Lib.hid hR
      clear hb hrf hfin hr hx h35 hR hy
      go_wp2_with fail
      go_ret
      exact ⟨by rw [HRR.out]; rfl, HB.out⟩
end Go.Proofs.YthaejfbbefpojaaDoor
