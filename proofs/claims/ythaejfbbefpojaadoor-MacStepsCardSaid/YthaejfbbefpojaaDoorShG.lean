/-
  Contract of the document's root: the first 32 bits of the part behind the point of a root of a prime. Of any number.
-/
import Derived.Test.YthaejfbbefpojaaDoorShQ
import Derived.Test.YthaejfbbefpojaaDoorShW
import Derived.LoopTactic
namespace Go.Proofs.YthaejfbbefpojaaDoor
open Go.RowKit

/-- Is it too great? -/
def over (p t : Nat) (third : Bool) : Bool := if third then decide (p * 2 ^ 96 < t ^ 3) else decide (p * 2 ^ 64 < t ^ 2)
theorem rootFrom_step (p : Nat) (third : Bool) (b r : Nat) : Sh.rootFrom p third (b + 1) r = Sh.rootFrom p third b (if over p (r + 2 ^ b) third then r else r + 2 ^ b) := by
  rw [Sh.rootFrom]
  congr 1
  unfold over
  cases third
  · simp only [Bool.false_eq_true, if_false, decide_eq_true_eq]
    by_cases h : (r + 2 ^ b) ^ 2 ≤ p * 2 ^ 64
    · rw [if_pos h, if_neg (by omega)]
    · rw [if_neg h, if_pos (by omega)]
  · simp only [if_true, decide_eq_true_eq]
    by_cases h : (r + 2 ^ b) ^ 3 ≤ p * 2 ^ 96
    · rw [if_pos h, if_neg (by omega)]
    · rw [if_neg h, if_pos (by omega)]
def nxt (k x s : Nat) (v : Bool) : Nat := if k ≤ 34 ∧ v = false then x + s else x
theorem root_next {p k x s R0 : Nat} {third : Bool} (hx : x + 2 ^ (min (k + 1) 35) ≤ 2 ^ 35) (h35 : 35 ≤ k + 1 → x = 0) (hs : 2 ^ k = s ∧ Sh.rootFrom p third (min (k + 1) 35) x = R0) (v : Bool) (hv : over p (x + s) third = v) :
    nxt k x s v + 2 ^ (min k 35) ≤ 2 ^ 35 ∧ (35 ≤ k → nxt k x s v = 0) ∧ Sh.rootFrom p third (min k 35) (nxt k x s v) = R0 := by
  obtain ⟨rfl, hr⟩ := hs
  by_cases hk : k ≤ 34
  · have e1 : min (k + 1) 35 = k + 1 := by omega
    have e2 : min k 35 = k := by omega
    rw [e1] at hx hr
    rw [e2]
    rw [rootFrom_step, hv] at hr
    have e3 : (2 : Nat) ^ (k + 1) = 2 ^ k + 2 ^ k := by rw [Nat.pow_succ]; omega
    rw [e3] at hx
    have hpos := Nat.two_pow_pos k
    unfold nxt
    cases v
    · rw [if_pos ⟨hk, rfl⟩]
      exact ⟨by omega, fun h => by omega, hr⟩
    · rw [if_neg (by simp)]
      exact ⟨by omega, fun h => by omega, hr⟩
  · have e1 : min (k + 1) 35 = 35 := by omega
    have e2 : min k 35 = 35 := by omega
    rw [e1] at hx hr
    rw [e2]
    unfold nxt
    rw [if_neg (fun h => hk h.1)]
    exact ⟨hx, fun _ => h35 (by omega), hr⟩
theorem ul_one (l : List Nat) : (ul l).all (·.oneCell') = true := by simp [ul, cn, Value.oneCell']
theorem cmp4 (p q0 q1 : Nat) : p < q0 ∨ (¬ p < q0 ∧ q0 = p ∧ 0 < q1) ∨ (¬ p < q0 ∧ q0 = p ∧ q1 = 0) ∨ (¬ p < q0 ∧ q0 ≠ p) := by omega
theorem sq_over (p t q0 q1 : Nat) (h0 : t * t / 18446744073709551616 = q0) (h1 : t * t % 18446744073709551616 = q1) : over p t false = decide (p < q0 ∨ (q0 = p ∧ 0 < q1)) := by
  unfold over
  simp only [Bool.false_eq_true, if_false]
  rw [Nat.pow_two]
  generalize t * t = T at h0 h1 ⊢
  congr 1
  apply propext
  constructor <;> intro h <;> omega
set_option maxRecDepth 100000 in
set_option maxHeartbeats 8000000 in
theorem root_sq (p : Nat) (w : World) :
    Calls Tryd.prog 36 #[.int .u64 (p : Int), .bool false] w fun e w' => e = .returned (.int .u32 (R (BitVec.ofNat 32 (Sh.root p false)))) ∧ Below w.heap.size w w' := by
  go_enter Tryd.func36, Tryd.ntmps36
  go_wp2_with fail
  go_loopw [5, 6, 7, 8, 9] (fun r b _ _ _ wr => ∃ (x : Nat) (z : Int) (m : Nat), r = .int .u64 x ∧ b = .int .i64 z ∧ m = (z + 1).toNat ∧ -1 ≤ z ∧ z ≤ 36 ∧ x + 2 ^ (min m 35) ≤ 2 ^ 35 ∧ (35 ≤ m → x = 0) ∧ Sh.rootFrom p false (min m 35) x = Sh.rootFrom p false 35 0 ∧ Below w.heap.size w wr)
    (fun _ b _ _ _ _ => (intOf b + 1).toNat)
  case atStart => exact ⟨0, 36, 37, rfl, rfl, rfl, by omega, by omega, by decide, fun _ => rfl, rfl, Below.refl _ _⟩
  case round =>
    obtain ⟨x, z, m, rfl, rfl, hm, hz1, hz2, hx, h35, hrf, hb⟩ := hrel
    by_cases hz : 0 ≤ z
    · obtain ⟨k, rfl⟩ : ∃ k : Nat, z = (k : Int) := ⟨z.toNat, by omega⟩
      have hk : k ≤ 36 := by omega
      have hm' : m = k + 1 := by omega
      subst hm'
      have hpw : (2 : Nat) ^ k ≤ 68719476736 := Nat.pow_le_pow_right (by decide) hk
      obtain ⟨s, hs⟩ : ∃ s, 2 ^ k = s := ⟨_, rfl⟩
      have hx35 : x ≤ 34359738368 := by have h1 : (2 : Nat) ^ 35 = 34359738368 := rfl; have h2 := Nat.two_pow_pos (min (k + 1) 35); omega
      have HX := Lib.hid (And.intro hx (And.intro h35 (And.intro hs hrf)))
      rw [hs] at hpw
      have hw : IntKind.u64.wrap ((2 : Int) ^ k) = (s : Int) := by
        rw [show ((2 : Int) ^ k) = ((2 ^ k : Nat) : Int) by simp, hs, IntKind.wrap_u64]
        omega
      obtain ⟨tt, htt⟩ : ∃ t, x + s = t := ⟨_, rfl⟩
      have hti : (x : Int) + (s : Int) = (tt : Int) := by omega
      have htl : tt < 274877906944 := by omega
      have HTT := Lib.hid htt
      have HB := Lib.hid hb
      have HT := Lib.hid (fun W => times_any tt 0 tt htl (by decide) (by omega) W)
      rw [Nat.zero_mul, Nat.zero_add] at HT
      obtain ⟨q0, hq0⟩ : ∃ q, tt * tt / 18446744073709551616 = q := ⟨_, rfl⟩
      obtain ⟨q1, hq1⟩ : ∃ q, tt * tt % 18446744073709551616 = q := ⟨_, rfl⟩
      have HOV := Lib.hid (sq_over p tt q0 q1 hq0 hq1)
      have hq0l : q0 < 18446744073709551616 := by
        have := Nat.mul_le_mul (show tt ≤ 274877906943 by omega) (show tt ≤ 274877906943 by omega)
        omega
      have hq1l : q1 < 18446744073709551616 := by omega
      rw [hq0, hq1] at HT
      rw [← htt] at HOV
      clear hb hx h35 hrf hs htt hq0 hq1
      go_wp2_with fail
      refine (HT.out _).mono ?_
      rintro e w2 ⟨rfl, hb2⟩
      have HB2 := Lib.hid ((HB.out.trans (hb2.mono HB.out.size)))
      have hsz2 := HB.out.size
      have hle2 := hb2.size
      clear hb2 HT
      have hbk := (Blk.new w2 87 #[.int .u64 0, .int .u64 0]).row (ul [q0, q1])
      have c0 := Blk.ul hbk 0 q0 rfl
      have c1 := Blk.ul hbk 1 q1 rfl
      have HB3 := Lib.hid (Kept.below HB2.out (Kept.setRow (S := fun b => w2.heap.size ≤ b) (Kept.alloc (Kept.refl _ w2) (.cells #[.int .u64 0, .int .u64 0] 87)) (.inl (Nat.le_refl _)) (ul [q0, q1])) (fun _ h => Nat.le_trans hsz2 (Nat.le_trans hle2 h)) HB2.out.size)
      clear hbk hsz2 hle2
      rcases cmp4 p q0 q1 with hA | ⟨hA, hB, hC⟩ | ⟨hA, hB, hC⟩ | ⟨hA, hB⟩
      · have f1 : (p : Int) < (q0 : Int) := by omega
        have hov : over p (x + s) false = true := by rw [HOV.out]; exact decide_eq_true (by omega)
        clear hA
        by_cases hk34 : k ≤ 34
        · have hz34 : (k : Int) ≤ 34 := by omega
          have HNX := Lib.hid (root_next HX.out.1 HX.out.2.1 HX.out.2.2 true hov)
          have hnx : nxt k x s true = x := by unfold nxt; simp [hk34]
          rw [hnx] at HNX
          clear hov hnx
          have n1 : decide (p < q0) = true := by simp; omega
          go_wp2_with (refine wpList_store_row rfl 87 _ _ rfl w2.heap.size (ul [q0, q1]) rfl rfl 87 _ (Blk.new w2 _ _) (by rw [ul_size]; exact sz2) rfl (ul_one _) (Hid.out ?_))
          refine Lib.hid ?_
          go_wp2_with fail
          go_roundw
          case rel => exact ⟨x, (k : Int) - 1, k, rfl, rfl, by omega, by omega, by omega, HNX.out.1, HNX.out.2.1, HNX.out.2.2, HB3.out⟩
          case measure => simp [intOf] <;> omega
        · have hz34 : ¬ (k : Int) ≤ 34 := by omega
          have HNX := Lib.hid (root_next HX.out.1 HX.out.2.1 HX.out.2.2 true hov)
          have hnx : nxt k x s true = x := by unfold nxt; simp [hk34]
          rw [hnx] at HNX
          clear hov hnx
          have n1 : decide (p < q0) = true := by simp; omega
          go_wp2_with (refine wpList_store_row rfl 87 _ _ rfl w2.heap.size (ul [q0, q1]) rfl rfl 87 _ (Blk.new w2 _ _) (by rw [ul_size]; exact sz2) rfl (ul_one _) (Hid.out ?_))
          refine Lib.hid ?_
          go_wp2_with fail
          go_roundw
          case rel => exact ⟨x, (k : Int) - 1, k, rfl, rfl, by omega, by omega, by omega, HNX.out.1, HNX.out.2.1, HNX.out.2.2, HB3.out⟩
          case measure => simp [intOf] <;> omega
      · have f1 : ¬ (p : Int) < (q0 : Int) := by omega
        have f2 : ((q0 : Int) == (p : Int)) = true := beq_iff_eq.2 (by omega)
        have f3 : (0 : Int) < (q1 : Int) := by omega
        have hov : over p (x + s) false = true := by rw [HOV.out]; exact decide_eq_true (by omega)
        clear hA hB hC
        by_cases hk34 : k ≤ 34
        · have hz34 : (k : Int) ≤ 34 := by omega
          have HNX := Lib.hid (root_next HX.out.1 HX.out.2.1 HX.out.2.2 true hov)
          have hnx : nxt k x s true = x := by unfold nxt; simp [hk34]
          rw [hnx] at HNX
          clear hov hnx
          have n1 : decide (p < q0) = false := by simp; omega
          have n3 : decide (0 < q1) = true := by simp; omega
          go_wp2_with (refine wpList_store_row rfl 87 _ _ rfl w2.heap.size (ul [q0, q1]) rfl rfl 87 _ (Blk.new w2 _ _) (by rw [ul_size]; exact sz2) rfl (ul_one _) (Hid.out ?_))
          refine Lib.hid ?_
          go_wp2_with fail
          go_roundw
          case rel => exact ⟨x, (k : Int) - 1, k, rfl, rfl, by omega, by omega, by omega, HNX.out.1, HNX.out.2.1, HNX.out.2.2, HB3.out⟩
          case measure => simp [intOf] <;> omega
        · have hz34 : ¬ (k : Int) ≤ 34 := by omega
          have HNX := Lib.hid (root_next HX.out.1 HX.out.2.1 HX.out.2.2 true hov)
          have hnx : nxt k x s true = x := by unfold nxt; simp [hk34]
          rw [hnx] at HNX
          clear hov hnx
          have n1 : decide (p < q0) = false := by simp; omega
          have n3 : decide (0 < q1) = true := by simp; omega
          go_wp2_with (refine wpList_store_row rfl 87 _ _ rfl w2.heap.size (ul [q0, q1]) rfl rfl 87 _ (Blk.new w2 _ _) (by rw [ul_size]; exact sz2) rfl (ul_one _) (Hid.out ?_))
          refine Lib.hid ?_
          go_wp2_with fail
          go_roundw
          case rel => exact ⟨x, (k : Int) - 1, k, rfl, rfl, by omega, by omega, by omega, HNX.out.1, HNX.out.2.1, HNX.out.2.2, HB3.out⟩
          case measure => simp [intOf] <;> omega
      · have f1 : ¬ (p : Int) < (q0 : Int) := by omega
        have f2 : ((q0 : Int) == (p : Int)) = true := beq_iff_eq.2 (by omega)
        have f3 : ¬ (0 : Int) < (q1 : Int) := by omega
        have hov : over p (x + s) false = false := by rw [HOV.out]; exact decide_eq_false (by omega)
        clear hA hB hC
        by_cases hk34 : k ≤ 34
        · have hz34 : (k : Int) ≤ 34 := by omega
          have HNX := Lib.hid (root_next HX.out.1 HX.out.2.1 HX.out.2.2 false hov)
          have hnx : nxt k x s false = x + s := by unfold nxt; simp [hk34]
          rw [hnx] at HNX
          clear hov hnx
          have n1 : decide (p < q0) = false := by simp; omega
          have n3 : decide (0 < q1) = false := by simp; omega
          go_wp2_with (refine wpList_store_row rfl 87 _ _ rfl w2.heap.size (ul [q0, q1]) rfl rfl 87 _ (Blk.new w2 _ _) (by rw [ul_size]; exact sz2) rfl (ul_one _) (Hid.out ?_))
          refine Lib.hid ?_
          go_wp2_with fail
          go_roundw
          case rel => exact ⟨x + s, (k : Int) - 1, k, by rw [← HTT.out], rfl, by omega, by omega, by omega, HNX.out.1, HNX.out.2.1, HNX.out.2.2, HB3.out⟩
          case measure => simp [intOf] <;> omega
        · have hz34 : ¬ (k : Int) ≤ 34 := by omega
          have HNX := Lib.hid (root_next HX.out.1 HX.out.2.1 HX.out.2.2 false hov)
          have hnx : nxt k x s false = x := by unfold nxt; simp [hk34]
          rw [hnx] at HNX
          clear hov hnx
          have n1 : decide (p < q0) = false := by simp; omega
          have n3 : decide (0 < q1) = false := by simp; omega
          go_wp2_with (refine wpList_store_row rfl 87 _ _ rfl w2.heap.size (ul [q0, q1]) rfl rfl 87 _ (Blk.new w2 _ _) (by rw [ul_size]; exact sz2) rfl (ul_one _) (Hid.out ?_))
          refine Lib.hid ?_
          go_wp2_with fail
          go_roundw
          case rel => exact ⟨x, (k : Int) - 1, k, rfl, rfl, by omega, by omega, by omega, HNX.out.1, HNX.out.2.1, HNX.out.2.2, HB3.out⟩
          case measure => simp [intOf] <;> omega
      · have f1 : ¬ (p : Int) < (q0 : Int) := by omega
        have f2 : ((q0 : Int) == (p : Int)) = false := beq_eq_false_iff_ne.2 (by omega)
        have hov : over p (x + s) false = false := by rw [HOV.out]; exact decide_eq_false (by omega)
        clear hA hB
        by_cases hk34 : k ≤ 34
        · have hz34 : (k : Int) ≤ 34 := by omega
          have HNX := Lib.hid (root_next HX.out.1 HX.out.2.1 HX.out.2.2 false hov)
          have hnx : nxt k x s false = x + s := by unfold nxt; simp [hk34]
          rw [hnx] at HNX
          clear hov hnx
          have n1 : decide (p < q0) = false := by simp; omega
          have n2 : decide (q0 = p) = false := by have := beq_eq_false_iff_ne.1 f2; simp; omega
          go_wp2_with (refine wpList_store_row rfl 87 _ _ rfl w2.heap.size (ul [q0, q1]) rfl rfl 87 _ (Blk.new w2 _ _) (by rw [ul_size]; exact sz2) rfl (ul_one _) (Hid.out ?_))
          refine Lib.hid ?_
          go_wp2_with fail
          go_roundw
          case rel => exact ⟨x + s, (k : Int) - 1, k, by rw [← HTT.out], rfl, by omega, by omega, by omega, HNX.out.1, HNX.out.2.1, HNX.out.2.2, HB3.out⟩
          case measure => simp [intOf] <;> omega
        · have hz34 : ¬ (k : Int) ≤ 34 := by omega
          have HNX := Lib.hid (root_next HX.out.1 HX.out.2.1 HX.out.2.2 false hov)
          have hnx : nxt k x s false = x := by unfold nxt; simp [hk34]
          rw [hnx] at HNX
          clear hov hnx
          have n1 : decide (p < q0) = false := by simp; omega
          have n2 : decide (q0 = p) = false := by have := beq_eq_false_iff_ne.1 f2; simp; omega
          go_wp2_with (refine wpList_store_row rfl 87 _ _ rfl w2.heap.size (ul [q0, q1]) rfl rfl 87 _ (Blk.new w2 _ _) (by rw [ul_size]; exact sz2) rfl (ul_one _) (Hid.out ?_))
          refine Lib.hid ?_
          go_wp2_with fail
          go_roundw
          case rel => exact ⟨x, (k : Int) - 1, k, rfl, rfl, by omega, by omega, by omega, HNX.out.1, HNX.out.2.1, HNX.out.2.2, HB3.out⟩
          case measure => simp [intOf] <;> omega

    · have hz0 : ¬ (0 : Int) ≤ z := hz
      have hm0 : m = 0 := by omega
      subst hm0
      have HB := Lib.hid hb
      have hfin : Sh.rootFrom p false 0 x = Sh.rootFrom p false 35 0 := hrf
      have hr : Sh.root p false = x % 4294967296 := by unfold Sh.root; rw [← hfin]; rfl
      have HR := Lib.hid hr
      have hx35 : x ≤ 34359738368 := by have h1 : (2 : Nat) ^ 35 = 34359738368 := rfl; have h2 : (2 : Nat) ^ (min 0 35) = 1 := rfl; omega
      have mk := mask32 x (by omega)
      obtain ⟨y, hy⟩ : ∃ y, x % 4294967296 = y := ⟨_, rfl⟩
      rw [hy] at mk hr
      have hyl : y < 4294967296 := by omega
      have hR : R (BitVec.ofNat 32 (Sh.root p false)) = (y : Int) := by rw [hr]; unfold R; rw [BitVec.toNat_ofNat]; omega
      have HRR := Lib.hid hR
      clear hb hrf hfin hr hx h35 hR hy
      go_wp2_with fail
      go_ret
      exact ⟨by rw [HRR.out]; rfl, HB.out⟩
end Go.Proofs.YthaejfbbefpojaaDoor
