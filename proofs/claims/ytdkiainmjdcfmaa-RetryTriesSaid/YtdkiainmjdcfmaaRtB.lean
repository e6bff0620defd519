/-
  Contracts of package retry: Delay, Next, Dead, Sum with its closure, Within, Tries. No condition.
-/
import Derived.Test.YtdkiainmjdcfmaaRtA
namespace Go.Proofs.Ytdkiainmjdcfmaa
open Go.RowKit

set_option maxRecDepth 100000 in
set_option maxHeartbeats 2000000 in
theorem delay_same (n : Int) (_hn : -9223372036854775808 ≤ n ∧ n ≤ 9223372036854775807) (w : World) :
    Calls Try.prog 9 #[.int .i64 n] w fun e w' => e = .returned (.int .i64 (dlI n)) ∧ w = w' := by
  by_cases h1 : n < 1
  · rw [dlI_none n h1]
    go_enter Try.func9, Try.ntmps9
    go_wp2_with fail
    go_ret
    exact ⟨rfl, rfl⟩
  · obtain ⟨N, rfl⟩ : ∃ N : Nat, n = ((N + 1 : Nat) : Int) := ⟨n.toNat - 1, by omega⟩
    obtain ⟨r, hr⟩ : ∃ r, Rt.dl (N + 1) = r := ⟨_, rfl⟩
    have hd : dlI ((N + 1 : Nat) : Int) = (r : Int) := by unfold dlI; rw [Int.toNat_natCast, hr]
    rw [hd]
    have HR := Lib.hid hr
    obtain ⟨x, hx⟩ : ∃ x : Int, ((N + 1 : Nat) : Int) = x := ⟨_, rfl⟩
    have hx1 : IntKind.i64.wrap (x - 1) = (N : Int) := by rw [IntKind.wrap_i64]; omega
    have hx2 : ¬ x < 1 := by omega
    have HX2 := Lib.hid hx
    rw [hx]
    clear hr hd hx h1
    go_enter Try.func9, Try.ntmps9
    go_wp2_with fail
    go_loop [3, 8] (fun v i => ∃ k m : Nat, v = .int .i64 (m : Int) ∧ i = .int .i64 (k : Int) ∧ Rt.dl (k + 1) = m ∧ k ≤ N ∧ (m < 64 ∨ k = 0)) (fun _ i => N - (intOf i).toNat)
    case atStart => exact ⟨0, 1, rfl, rfl, rfl, by omega, .inl (by omega)⟩
    case round =>
      obtain ⟨k, m, rfl, rfl, hm, hkN, hlt⟩ := hrel
      by_cases c1 : k < N
      · have hc1 : (k : Int) < (N : Int) := by omega
        have h32 := (dl_low (k + 1) (by rcases hlt with h | h; omega; subst h; decide)).2
        have hst := Rt.dl_step (k + 1) (by omega)
        have hm32 : m ≤ 32 := by omega
        have HM2 : Hid (Rt.dl (k + 1 + 1) = 2 * m) := Lib.hid (by omega)
        by_cases c2 : m = 32
        · subst c2
          have HX : Hid ((64 : Int) = (r : Int)) := Lib.hid (by
            have h2 := dl_mono (show k + 1 + 1 ≤ N + 1 by omega)
            have h3 := Rt.dl_le (N + 1)
            have := HR.out
            have := HM2.out
            omega)
          clear hm hlt hst h32
          go_wp2_with fail
          go_ret
          exact ⟨congrArg (fun z : Int => Ending.returned (.int .i64 z)) HX.out, rfl⟩
        · have hc2 : ¬ 2 * (m : Int) = 64 := by omega
          have hm2l : 2 * m < 64 := by omega
          clear hm hlt hst h32
          go_wp2_with fail
          go_round
          case rel => exact ⟨k + 1, 2 * m, by go_num, by go_num, HM2.out, by omega, .inl hm2l⟩
          case measure => simp [intOf]; omega
      · have e : k = N := by omega
        subst e
        have hc1 : ¬ (k : Int) < (k : Int) := by omega
        have HX : Hid ((m : Int) = (r : Int)) := Lib.hid (by have := HR.out; omega)
        clear hm hlt hkN c1
        go_wp2_with fail
        go_ret
        exact ⟨congrArg (fun z : Int => Ending.returned (.int .i64 z)) HX.out, rfl⟩
theorem delay_any (n : Int) (hn : -9223372036854775808 ≤ n ∧ n ≤ 9223372036854775807) (w : World) :
    Calls Try.prog 9 #[.int .i64 n] w fun e w' => e = .returned (.int .i64 (dlI n)) ∧ Below w.heap.size w w' :=
  (delay_same n hn w).mono fun _ _ h => ⟨h.1, h.2 ▸ Below.refl _ w⟩
theorem next_any (t n : Int) (ht : -9223372036854775808 ≤ t ∧ t ≤ 9223372036854775807) (hn : -9223372036854775808 ≤ n ∧ n ≤ 9223372036854775807) (w : World) :
    Calls Try.prog 11 #[.int .i64 t, .int .i64 n] w fun e w' => e = .returned (.int .i64 (Mi.clock t (dlI n))) ∧ Below w.heap.size w w' := by
  have HD := Lib.hid (delay_same n hn w)
  have hdl := dlI_le n
  generalize dlI n = d at HD hdl ⊢
  have HC := Lib.hid (clock_any t d ht (by omega) w)
  go_enter Try.func11, Try.ntmps11
  go_wp2_with fail
  refine HD.out.mono ?_
  rintro e w1 ⟨rfl, rfl⟩
  go_wp2_with fail
  refine HC.out.mono ?_
  rintro e w2 ⟨rfl, rfl⟩
  go_wp2_with fail
  go_ret
  exact ⟨rfl, Below.refl _ _⟩
theorem dead_any (n : Int) (_hn : -9223372036854775808 ≤ n ∧ n ≤ 9223372036854775807) (w : World) :
    Calls Try.prog 13 #[.int .i64 n] w fun e w' => e = .returned (.bool (decide (8 ≤ n))) ∧ Below w.heap.size w w' := by
  by_cases h : 8 ≤ n
  · rw [decide_eq_true h]
    go_enter Try.func13, Try.ntmps13
    go_wp2_with fail
    go_ret
    exact ⟨rfl, Below.refl _ _⟩
  · rw [decide_eq_false h]
    go_enter Try.func13, Try.ntmps13
    go_wp2_with fail
    go_ret
    exact ⟨rfl, Below.refl _ _⟩
/-- The closure's box: what it answers next. -/
theorem term_any (g : Nat) (k : Nat) (hk : k ≤ 2000000) (w : World) (hb : Blk w g 3 #[.int .i64 (k : Int)]) :
    Calls Try.prog 22 #[.pointer (some ⟨g, 0, none⟩)] w fun e w' => e = .returned (.int .i64 (dlI (k : Int))) ∧ Blk w' g 3 #[.int .i64 ((k + 1 : Nat) : Int)] ∧ Kept (fun b => b = g) w w' := by
  have HD := Lib.hid (delay_same (k : Int) (by omega) w)
  generalize dlI (k : Int) = d at HD ⊢
  have c0 := hb.cell 0
  simp only [List.getElem?_toArray, List.getElem?_cons_zero] at c0
  have f0 := hb.frozen 0
  have hw1 : IntKind.i64.wrap ((k : Int) + 1) = ((k + 1 : Nat) : Int) := by rw [IntKind.wrap_i64]; omega
  have HS := Lib.hid (hb.set_ 0 (.int .i64 ((k + 1 : Nat) : Int)))
  have HK := Lib.hid ((Kept.refl (fun b => b = g) w).setCell (p := ⟨g, 0, none⟩) (.inl rfl) (.int .i64 ((k + 1 : Nat) : Int)))
  clear hb
  obtain ⟨k1, hk1⟩ : ∃ x : Int, ((k + 1 : Nat) : Int) = x := ⟨_, rfl⟩
  rw [hk1] at hw1 HS HK
  rw [hk1]
  clear hk1
  go_enter Try.func22, Try.ntmps22
  go_wp2_with fail
  refine HD.out.mono ?_
  rintro e w1 ⟨rfl, rfl⟩
  go_wp2_with fail
  go_ret
  exact ⟨rfl, HS.out, HK.out⟩
theorem terms_any (k : Int) (w : World) :
    Calls Try.prog 21 #[.int .i64 k] w fun e w' => ∃ g, e = .returned (.func (.func 22) #[] #[.pointer (some ⟨g, 0, none⟩)]) ∧ w.heap.size ≤ g ∧ Blk w' g 3 #[.int .i64 k] ∧ Below w.heap.size w w' := by
  go_enter Try.func21, Try.ntmps21
  go_wp2_with fail
  go_ret
  exact ⟨w.heap.size, rfl, Nat.le_refl _, Blk.new w _ _, (Below.refl _ w).alloc (Nat.le_refl _) _⟩
theorem run_min {P : Program} {w : World} (ts : Array TypeId) (t : TypeId) (a b m : Int) (h : min a b = m) : (Builtin.min_ ts t #[.int .i64 a, .int .i64 b]).run P w = .ok (.int .i64 m) w := by
  have e : (.int .i64 m : Value) = .int .i64 (if b < a then b else a) := by
    congr 1
    split <;> omega
  rw [e]
  simp [Builtin.min_, Builtin.min2]
theorem run_max {P : Program} {w : World} (ts : Array TypeId) (t : TypeId) (a b m : Int) (h : max a b = m) : (Builtin.max_ ts t #[.int .i64 a, .int .i64 b]).run P w = .ok (.int .i64 m) w := by
  have e : (.int .i64 m : Value) = .int .i64 (if a < b then b else a) := by
    congr 1
    split <;> omega
  rw [e]
  simp [Builtin.max_, Builtin.max2]
theorem sum_tail (a k : Nat) (ha : 1 ≤ a) (hak : a ≤ k) (h64 : Rt.dl k = 64) : ∀ j, Rt.sum a (k - 1 + j) = Rt.sum a (k - 1) + 64 * j := by
  intro j
  induction j with
  | zero => rfl
  | succ j ih =>
    have h1 := Rt.sum_step a (k - 1 + j) ha (by omega)
    have h2 := dl_mono (show k ≤ k - 1 + j + 1 by omega)
    have h3 := Rt.dl_le (k - 1 + j + 1)
    rw [show k - 1 + (j + 1) = k - 1 + j + 1 by omega, h1, ih]
    omega
set_option maxRecDepth 100000 in
set_option maxHeartbeats 4000000 in
theorem sum_any (a b : Int) (_ha : -9223372036854775808 ≤ a ∧ a ≤ 9223372036854775807) (_hb : -9223372036854775808 ≤ b ∧ b ≤ 9223372036854775807) (w : World) :
    Calls Try.prog 14 #[.int .i64 a, .int .i64 b] w fun e w' => e = .returned (.int .i64 (sumI a b)) ∧ Below w.heap.size w w' := by
  obtain ⟨r, hr⟩ : ∃ r, Rt.sum (max a 1).toNat (min b 1000000).toNat = r := ⟨_, rfl⟩
  have hs : sumI a b = (r : Int) := by unfold sumI; rw [hr]
  rw [hs]
  obtain ⟨A, hA⟩ : ∃ A : Nat, max a 1 = (A : Int) := ⟨(max a 1).toNat, by omega⟩
  have hA1 : 1 ≤ A := by omega
  obtain ⟨B, hB⟩ : ∃ B : Int, min b 1000000 = B := ⟨_, rfl⟩
  have hBm : B ≤ 1000000 := by omega
  have HR : Hid (Rt.sum A B.toNat = r) := Lib.hid (by rw [hA, Int.toNat_natCast, hB] at hr; exact hr)
  have HT := Lib.hid (terms_any (A : Int) w)
  have hent : ∀ (args : Array Value) (W : World), (callFunc 22 args).run Try.prog W = .ok (.enter 22 args) W := fun _ _ => rfl
  have hBlo : -9223372036854775808 ≤ B := by omega
  have hAhi : (A : Int) ≤ 9223372036854775807 := by omega
  have hmx : ∀ (ts : Array TypeId) (ty : TypeId) (W : World), (Builtin.max_ ts ty #[.int .i64 a, .int .i64 1]).run Try.prog W = .ok (.int .i64 (A : Int)) W := fun ts ty W => run_max ts ty _ _ _ hA
  have hmn : ∀ (ts : Array TypeId) (ty : TypeId) (W : World), (Builtin.min_ ts ty #[.int .i64 b, .int .i64 1000000]).run Try.prog W = .ok (.int .i64 B) W := fun ts ty W => run_min ts ty _ _ _ hB
  clear hr hs hA hB
  go_enter Try.func14, Try.ntmps14
  go_wp2_with fail
  refine HT.out.mono ?_
  rintro e w1 ⟨g, rfl, hg, hblk, hb1⟩
  have HG := Lib.hid hg
  have HBK := Lib.hid hblk
  have HB1 := Lib.hid hb1
  clear hg hblk hb1
  go_wp2_with fail
  go_loopw [8, 9] (fun v i wr => ∃ k m : Nat, v = .int .i64 (m : Int) ∧ i = .int .i64 (k : Int) ∧ A ≤ k ∧ (k = A ∨ (k : Int) ≤ B + 1) ∧ m = Rt.sum A (k - 1) ∧ Blk wr g 3 #[.int .i64 (k : Int)] ∧ Below w.heap.size w wr) (fun _ i _ => (B + 1).toNat - (intOf i).toNat)
  case atStart => exact ⟨A, 0, rfl, rfl, Nat.le_refl _, .inl rfl, (Rt.sum_none _ _ (by omega)).symm, HBK.out, HB1.out⟩
  case round =>
    obtain ⟨k, m, rfl, rfl, hak, hkb, hm, hbk, hbw⟩ := hrel
    have HBW := Lib.hid hbw
    by_cases c1 : (k : Int) ≤ B
    · have hmb := sum_le A (k - 1)
      rw [← hm] at hmb
      have hmb2 : m ≤ 64000000 := by omega
      have HC := Lib.hid (term_any g k (by omega) wr hbk)
      have hdk : dlI (k : Int) = (Rt.dl k : Int) := by unfold dlI; rw [Int.toNat_natCast]
      rw [hdk] at HC
      have hst := Rt.sum_step A (k - 1) hA1 (by omega)
      rw [show k - 1 + 1 = k by omega, ← hm] at hst
      have hdb := Rt.dl_le k
      obtain ⟨d, hd⟩ : ∃ d, Rt.dl k = d := ⟨_, rfl⟩
      rw [hd] at HC hst hdb
      have HST := Lib.hid hst
      by_cases c2 : d = 64
      · subst c2
        obtain ⟨j, hj⟩ : ∃ j : Nat, B - (k : Int) = (j : Int) := ⟨(B - (k : Int)).toNat, by omega⟩
        have HX : Hid ((m : Int) + 64 * ((j : Int) + 1) = (r : Int)) := Lib.hid (by
          have h5 := sum_tail A k hA1 hak hd (j + 1)
          rw [← HR.out, show B.toNat = k - 1 + (j + 1) by omega, h5, ← hm]
          omega)
        have hj6 : j ≤ 1000000 := by omega
        clear hm hst hd hdk hbk hbw hkb
        go_wp2_with fail
        refine HC.out.mono ?_
        rintro e w2 ⟨rfl, hbk2, hk2⟩
        have HB2 := Lib.hid (Kept.below HBW.out hk2 (fun x hx => by rw [hx]; exact HG.out) HBW.out.size)
        clear hbk2 hk2
        go_wp2_with fail
        go_ret
        exact ⟨congrArg (fun z : Int => Ending.returned (.int .i64 z)) HX.out, HB2.out⟩
      · have hc2 : ¬ (d : Int) = 64 := by omega
        clear hm hst hd hdk hbk hbw hkb
        go_wp2_with fail
        refine HC.out.mono ?_
        rintro e w2 ⟨rfl, hbk2, hk2⟩
        have HB2 := Lib.hid (Kept.below HBW.out hk2 (fun x hx => by rw [hx]; exact HG.out) HBW.out.size)
        have HBK2 := Lib.hid hbk2
        clear hbk2 hk2
        go_wp2_with fail
        go_roundw
        case rel => exact ⟨k + 1, m + d, by go_num, by go_num, by omega, .inr (by omega), by rw [Nat.add_sub_cancel]; exact HST.out.symm, HBK2.out, HB2.out⟩
        case measure => simp [intOf]; omega
    · have HX : Hid ((m : Int) = (r : Int)) := Lib.hid (by
        rw [hm, ← HR.out]
        rcases hkb with h | h
        · subst h
          rw [Rt.sum_none k (k - 1) (by omega), Rt.sum_none k B.toNat (by omega)]
        · rw [show k - 1 = B.toNat by omega])
      clear hm hbk hbw hkb
      go_wp2_with fail
      go_ret
      exact ⟨congrArg (fun z : Int => Ending.returned (.int .i64 z)) HX.out, HBW.out⟩
set_option maxRecDepth 100000 in
set_option maxHeartbeats 4000000 in
theorem tries_any (t : Int) (_ht : -9223372036854775808 ≤ t ∧ t ≤ 9223372036854775807) (w : World) :
    Calls Try.prog 18 #[.int .i64 t] w fun e w' => e = .returned (.int .i64 (triesI t)) ∧ Below w.heap.size w w' := by
  obtain ⟨r, hr⟩ : ∃ r, triesI t = r := ⟨_, rfl⟩
  rw [hr]
  have HR := Lib.hid hr
  clear hr
  go_enter Try.func18, Try.ntmps18
  go_wp2_with fail
  go_loopw [3] (fun i wr => ∃ k : Nat, i = .int .i64 (k : Int) ∧ k ≤ 8 ∧ (k = 0 ∨ (Rt.sm (k - 1) : Int) ≤ t) ∧ Below w.heap.size w wr) (fun i _ => 8 - (intOf i).toNat)
  case atStart => exact ⟨0, rfl, by omega, .inl rfl, Below.refl _ w⟩
  case round =>
    obtain ⟨k, rfl, hk, hs, hbw⟩ := hrel
    have HBW := Lib.hid hbw
    have HS := Lib.hid hs
    clear hs hbw
    by_cases c1 : k < 8
    · have hc1 : (k : Int) < 8 := by omega
      have hc1b : decide ((k : Int) < 8) = true := decide_eq_true hc1
      have HC := Lib.hid (fun W => sum_any 1 (k : Int) (by omega) (by omega) W)
      have hv : sumI 1 (k : Int) = (Rt.sm k : Int) := by
        unfold sumI
        rw [show (max (1 : Int) 1).toNat = 1 by decide, show (min (k : Int) 1000000).toNat = k by omega]
        unfold Rt.sum
        split
        · rw [show Rt.sm (1 - 1) = 0 from rfl, Nat.sub_zero]
        · rw [show k = 0 by omega]; rfl
      rw [hv] at HC
      obtain ⟨s, hse⟩ : ∃ s, Rt.sm k = s := ⟨_, rfl⟩
      rw [hse] at HC
      have HSE := Lib.hid hse
      clear hse hv
      by_cases c2 : (s : Int) ≤ t
      · go_wp2_with fail
        refine (HC.out _).mono ?_
        rintro e w2 ⟨rfl, hb2⟩
        have HB2 := Lib.hid (HBW.out.trans (hb2.mono HBW.out.size))
        clear hb2
        go_wp2_with fail
        go_roundw
        case rel => exact ⟨k + 1, by go_num, by omega, .inr (by rw [Nat.add_sub_cancel, HSE.out]; exact c2), HB2.out⟩
        case measure => simp [intOf]; omega
      · have HX : Hid ((k : Int) = r) := Lib.hid (by
          rw [← HR.out]
          unfold triesI
          have hse := HSE.out
          by_cases ht0 : t < 0
          · rw [if_pos ht0]
            rcases HS.out with h | h <;> omega
          · rw [if_neg ht0, Rt.tries_of t.toNat k (by omega) (by rcases HS.out with h | h; exact .inl h; exact .inr (by omega)) (.inr (by omega))])
        go_wp2_with fail
        refine (HC.out _).mono ?_
        rintro e w2 ⟨rfl, hb2⟩
        have HB2 := Lib.hid (HBW.out.trans (hb2.mono HBW.out.size))
        clear hb2
        go_wp2_with fail
        go_ret
        exact ⟨congrArg (fun z : Int => Ending.returned (.int .i64 z)) HX.out, HB2.out⟩
    · obtain rfl : k = 8 := by omega
      have HX : Hid ((8 : Int) = r) := Lib.hid (by
        rw [← HR.out]
        unfold triesI
        have h7 : Rt.sm (8 - 1) = 127 := by decide
        have hs : (Rt.sm (8 - 1) : Int) ≤ t := by rcases HS.out with h | h; omega; exact h
        rw [h7] at hs
        rw [if_neg (by omega), Rt.tries_great t.toNat (by omega)]
        rfl)
      go_wp2_with fail
      go_ret
      exact ⟨congrArg (fun z : Int => Ending.returned (.int .i64 z)) HX.out, HBW.out⟩
set_option maxRecDepth 100000 in
set_option maxHeartbeats 4000000 in
theorem within_any (t e : Int) (_ht : -9223372036854775808 ≤ t ∧ t ≤ 9223372036854775807) (_he : -9223372036854775808 ≤ e ∧ e ≤ 9223372036854775807) (w : World) :
    Calls Try.prog 16 #[.int .i64 t, .int .i64 e] w fun x w' => x = .returned (.int .i64 (withinI t e)) ∧ Below w.heap.size w w' := by
  by_cases h1 : t < 1
  · have hv : withinI t e = 0 := by unfold withinI; rw [if_pos h1]
    rw [hv]
    go_enter Try.func16, Try.ntmps16
    go_wp2_with fail
    go_ret
    exact ⟨rfl, Below.refl _ _⟩
  · obtain ⟨T, hT⟩ : ∃ T, min t 1000000 = T := ⟨_, rfl⟩
    obtain ⟨X, hX⟩ : ∃ X, max e 1 = X := ⟨_, rfl⟩
    obtain ⟨E, hE⟩ : ∃ E, min X 1000000 = E := ⟨_, rfl⟩
    have hT1 : 1 ≤ T ∧ T ≤ 1000000 := by omega
    have hE1 : 1 ≤ E ∧ E ≤ 1000000 := by omega
    have HC := Lib.hid (fun W => sum_any 1 T (by omega) (by omega) W)
    have hsl := sumI_le 1 T
    have hv : withinI t e = sumI 1 T + T * (E - 1) := by
      unfold withinI
      rw [if_neg h1, hT, show max 1 (min e 1000000) = E by omega]
    rw [hv]
    generalize sumI 1 T = s at HC hsl ⊢
    obtain ⟨f, hf⟩ : ∃ f, E - 1 = f := ⟨_, rfl⟩
    have hp : 0 ≤ T * f ∧ T * f ≤ 1000000000000 := by
      refine ⟨Int.mul_nonneg (by omega) (by omega), ?_⟩
      have := Int.mul_le_mul (show T ≤ 1000000 by omega) (show f ≤ 1000000 by omega) (by omega) (by omega)
      omega
    have hw1 : IntKind.i64.wrap (E - 1) = f := by rw [IntKind.wrap_i64]; omega
    rw [hf]
    have hw2 : IntKind.i64.wrap (T * f) = T * f := by rw [IntKind.wrap_i64]; omega
    have hw3 : IntKind.i64.wrap (s + T * f) = s + T * f := by rw [IntKind.wrap_i64]; omega
    have hm1 : ∀ (ts : Array TypeId) (ty : TypeId) (W : World), (Builtin.min_ ts ty #[.int .i64 t, .int .i64 1000000]).run Try.prog W = .ok (.int .i64 T) W := fun ts ty W => run_min ts ty _ _ _ hT
    have hm2 : ∀ (ts : Array TypeId) (ty : TypeId) (W : World), (Builtin.max_ ts ty #[.int .i64 e, .int .i64 1]).run Try.prog W = .ok (.int .i64 X) W := fun ts ty W => run_max ts ty _ _ _ hX
    have hm3 : ∀ (ts : Array TypeId) (ty : TypeId) (W : World), (Builtin.min_ ts ty #[.int .i64 X, .int .i64 1000000]).run Try.prog W = .ok (.int .i64 E) W := fun ts ty W => run_min ts ty _ _ _ hE
    clear hv hT hX hE hf
    have HF : Hid (wrap64 (s + wrap64 (T * f)) = s + T * f) := Lib.hid (by
      have e2 : wrap64 (T * f) = T * f := by unfold wrap64; omega
      rw [e2]
      unfold wrap64
      omega)
    clear hw2 hw3 hp
    go_enter Try.func16, Try.ntmps16
    go_wp2_with fail
    refine (HC.out _).mono ?_
    rintro e w1 ⟨rfl, hb1⟩
    have HB1 := Lib.hid hb1
    clear hb1
    go_wp2_with fail
    go_ret
    exact ⟨congrArg (fun z : Int => Ending.returned (.int .i64 z)) HF.out, HB1.out⟩
end Go.Proofs.Ytdkiainmjdcfmaa
