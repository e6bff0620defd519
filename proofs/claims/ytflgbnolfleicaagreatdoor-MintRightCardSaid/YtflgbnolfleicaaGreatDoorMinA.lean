/-
  Contracts of package mint: lifetimes, tries, accounts, times, the clock, the number of a draw. No condition.
-/
import Derived.Test.YtflgbnolfleicaaGreatDoorMi
import Derived.Test.YtflgbnolfleicaaGreatDoorTka
import Derived.Test.YtflgbnolfleicaaGreatDoorSha
namespace Go.Proofs.YtflgbnolfleicaaGreatDoor
open Go.RowKit

theorem ge_seven {p : Int} (h : ¬ (p < 0 ∨ 7 ≤ p)) : p = 0 ∨ p = 1 ∨ p = 2 ∨ p = 3 ∨ p = 4 ∨ p = 5 ∨ p = 6 := by omega
theorem terms_size : (Tryz.prog.info? 65).map (·.size) = some 2 := by kernel_rfl
set_option maxHeartbeats 2000000 in
theorem terms_any (p : Int) (w : World) :
    Calls Tryz.prog 31 #[.int .i64 p] w fun e w' => e = .returned (.agg #[.int .i64 (Mi.life p), .int .i64 (Mi.tries p)]) ∧ Below w.heap.size w w' := by
  by_cases h : p < 0 ∨ 7 ≤ p
  · rw [Mi.life_none p (by omega), Mi.tries_none p (by omega)]
    by_cases h0 : p < 0
    · go_enter Tryz.func31, Tryz.ntmps31
      go_wp2_with fail
      refine bodyPost_ret (results_cell_row (P := Tryz.prog) rfl _ _ w.heap.size 65 _ (0, 0) _ rfl ((Blk.new w _ _).alloc _) Tryz.underlying65 rfl terms_size) rfl ⟨rfl, ((Below.refl _ w).alloc (Nat.le_refl _) _).alloc (by simp) _⟩
    · have h7 : 7 ≤ p := by omega
      go_enter Tryz.func31, Tryz.ntmps31
      go_wp2_with fail
      refine bodyPost_ret (results_cell_row (P := Tryz.prog) rfl _ _ w.heap.size 65 _ (0, 0) _ rfl ((Blk.new w _ _).alloc _) Tryz.underlying65 rfl terms_size) rfl ⟨rfl, ((Below.refl _ w).alloc (Nat.le_refl _) _).alloc (by simp) _⟩
  · rcases ge_seven h with rfl | rfl | rfl | rfl | rfl | rfl | rfl
    all_goals
      (clear h
       go_enter Tryz.func31, Tryz.ntmps31
       go_wp2_with fail
       refine bodyPost_ret (results_cell_row (P := Tryz.prog) rfl _ _ w.heap.size 65 _ (0, 0) _ rfl ((Blk.new w _ _).alloc _) Tryz.underlying65 rfl terms_size) rfl ⟨rfl, ((Below.refl _ w).alloc (Nat.le_refl _) _).alloc (by simp) _⟩)

theorem life_field (x y : Int) (W : World) : (Instr.field 65 (.agg #[.int .i64 x, .int .i64 y]) 0).run Tryz.prog W = .ok (.int .i64 x) W := by
  simp [Instr.field, go_sem, asAgg]
theorem tries_field (x y : Int) (W : World) : (Instr.field 65 (.agg #[.int .i64 x, .int .i64 y]) 1).run Tryz.prog W = .ok (.int .i64 y) W := by
  simp [Instr.field, go_sem, asAgg]
theorem life_any (p : Int) (w : World) :
    Calls Tryz.prog 15 #[.int .i64 p] w fun e w' => e = .returned (.int .i64 (Mi.life p)) ∧ Below w.heap.size w w' := by
  have H := Lib.hid (terms_any p w)
  have hf := fun W => life_field (Mi.life p) (Mi.tries p) W
  generalize Mi.life p = x at H hf ⊢
  generalize Mi.tries p = y at H hf
  go_enter Tryz.func15, Tryz.ntmps15
  go_wp2_with fail
  refine H.out.mono ?_
  rintro e w1 ⟨rfl, hb⟩
  have HB := Lib.hid hb
  clear hb H
  go_wp2_with fail
  go_ret
  exact ⟨rfl, HB.out⟩
theorem tries_any (p : Int) (w : World) :
    Calls Tryz.prog 22 #[.int .i64 p] w fun e w' => e = .returned (.int .i64 (Mi.tries p)) ∧ Below w.heap.size w w' := by
  have H := Lib.hid (terms_any p w)
  have hf := fun W => tries_field (Mi.life p) (Mi.tries p) W
  generalize Mi.life p = x at H hf
  generalize Mi.tries p = y at H hf ⊢
  go_enter Tryz.func22, Tryz.ntmps22
  go_wp2_with fail
  refine H.out.mono ?_
  rintro e w1 ⟨rfl, hb⟩
  have HB := Lib.hid hb
  clear hb H
  go_wp2_with fail
  go_ret
  exact ⟨rfl, HB.out⟩
theorem tries_pos (p : Int) : decide (0 < Mi.tries p) = decide (1 ≤ p ∧ p ≤ 6) := by
  by_cases h : 1 ≤ p ∧ p ≤ 6
  · have := Mi.tries_at p h
    rw [decide_eq_true h, decide_eq_true (by omega)]
  · rw [Mi.tries_none p (by omega), decide_eq_false h]
    decide
theorem ispurpose_any (p : Int) (w : World) :
    Calls Tryz.prog 29 #[.int .i64 p] w fun e w' => e = .returned (.bool (decide (1 ≤ p ∧ p ≤ 6))) ∧ Below w.heap.size w w' := by
  have H := Lib.hid (tries_any p w)
  rw [← tries_pos p]
  generalize Mi.tries p = y at H ⊢
  by_cases h : 0 < y
  · rw [decide_eq_true h]
    go_enter Tryz.func29, Tryz.ntmps29
    go_wp2_with fail
    refine H.out.mono ?_
    rintro e w1 ⟨rfl, hb⟩
    have HB := Lib.hid hb
    clear hb H
    go_wp2_with fail
    go_ret
    exact ⟨rfl, HB.out⟩
  · rw [decide_eq_false h]
    go_enter Tryz.func29, Tryz.ntmps29
    go_wp2_with fail
    refine H.out.mono ?_
    rintro e w1 ⟨rfl, hb⟩
    have HB := Lib.hid hb
    clear hb H
    go_wp2_with fail
    go_ret
    exact ⟨by simp [h], HB.out⟩
theorem isaccount_any (p : Int) (w : World) :
    Calls Tryz.prog 26 #[.int .i64 p] w fun e w' => e = .returned (.bool (decide (1 ≤ p ∧ p ≤ 99))) ∧ w = w' := by
  by_cases h1 : 1 ≤ p
  · by_cases h2 : p ≤ 99
    · rw [decide_eq_true ⟨h1, h2⟩]
      go_enter Tryz.func26, Tryz.ntmps26
      go_wp2_with fail
      go_ret
      exact ⟨rfl, rfl⟩
    · rw [decide_eq_false (by omega)]
      go_enter Tryz.func26, Tryz.ntmps26
      go_wp2_with fail
      go_ret
      exact ⟨rfl, rfl⟩
  · rw [decide_eq_false (by omega)]
    go_enter Tryz.func26, Tryz.ntmps26
    go_wp2_with fail
    go_ret
    exact ⟨rfl, rfl⟩
theorem istime_any (p : Int) (w : World) :
    Calls Tryz.prog 28 #[.int .i64 p] w fun e w' => e = .returned (.bool (decide (0 ≤ p ∧ p ≤ 1099511627776))) ∧ w = w' := by
  by_cases h1 : 0 ≤ p
  · by_cases h2 : p ≤ 1099511627776
    · rw [decide_eq_true ⟨h1, h2⟩]
      go_enter Tryz.func28, Tryz.ntmps28
      go_wp2_with fail
      go_ret
      exact ⟨rfl, rfl⟩
    · rw [decide_eq_false (by omega)]
      go_enter Tryz.func28, Tryz.ntmps28
      go_wp2_with fail
      go_ret
      exact ⟨rfl, rfl⟩
  · rw [decide_eq_false (by omega)]
    go_enter Tryz.func28, Tryz.ntmps28
    go_wp2_with fail
    go_ret
    exact ⟨rfl, rfl⟩
theorem clock_any (n t : Int) (hn : -9223372036854775808 ≤ n ∧ n ≤ 9223372036854775807) (ht : -9223372036854775808 ≤ t ∧ t ≤ 9223372036854775807) (w : World) :
    Calls Tryz.prog 10 #[.int .i64 n, .int .i64 t] w fun e w' => e = .returned (.int .i64 (Mi.clock n t)) ∧ w = w' := by
  by_cases h1 : n < 0
  · rw [Mi.clock_neg n t (.inl h1)]
    go_enter Tryz.func10, Tryz.ntmps10
    go_wp2_with fail
    go_ret
    exact ⟨rfl, rfl⟩
  · by_cases h2 : t < 0
    · rw [Mi.clock_neg n t (.inr h2)]
      go_enter Tryz.func10, Tryz.ntmps10
      go_wp2_with fail
      go_ret
      exact ⟨rfl, rfl⟩
    · have hw1 : IntKind.i64.wrap (1099511627776 - n) = 1099511627776 - n := by rw [IntKind.wrap_i64]; omega
      by_cases h3 : n + t ≤ 1099511627776
      · rw [Mi.clock_low n t (by omega) (by omega) h3]
        have h4 : ¬ (1099511627776 - n < t) := by omega
        have hw2 : IntKind.i64.wrap (n + t) = n + t := by rw [IntKind.wrap_i64]; omega
        go_enter Tryz.func10, Tryz.ntmps10
        go_wp2_with fail
        go_ret
        exact ⟨rfl, rfl⟩
      · rw [Mi.clock_high n t (by omega) (by omega) h3]
        have h4 : 1099511627776 - n < t := by omega
        go_enter Tryz.func10, Tryz.ntmps10
        go_wp2_with fail
        go_ret
        exact ⟨rfl, rfl⟩

/-- One byte more. -/
theorem taker_any (g n : Nat) (b : UInt8) (hn : n < 72057594037927936) (w : World) (hb : Blk w g 81 #[.int .u64 (n : Int)]) :
    Calls Tryz.prog 79 #[.int .u8 (b.toNat : Int), .pointer (some ⟨g, 0, none⟩)] w fun e w' => e = .returned (.int .u64 ((n * 256 + b.toNat : Nat) : Int)) ∧ w' = w.setCell ⟨g, 0, none⟩ (.int .u64 ((n * 256 + b.toNat : Nat) : Int)) := by
  have hc := hb.cell 0
  have hf := hb.frozen 0
  have hlt := b.toNat_lt
  have h1 : IntKind.u64.wrap ((n : Int) * 2 ^ 8) = ((n * 256 : Nat) : Int) := by
    rw [u64_shl]
    congr 1
    omega
  have h2 : bits BinOp.or IntKind.u64 ((n : Int) * 256) ((b.toNat : Nat) : Int) = ((n * 256 + b.toNat : Nat) : Int) := by
    rw [show (n : Int) * 256 = ((n * 256 : Nat) : Int) by omega, u64_or _ _ (by omega) (by omega), show n * 256 = n * 2 ^ 8 from rfl, shl_or (by omega)]
  have h3 : IntKind.u64.wrap ((b.toNat : Nat) : Int) = ((b.toNat : Nat) : Int) := u64_wrap_nat _ (by omega)
  go_enter Tryz.func79, Tryz.ntmps79
  go_wp2_with fail
  go_ret
  have h4 : (n : Int) * 256 + (b.toNat : Int) = ((n * 256 + b.toNat : Nat) : Int) := by omega
  exact ⟨congrArg (fun z => Ending.returned (.int .u64 z)) h4, congrArg (fun z => w.setCell ⟨g, 0, none⟩ (.int .u64 z)) h4⟩
/-- The cell that the gatherer keeps. -/
theorem gather_new (w : World) :
    Calls Tryz.prog 58 #[] w fun e w' => e = .returned (.func (.func 79) #[] #[.pointer (some ⟨w.heap.size, 0, none⟩)]) ∧ w' = w.alloc (.cells #[.int .u64 0] 81) := by
  go_enter Tryz.func58, Tryz.ntmps58
  go_wp2_with fail
  go_ret
  exact ⟨rfl, rfl⟩
set_option maxRecDepth 100000 in
set_option maxHeartbeats 2000000 in
theorem number_any (s : ByteArray) (hs : s.size ≤ 8) (w : World) :
    Calls Tryz.prog 41 #[.string s] w fun e w' => e = .returned (.int .u64 (Mi.num s.data.toList : Int)) ∧ Below w.heap.size w w' := by
  obtain ⟨L, hL⟩ : ∃ L, s.data.toList = L := ⟨_, rfl⟩
  have hLl : L.length = s.size := by rw [← hL]; simp
  have HG := Lib.hid (gather_new w)
  rw [hL]
  have HL := Lib.hid hL
  clear hL
  go_enter Tryz.func41, Tryz.ntmps41
  go_wp2_with fail
  refine HG.out.mono ?_
  rintro e w1 ⟨rfl, rfl⟩
  clear HG
  go_wp2_with fail
  go_loopw [4, 5, 9] (fun v _ i wr => ∃ k : Nat, v = .int .u64 (Mi.num (L.take k) : Int) ∧ i = .int .i64 (k : Int) ∧ k ≤ s.size ∧ Blk wr w.heap.size 81 #[.int .u64 (Mi.num (L.take k) : Int)] ∧ Below w.heap.size w wr) (fun _ _ i _ => s.size - (intOf i).toNat)
  case atStart => exact ⟨0, rfl, rfl, by omega, Blk.new w _ _, (Below.refl _ w).alloc (Nat.le_refl _) _⟩
  case round =>
    obtain ⟨k, rfl, rfl, hk, hbk, hB⟩ := hrel
    have HBK := Lib.hid hbk
    have HB := Lib.hid hB
    clear hbk hB
    by_cases hlt : k < s.size
    · have hki : (k : Int) < (s.size : Int) := by omega
      have ht := Mi.num_take_succ L k (by omega)
      have hsx : L[k]'(by omega) = s[k] := by have := HL.out; subst this; simp; rfl
      rw [hsx] at ht
      obtain ⟨x, hx⟩ : ∃ x, s[k] = x := ⟨_, rfl⟩
      rw [hx] at ht
      have hsm : Mi.num (L.take k) < 72057594037927936 := by
        have h1 := Mi.num_lt (L.take k)
        have h2 : (L.take k).length ≤ 7 := by rw [List.length_take]; omega
        have h3 := Nat.pow_le_pow_right (show 0 < 256 by decide) h2
        have h4 : 256 ^ 7 = 72057594037927936 := by decide
        omega
      have HC := Lib.hid (taker_any w.heap.size _ x hsm wr HBK.out)
      rw [← ht] at HC
      have HBK2 := Lib.hid (HBK.out.set_ 0 (.int .u64 (Mi.num (L.take (k + 1)) : Int)))
      have HB2 := Lib.hid (HB.out.setCell (p := ⟨w.heap.size, 0, none⟩) (Nat.le_refl _) (.int .u64 (Mi.num (L.take (k + 1)) : Int)))
      generalize hM : Mi.num (L.take (k + 1)) = M at HC HBK2 HB2
      clear ht hsx hsm
      go_wp2_with fail
      refine HC.out.mono ?_
      rintro e w2 ⟨rfl, rfl⟩
      go_wp2_with fail
      go_roundw
      case rel => exact ⟨k + 1, by rw [hM], by push_cast; rfl, by omega, by rw [hM]; exact HBK2.out, HB2.out⟩
      case measure =>
        show s.size - ((k : Int) + 1).toNat < s.size - (k : Int).toNat
        omega
    · obtain rfl : k = s.size := by omega
      have he : L.take s.size = L := by rw [← hLl, List.take_length]
      rw [he] at HBK ⊢
      go_wp2_with fail
      go_ret
      exact ⟨rfl, HB.out⟩
end Go.Proofs.YtflgbnolfleicaaGreatDoor
