/-
  Contracts of the document's own Life, Tries, Clock and Plain (layer 10). Condition: texts of 100000 bytes at most.
-/
import Derived.Test.YtfjdcopndkdbmaaGreatDoorMinV
import Derived.Test.YtfjdcopndkdbmaaGreatDoorTkr
namespace Go.Proofs.YtfjdcopndkdbmaaGreatDoor
open Go.RowKit

theorem rlife_any (p : Int) (w : World) :
    Calls Tryz.prog 15 #[.int .i64 p] w fun e w' => e = .returned (.int .i64 (Mi.life p)) ∧ w = w' := by
  by_cases h : 1 ≤ p ∧ p ≤ 6
  · obtain ⟨h1, h2⟩ := h
    rcases (show p = 1 ∨ p = 2 ∨ p = 3 ∨ p = 4 ∨ p = 5 ∨ p = 6 by omega) with rfl | rfl | rfl | rfl | rfl | rfl
    all_goals
      (clear h1 h2
       go_enter Tryz.func15, Tryz.ntmps15
       go_wp2_with fail
       go_ret
       exact ⟨rfl, rfl⟩)
  · rw [Mi.life_none p (by omega)]
    have h1 : ¬ p = 1 := by omega
    have h2 : ¬ p = 2 := by omega
    have h3 : ¬ p = 3 := by omega
    have h4 : ¬ p = 4 := by omega
    have h5 : ¬ p = 5 := by omega
    have h6 : ¬ p = 6 := by omega
    go_enter Tryz.func15, Tryz.ntmps15
    go_wp2_with fail
    go_ret
    exact ⟨rfl, rfl⟩
theorem rtries_any (p : Int) (w : World) :
    Calls Tryz.prog 26 #[.int .i64 p] w fun e w' => e = .returned (.int .i64 (Mi.tries p)) ∧ w = w' := by
  unfold Mi.tries
  by_cases h4 : p = 4
  · subst h4
    go_enter Tryz.func26, Tryz.ntmps26
    go_wp2_with fail
    go_ret
    exact ⟨rfl, rfl⟩
  · rw [if_neg h4]
    by_cases h1 : p < 1
    · rw [if_neg (by omega)]
      go_enter Tryz.func26, Tryz.ntmps26
      go_wp2_with fail
      go_ret
      exact ⟨rfl, rfl⟩
    · by_cases h6 : 6 < p
      · rw [if_neg (by omega)]
        go_enter Tryz.func26, Tryz.ntmps26
        go_wp2_with fail
        go_ret
        exact ⟨rfl, rfl⟩
      · rw [if_pos (by omega)]
        go_enter Tryz.func26, Tryz.ntmps26
        go_wp2_with fail
        go_ret
        exact ⟨rfl, rfl⟩
theorem rclock_any (n t : Int) (hn : -9223372036854775808 ≤ n ∧ n ≤ 9223372036854775807) (ht : -9223372036854775808 ≤ t ∧ t ≤ 9223372036854775807) (w : World) :
    Calls Tryz.prog 67 #[.int .i64 n, .int .i64 t] w fun e w' => e = .returned (.int .i64 (Mi.clock n t)) ∧ w = w' := by
  by_cases h1 : n < 0
  · rw [Mi.clock_neg n t (.inl h1)]
    go_enter Tryz.func67, Tryz.ntmps67
    go_wp2_with fail
    go_ret
    exact ⟨rfl, rfl⟩
  · by_cases h2 : t < 0
    · rw [Mi.clock_neg n t (.inr h2)]
      go_enter Tryz.func67, Tryz.ntmps67
      go_wp2_with fail
      go_ret
      exact ⟨rfl, rfl⟩
    · have hw1 : IntKind.i64.wrap (1099511627776 - t) = 1099511627776 - t := by rw [IntKind.wrap_i64]; omega
      by_cases h3 : n + t ≤ 1099511627776
      · rw [Mi.clock_low n t (by omega) (by omega) h3]
        have h4 : ¬ (1099511627776 - t < n) := by omega
        have h5 : ¬ (1099511627776 < t) := by omega
        have hw2 : IntKind.i64.wrap (n + t) = n + t := by rw [IntKind.wrap_i64]; omega
        go_enter Tryz.func67, Tryz.ntmps67
        go_wp2_with fail
        go_ret
        exact ⟨rfl, rfl⟩
      · rw [Mi.clock_high n t (by omega) (by omega) h3]
        have h4 : 1099511627776 - t < n := by omega
        go_enter Tryz.func67, Tryz.ntmps67
        go_wp2_with fail
        go_ret
        exact ⟨rfl, rfl⟩
theorem Blk.two2 {w : World} {g : Nat} {t : TypeId} {a b : Value} (h : Blk w g t #[a, b]) (u v : Value) : Blk ((w.setCell ⟨g, 0, none⟩ u).setCell ⟨g, 1, none⟩ v) g t #[u, v] := by
  have := (h.set_ 0 u).set_ 1 v
  simpa using this
theorem text_size : (Tryz.prog.info? 94).map (·.size) = some 2 := by kernel_rfl
set_option maxRecDepth 100000 in
set_option maxHeartbeats 2000000 in
theorem rplain_any (p : Int) (d : List UInt8) (_hd : d.length ≤ 100000) (w : World) :
    Calls Tryz.prog 46 #[.int .i64 p, .string (ba d)] w fun e w' => e = .returned (.agg #[.string (ba (plainL p d)), .bool (plainB p d)]) ∧ Below w.heap.size w w' := by
  have hz := ba_size d
  unfold plainL plainB
  by_cases h1 : 1 ≤ p ∧ p ≤ 6
  · rw [decide_eq_true h1]
    obtain ⟨h1a, h1b⟩ := h1
    by_cases h2 : d.length = 10
    · rw [if_pos ⟨h1a, h1b, h2⟩, decide_eq_true h2]
      have hzi : ((ba d).size : Int) = 10 := by omega
      by_cases h4 : p = 4
      · subst h4
        rw [if_pos rfl]
        have HC := Lib.hid (fun W => ref_code (Mi.num (d.take 8)) (Mi.num8_lt d) W)
        generalize hC : Tk.code (Mi.num (d.take 8) % 1000000) = C at HC ⊢
        obtain ⟨D, hD⟩ : ∃ D, ba d = D := ⟨_, rfl⟩
        have HG : Hid (∀ k (hk : k < D.size) (hk2 : k < d.length), D[k] = d[k]) := Lib.hid (by subst hD; intro k hk hk2; simp [ba]; rfl)
        rw [hD] at hz hzi ⊢
        have hds : D.size = 10 := by omega
        clear hC hz h1a h1b hD
        go_enter Tryz.func46, Tryz.ntmps46
        go_wp2_with fail
        go_loopw [5, 6] (fun v i wr => ∃ k : Nat, v = .int .u64 (Mi.num (d.take k) : Int) ∧ i = .int .i64 (k : Int) ∧ k ≤ 8 ∧ wr = w.alloc (.cells #[.string ⟨#[]⟩, .bool false] 94)) (fun _ i _ => 8 - (intOf i).toNat)
        case atStart => exact ⟨0, rfl, rfl, by omega, rfl⟩
        case round =>
          obtain ⟨k, rfl, rfl, hk, rfl⟩ := hrel
          by_cases hlt : k < 8
          · have hki : (k : Int) < 8 := by omega
            have hkd : (k : Int) < (D.size : Int) := by omega
            have hkn : k < D.size := by omega
            have ht := Mi.num_take_succ d k (by omega)
            have hsx := HG.out k hkn (by omega)
            obtain ⟨x, hx⟩ : ∃ x, D[k] = x := ⟨_, rfl⟩
            rw [← hsx, hx] at ht
            have hsm : Mi.num (d.take k) < 72057594037927936 := by
              have h1 := Mi.num_lt (d.take k)
              have h2 : (d.take k).length ≤ 7 := by rw [List.length_take]; omega
              have h3 := Nat.pow_le_pow_right (show 0 < 256 by decide) h2
              have h4 : 256 ^ 7 = 72057594037927936 := by decide
              omega
            have hx8 := x.toNat_lt
            have HT := Lib.hid ht
            obtain ⟨M, hM⟩ : ∃ M : Int, (Mi.num (d.take k) : Int) * 256 + (x.toNat : Int) = M := ⟨_, rfl⟩
            have HM := Lib.hid hM
            have w1 : IntKind.u64.wrap ((Mi.num (d.take k) : Int) * 256) = (Mi.num (d.take k) : Int) * 256 := by rw [IntKind.wrap_u64]; omega
            have w2 : IntKind.u64.wrap ((Mi.num (d.take k) : Int) * 256 + (x.toNat : Int)) = M := by rw [IntKind.wrap_u64]; omega
            have w3 : IntKind.u64.wrap (x.toNat : Int) = (x.toNat : Int) := by rw [IntKind.wrap_u64]; omega
            clear ht hsx hsm hx8 hM
            go_wp2_with fail
            go_roundw
            case rel => exact ⟨k + 1, by rw [HT.out, ← HM.out]; push_cast; rfl, by push_cast; rfl, by omega, trivial⟩
            case measure =>
              show 8 - ((k : Int) + 1).toNat < 8 - (k : Int).toNat
              omega
          · obtain rfl : k = 8 := by omega
            go_wp2_with fail
            refine (HC.out _).mono ?_
            rintro e w3 ⟨rfl, hb3⟩
            have HX := Lib.hid ((Blk.new w 94 #[.string ⟨#[]⟩, .bool false]).of (hb3.block _ (by simp)))
            have HB := Lib.hid (((Below.refl _ w).alloc (Nat.le_refl _) (.cells #[.string ⟨#[]⟩, .bool false] 94)).trans (hb3.mono (by simp)))
            have f0 := HX.out.frozen 0
            have f1 := HX.out.frozen 1
            have g0 : w3.cell? ⟨w.heap.size, 0, none⟩ = some (.string ⟨#[]⟩) := (HX.out.cell 0).trans rfl
            have g1 : w3.cell? ⟨w.heap.size, 1, none⟩ = some (.bool false) := (HX.out.cell 1).trans rfl
            clear hb3
            go_wp2_with fail
            (try simp only [Exit.inBlock, Exit.then])
            refine bodyPost_ret (results_cell_row (P := Tryz.prog) rfl _ _ w.heap.size 94 _ (0, 0) _ rfl (HX.out.two2 _ _) Tryz.underlying94 rfl text_size) rfl ?_
            exact ⟨rfl, (HB.out.setCell (p := ⟨w.heap.size, 0, none⟩) (Nat.le_refl _) _).setCell (p := ⟨w.heap.size, 1, none⟩) (Nat.le_refl _) _⟩
      · rw [if_neg h4]
        have HE := Lib.hid (fun W => ref_token (ba d) (by omega) W)
        unfold tokS at HE
        rw [ba_list, if_pos h2] at HE
        generalize ba (Tk.enc d) = C at HE ⊢
        clear hz h2
        go_enter Tryz.func46, Tryz.ntmps46
        go_wp2_with fail
        refine (HE.out _).mono ?_
        rintro e w3 ⟨rfl, hb3⟩
        have HX := Lib.hid ((Blk.new w 94 #[.string ⟨#[]⟩, .bool false]).of (hb3.block _ (by simp)))
        have HB := Lib.hid (((Below.refl _ w).alloc (Nat.le_refl _) (.cells #[.string ⟨#[]⟩, .bool false] 94)).trans (hb3.mono (by simp)))
        have f0 := HX.out.frozen 0
        have f1 := HX.out.frozen 1
        have g0 : w3.cell? ⟨w.heap.size, 0, none⟩ = some (.string ⟨#[]⟩) := (HX.out.cell 0).trans rfl
        have g1 : w3.cell? ⟨w.heap.size, 1, none⟩ = some (.bool false) := (HX.out.cell 1).trans rfl
        clear hb3
        go_wp2_with fail
        (try simp only [Exit.inBlock, Exit.then])
        refine bodyPost_ret (results_cell_row (P := Tryz.prog) rfl _ _ w.heap.size 94 _ (0, 0) _ rfl (HX.out.two2 _ _) Tryz.underlying94 rfl text_size) rfl ?_
        exact ⟨rfl, (HB.out.setCell (p := ⟨w.heap.size, 0, none⟩) (Nat.le_refl _) _).setCell (p := ⟨w.heap.size, 1, none⟩) (Nat.le_refl _) _⟩
    · rw [if_neg (by omega), decide_eq_false h2]
      have hzi : (((ba d).size : Int) != 10) = true := by simpa using (show ¬ ((ba d).size : Int) = 10 by omega)
      clear hz
      go_enter Tryz.func46, Tryz.ntmps46
      go_wp2_with fail
      (try simp only [Exit.inBlock, Exit.then])
      refine bodyPost_ret (results_cell_row (P := Tryz.prog) rfl _ _ w.heap.size 94 _ (0, 0) _ rfl (Blk.new w _ _) Tryz.underlying94 rfl text_size) rfl ?_
      exact ⟨rfl, (Below.refl _ w).alloc (Nat.le_refl _) _⟩
  · rw [if_neg (by omega), decide_eq_false h1]
    by_cases h3 : p < 1
    · clear hz
      go_enter Tryz.func46, Tryz.ntmps46
      go_wp2_with fail
      (try simp only [Exit.inBlock, Exit.then])
      refine bodyPost_ret (results_cell_row (P := Tryz.prog) rfl _ _ w.heap.size 94 _ (0, 0) _ rfl (Blk.new w _ _) Tryz.underlying94 rfl text_size) rfl ?_
      exact ⟨rfl, (Below.refl _ w).alloc (Nat.le_refl _) _⟩
    · have h4 : 6 < p := by omega
      clear hz
      go_enter Tryz.func46, Tryz.ntmps46
      go_wp2_with fail
      (try simp only [Exit.inBlock, Exit.then])
      refine bodyPost_ret (results_cell_row (P := Tryz.prog) rfl _ _ w.heap.size 94 _ (0, 0) _ rfl (Blk.new w _ _) Tryz.underlying94 rfl text_size) rfl ?_
      exact ⟨rfl, (Below.refl _ w).alloc (Nat.le_refl _) _⟩
end Go.Proofs.YtfjdcopndkdbmaaGreatDoor
