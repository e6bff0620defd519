/-
  Contract of sha.words: the 64 words of a block. Condition: the block has 64 bytes.
-/
import Derived.Deep.WholeRow
import Derived.StillTailTactics
import Derived.BigRegion
import Derived.BigQuiet
import Derived.Deep.RegionLaw
import Derived.LoopTactic
import Derived.Test.YthaejfbbefpojaaDoorWords
import Derived.Test.YthaejfbbefpojaaDoorShW
namespace Go.Proofs.YthaejfbbefpojaaDoor
open Go.RowKit

theorem words_size : (Tryd.prog.info? 64).map (·.size) = some 64 := by kernel_rfl
theorem size_u8 : (Tryd.prog.info? 5).map (·.size) = some 1 := by kernel_rfl
/-- A cut of an array. -/
theorem run_cut_array {P : Program} (t e : TypeId) (n : Nat) (ht : P.underlying t = some (.array n e)) (hsz : (P.info? e).map (·.size) = some 1) (g l h : Nat) (hl : l < n) (h1 : l ≤ h) (h2 : h ≤ n) (x y : Int) (hx : x = l) (hy : y = h) (w : World) :
    (Instr.sliceAt t (.pointer (some ⟨g, 0, none⟩)) (some (.int .i64 x)) (some (.int .i64 y)) none).run P w = .ok (.slice (some ⟨g, l, none⟩) (h - l) (n - l)) w := by
  subst hx
  subst hy
  cases hq : P.info? e with
  | none => simp [hq] at hsz
  | some i =>
    have hi : i.size = 1 := by simpa [hq] using hsz
    have hadd : (⟨g, 0, none⟩ : Addr).add l = ⟨g, l, none⟩ := by unfold Addr.add; split <;> simp_all
    simp [Instr.sliceAt, Instr.sureAddr, run_underlying ht, Instr.sliceBounds, Instr.sliceBound, asIntOf, sizeOf, typeInfo, hq, hi, h1, h2, show ¬ n = l by omega, hadd]
theorem run_cut_array_from {P : Program} (t e : TypeId) (n : Nat) (ht : P.underlying t = some (.array n e)) (hsz : (P.info? e).map (·.size) = some 1) (g l : Nat) (hl : l < n) (x : Int) (hx : x = l) (w : World) :
    (Instr.sliceAt t (.pointer (some ⟨g, 0, none⟩)) (some (.int .i64 x)) none none).run P w = .ok (.slice (some ⟨g, l, none⟩) (n - l) (n - l)) w := by
  subst hx
  cases hq : P.info? e with
  | none => simp [hq] at hsz
  | some i =>
    have hi : i.size = 1 := by simpa [hq] using hsz
    have hadd : (⟨g, 0, none⟩ : Addr).add l = ⟨g, l, none⟩ := by unfold Addr.add; split <;> simp_all
    simp [Instr.sliceAt, Instr.sureAddr, run_underlying ht, Instr.sliceBounds, Instr.sliceBound, asIntOf, sizeOf, typeInfo, hq, hi, show ¬ n = l by omega, hadd, show l ≤ n by omega]
theorem Blk.new3 (w : World) (o1 o2 : Obj) (t : TypeId) (cs : Array Value) : Blk (((w.alloc o1).alloc o2).alloc (.cells cs t)) (w.heap.size + 1 + 1) t cs := by
  have := Blk.new ((w.alloc o1).alloc o2) t cs
  simpa using this
theorem Blk.new2 (w : World) (o1 : Obj) (t : TypeId) (cs : Array Value) : Blk ((w.alloc o1).alloc (.cells cs t)) (w.heap.size + 1) t cs := by
  have := Blk.new (w.alloc o1) t cs
  simpa using this
theorem words_sz (L : List UInt8) : (Tryd.prog.info? 64).map (·.size) = some (ru (W64 L)).size := by rw [ru_size, W64_length]; exact words_size
theorem words_zs (L : List UInt8) : (ru (List.replicate 64 0)).size = (ru (W64 L)).size := by rw [ru_size, ru_size, W64_length]; simp
theorem R_mod (a : BitVec 32) : R a % 4294967296 = R a := by have h1 := R_nonneg a; have h2 := R_lt a; omega
theorem R_add4 (a b c d : BitVec 32) : (R a + R b + R c + R d) % 4294967296 = R (a + b + c + d) := by
  unfold R
  simp only [BitVec.toNat_add]
  omega
theorem ru_zeros : ru (List.replicate 64 0) = Array.replicate 64 (.int .u32 0) := by
  simp [ru]
  rfl
set_option maxRecDepth 100000 in
set_option maxHeartbeats 4000000 in
theorem words_any (L : List UInt8) (hL : L.length = 64) (w : World) :
    Calls Tryd.prog 49 #[.agg (cb L).toArray] w fun e w' => e = .returned (.agg (ru (W64 L))) ∧ Below w.heap.size w w' := by
  go_enter Tryd.func49, Tryd.ntmps49
  go_wp2_with fail
  go_loopw [4, 5, 11] (fun _ _ i wr => ∃ (k : Nat) (l : Sh.V), i = .int .i64 k ∧ k ≤ 16 ∧ Fill (W64 L) k l ∧ Blk wr w.heap.size 58 (cb L).toArray ∧ Blk wr (w.heap.size + 1) 64 (ru (List.replicate 64 0)) ∧ Blk wr (w.heap.size + 1 + 1) 64 (ru l) ∧ Below w.heap.size w wr ∧ w.heap.size + 3 ≤ wr.heap.size)
    (fun _ _ i _ => 16 - (intOf i).toNat)
  case atStart =>
    refine ⟨0, List.replicate 64 0, rfl, by omega, ?_, ?_, ?_, ?_, ?_, ?_⟩
    · have := Fill.zero (W64 L)
      rw [W64_length] at this
      exact this
    · exact ((Blk.new w _ _).alloc _).alloc _
    · rw [ru_zeros]
      exact (Blk.new2 _ _ _ _).alloc _
    · rw [ru_zeros]
      exact Blk.new3 _ _ _ _ _
    · exact (((Below.refl _ w).alloc (Nat.le_refl _) _).alloc (by simp) _).alloc (by simp; omega) _
    · simp
  case round =>
    obtain ⟨k, l, rfl, hk, HF, H1, H2, H3, HB, hsz⟩ := hrel
    have hH2 := Lib.hid H2
    have hHF := Lib.hid HF
    have hH1 := Lib.hid H1
    have hH3 := Lib.hid H3
    have hHB := Lib.hid HB
    have hlen : l.length = 64 := by rw [HF.len, W64_length]
    by_cases hlt : k < 16
    · have c0 := Blk.by H1 (4 * k) (by omega)
      have c1 := Blk.by H1 (4 * k + 1) (by omega)
      have c2 := Blk.by H1 (4 * k + 2) (by omega)
      have c3 := Blk.by H1 (4 * k + 3) (by omega)
      have d1 := Blk.ru H3 k (by omega)
      have d2 := Blk.frozen H3 k
      have hcut := run_cut_array 58 5 64 Tryd.underlying58 size_u8 w.heap.size (4 * k) (4 * k + 4) (by omega) (by omega) (by omega) (4 * (k : Int)) (4 * (k : Int) + 4) (by omega) (by omega)
      rw [show 4 * k + 4 - 4 * k = 4 by omega] at hcut
      have hbe := be4_or L k
      generalize zw (L.getD (4 * k) 0) = a0 at c0 hbe
      generalize zw (L.getD (4 * k + 1) 0) = a1 at c1 hbe
      generalize zw (L.getD (4 * k + 2) 0) = a2 at c2 hbe
      generalize zw (L.getD (4 * k + 3) 0) = a3 at c3 hbe
      have HBE := Lib.hid hbe
      generalize l.getD k 0 = x0 at d1
      have HV : Hid (bits BinOp.or IntKind.u32 (bits BinOp.or IntKind.u32 (bits BinOp.or IntKind.u32 (R a0 % 4294967296 * 16777216 % 4294967296) (R a1 % 4294967296 * 65536 % 4294967296)) (R a2 % 4294967296 * 256 % 4294967296)) (R a3 % 4294967296) = R (Sh.be4 L k)) := by
        refine Lib.hid ?_
        have r0 : R a0 * (16777216 : Int) % (4294967296 : Int) = R (a0 <<< 24) := R_shl _ 24
        have r1 : R a1 * (65536 : Int) % (4294967296 : Int) = R (a1 <<< 16) := R_shl _ 16
        have r2 : R a2 * (256 : Int) % (4294967296 : Int) = R (a2 <<< 8) := R_shl _ 8
        rw [hbe, R_mod, R_mod, R_mod, R_mod, r0, r1, r2, R_or, R_or, R_or]
      clear HF H1 H2 H3 HB hbe
      go_wp2_with fail
      go_region
      go_wp2_with fail
      rw [HV.out]
      go_roundw
      case rel =>
        exact ⟨k + 1, l.set k (Sh.be4 L k), by go_num, by omega, hHF.out.next (by rw [W64_length]; omega) (W64_low L k hlt).symm, ((hH1.out.far (by simp; omega) _)).drew, ((hH2.out.far (by simp) _)).drew, (hH3.out.ruSet k _).drew, (hHB.out.setCell (by simp; omega) _).drew, by simpa [World.setCell] using hsz⟩
      case measure => simp [intOf]; omega
    · obtain rfl : k = 16 := by omega
      clear HF H1 H2 H3 HB hlen
      rw [show ((16 : Nat) : Int) = 16 from rfl]
      go_wp2_with fail
      go_loopw [6, 7, 8, 9, 10] (fun i _ _ _ _ wr => ∃ (k : Nat) (l : Sh.V), i = .int .i64 (k : Int) ∧ 16 ≤ k ∧ k ≤ 64 ∧ Fill (W64 L) k l ∧ Blk wr (w.heap.size + 1) 64 (ru (List.replicate 64 0)) ∧ Blk wr (w.heap.size + 1 + 1) 64 (ru l) ∧ Below w.heap.size w wr ∧ w.heap.size + 3 ≤ wr.heap.size)
        (fun i _ _ _ _ _ => 64 - (intOf i).toNat)
      case atStart => exact ⟨16, l, rfl, by omega, by omega, hHF.out, hH2.out, hH3.out, hHB.out, hsz⟩
      case round =>
        obtain ⟨k, l, rfl, hk1, hk2, HF, H2, H3, HB, hsz⟩ := hrel
        have hHF := Lib.hid HF
        have hH2 := Lib.hid H2
        have hH3 := Lib.hid H3
        have hHB := Lib.hid HB
        have hlen : l.length = 64 := by rw [HF.len, W64_length]
        by_cases hlt : k < 64
        · obtain ⟨n, hkn⟩ : ∃ n, k = n + 16 := ⟨k - 16, by omega⟩
          have c0 := Blk.ru H3 n (by omega)
          have c1 := Blk.ru H3 (n + 1) (by omega)
          have c2 := Blk.ru H3 (n + 9) (by omega)
          have c3 := Blk.ru H3 (n + 14) (by omega)
          have d1 := Blk.ru H3 k (by omega)
          have d2 := Blk.frozen H3 k
          have hre := W64_rec L k hk1 hlt
          rw [show k - 16 = n by omega, show k - 15 = n + 1 by omega, show k - 7 = n + 9 by omega, show k - 2 = n + 14 by omega, ← HF.low n (by omega), ← HF.low (n + 1) (by omega), ← HF.low (n + 9) (by omega), ← HF.low (n + 14) (by omega)] at hre
          generalize l.getD n 0 = a0 at c0 hre
          generalize l.getD (n + 1) 0 = a1 at c1 hre
          generalize l.getD (n + 9) 0 = a2 at c2 hre
          generalize l.getD (n + 14) 0 = a3 at c3 hre
          generalize l.getD k 0 = x0 at d1
          have HRE := Lib.hid hre
          have e1 : (k : Int) - 15 = ((n + 1 : Nat) : Int) := by omega
          have e2 : (k : Int) - 2 = ((n + 14 : Nat) : Int) := by omega
          have e3 : (k : Int) - 16 = (n : Int) := by omega
          have e4 : (k : Int) - 7 = ((n + 9 : Nat) : Int) := by omega
          have hki : (k : Int) < 64 := by omega
          clear hkn
          have r1 : R a1 / (8 : Int) = R (a1 >>> 3) := R_shr _ 3
          have r2 : R a3 / (1024 : Int) = R (a3 >>> 10) := R_shr _ 10
          have x1 := R_xor (Sh.rr a1 7) (Sh.rr a1 18)
          have x2 : bits BinOp.xor IntKind.u32 (R (Sh.rr a1 7 ^^^ Sh.rr a1 18)) (R (a1 >>> 3)) = R (Sh.s0 a1) := R_xor _ _
          have x3 := R_xor (Sh.rr a3 17) (Sh.rr a3 19)
          have x4 : bits BinOp.xor IntKind.u32 (R (Sh.rr a3 17 ^^^ Sh.rr a3 19)) (R (a3 >>> 10)) = R (Sh.s1 a3) := R_xor _ _
          clear HF H2 H3 HB hre hlen
          go_wp2_with fail
          go_quiet (fail)
          go_wp2_with fail
          refine (rot_7 a1 _).mono ?_
          rintro e w1 ⟨rfl, rfl⟩
          go_wp2_with fail
          refine (rot_18 a1 _).mono ?_
          rintro e w1 ⟨rfl, rfl⟩
          go_wp2_with fail
          refine (rot_17 a3 _).mono ?_
          rintro e w1 ⟨rfl, rfl⟩
          go_wp2_with fail
          refine (rot_19 a3 _).mono ?_
          rintro e w1 ⟨rfl, rfl⟩
          go_wp2_with fail
          go_region
          go_wp2_with fail
          have HV : Hid ((R a0 + R (Sh.s0 a1) + R a2 + R (Sh.s1 a3)) % 4294967296 = R ((W64 L).getD k 0)) := Lib.hid (by rw [HRE.out]; exact R_add4 _ _ _ _)
          rw [HV.out]
          go_roundw
          case rel => exact ⟨k + 1, l.set k ((W64 L).getD k 0), by go_num, by omega, by omega, hHF.out.next (by rw [W64_length]; omega) rfl, Blk.far (w := wr.drewN _) hH2.out (by simp) _, Blk.ruSet (w := wr.drewN _) hH3.out k _, (below_drewN hHB.out _).setCell (by simp; omega) _, by simpa [World.setCell] using hsz⟩
          case measure => simp [intOf]; omega
        · obtain rfl : k = 64 := by omega
          have hl := hHF.out.done (by rw [W64_length]; exact Nat.le_refl 64)
          subst hl
          have hz := hHB.out
          clear HF H2 H3 HB
          go_wp2_with (first | (refine wpList_load_row rfl 64 _ rfl (w.heap.size + 1 + 1) rfl 64 (ru (W64 L)) (0, 0) _ hH3.out Tryd.underlying64 rfl (words_sz L) ?_) | (refine wpList_store_row rfl 64 _ _ rfl (w.heap.size + 1) (ru (W64 L)) rfl rfl 64 (ru (List.replicate 64 0)) hH2.out (words_sz L) (words_zs L) (ru_one _) ?_))
          refine bodyPost_ret (results_cell_row rfl _ _ (w.heap.size + 1) 64 (ru (W64 L)) (0, 0) _ rfl (hH2.out.row _) Tryd.underlying64 rfl (words_sz L)) rfl ?_
          exact ⟨rfl, Kept.below hz (Kept.setRow (S := fun x => x = w.heap.size + 1) (Kept.refl _ _) (.inl rfl) _) (fun x hx => by omega) (by omega)⟩
end Go.Proofs.YthaejfbbefpojaaDoor
