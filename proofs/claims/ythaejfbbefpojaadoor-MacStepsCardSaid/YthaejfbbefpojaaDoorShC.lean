/-
  Contract of sha.process: a block goes in. Condition: the tables hold what their text says; eight numbers; a block of 64 bytes.
-/
import Derived.Test.YthaejfbbefpojaaDoorShA
import Derived.Test.YthaejfbbefpojaaDoorShT
namespace Go.Proofs.YthaejfbbefpojaaDoor
open Go.RowKit

theorem sz8 : (Tryd.prog.info? 51).map (·.size) = some 8 := by kernel_rfl
theorem sz8_of {l : Sh.V} (h : l.length = 8) : (Tryd.prog.info? 51).map (·.size) = some (ru l).size := by rw [ru_size, h]; exact sz8
theorem sz64b : (Tryd.prog.info? 58).map (·.size) = some 64 := by kernel_rfl
theorem sz64b_of {l : List UInt8} (h : l.length = 64) : (Tryd.prog.info? 58).map (·.size) = some (cb l).toArray.size := by rw [List.size_toArray, cb_length, h]; exact sz64b
theorem info_u32 : (Tryd.prog.info? 50).map (·.size) = some 1 := by kernel_rfl
theorem R_com (a : BitVec 32) : bits BinOp.xor IntKind.u32 IntKind.u32.max (R a) = R (~~~ a) := by
  have h := R_xor (BitVec.allOnes 32) a
  rw [BitVec.allOnes_xor] at h
  exact h
theorem R_add5 (a b c d e : BitVec 32) : (R a + R b + R c + R d + R e) % 4294967296 = R (a + b + c + d + e) := by
  unfold R
  simp only [BitVec.toNat_add]
  omega
/-- Rounds, one by one. -/
theorem rounds_next (ws x : Sh.V) (n : Nat) {a b c d e f g h : BitVec 32} (hx : Sh.rounds ws x n = [a, b, c, d, e, f, g, h]) :
    Sh.rounds ws x (n + 1) = [(h + Sh.S1 e + Sh.ch e f g + Sh.K.getD n 0 + ws.getD n 0) + (Sh.S0 a + Sh.maj a b c), a, b, c, d + (h + Sh.S1 e + Sh.ch e f g + Sh.K.getD n 0 + ws.getD n 0), e, f, g] := by
  rw [Sh.rounds, hx]
  rfl
theorem eight {l : Sh.V} (h : l.length = 8) : ∃ a b c d e f g i, l = [a, b, c, d, e, f, g, i] := by
  match l, h with
  | [a, b, c, d, e, f, g, i], _ => exact ⟨a, b, c, d, e, f, g, i, rfl⟩
/-- The numbers behind a block. -/
noncomputable def blk (h : Sh.V) (L : List UInt8) : Sh.V := Classical.choose (⟨Sh.block h L, rfl⟩ : ∃ v, v = Sh.block h L)
theorem blk_eq (h : Sh.V) (L : List UInt8) : blk h L = Sh.block h L := Classical.choose_spec (⟨Sh.block h L, rfl⟩ : ∃ v, v = Sh.block h L)
theorem blk_of (h : Sh.V) (L : List UInt8) : blk h L = List.zipWith (· + ·) h (Sh.rounds (W64 L) h 64) := by rw [blk_eq, W64_eq]; rfl
theorem blk_length (h : Sh.V) (L : List UInt8) (hh : h.length = 8) : (blk h L).length = 8 := by rw [blk_eq]; exact Sh.block_length h L hh
theorem blk_at (h : Sh.V) (L : List UInt8) (X : Sh.V) (hX : Sh.rounds (W64 L) h 64 = X) (hh : h.length = 8) (hl : X.length = 8) (i : Nat) (hi : i < 8) : (blk h L).getD i 0 = h.getD i 0 + X.getD i 0 := by
  rw [blk_of, hX]
  simp [List.getD_eq_getElem?_getD, hh, hl, hi]
/-- A row that is turned place by place. -/
structure Turn (h W : Sh.V) (i : Nat) (l : Sh.V) : Prop where
  len : l.length = W.length
  low : ∀ j, j < i → l.getD j 0 = W.getD j 0
  high : ∀ j, i ≤ j → l.getD j 0 = h.getD j 0
theorem Turn.next {h W l : Sh.V} {i : Nat} (t : Turn h W i l) (hi : i < W.length) {x : BitVec 32} (hx : x = W.getD i 0) : Turn h W (i + 1) (l.set i x) := by
  have f := (Fill.mk t.len t.low).next hi hx
  refine ⟨f.len, f.low, fun j hj => ?_⟩
  have := t.high j (by omega)
  rw [← this]
  simp only [List.getD_eq_getElem?_getD]
  rw [List.getElem?_set_ne (by omega)]
theorem Turn.done {h W l : Sh.V} {i : Nat} (t : Turn h W i l) (hi : W.length ≤ i) : l = W := (Fill.mk t.len t.low).done hi

set_option maxRecDepth 100000 in
set_option maxHeartbeats 4000000 in
theorem process_any (h : Sh.V) (hh : h.length = 8) (L : List UInt8) (hL : L.length = 64) (w : World) (hT : Tab w) :
    Calls Tryd.prog 33 #[.agg (ru h), .agg (cb L).toArray] w fun e w' => e = .returned (.agg (ru (blk h L))) ∧ Below w.heap.size w w' := by
  have hTl := hT.ltK
  have hTh := hT.ltH
  have hHT := Lib.hid hT
  clear hT
  go_enter Tryd.func33, Tryd.ntmps33
  go_wp2_with (refine wpList_load_row rfl 58 _ rfl (w.heap.size + 1) rfl 58 (cb L).toArray (0, 0) _ (Blk.alloc (Blk.new2 _ _ _ _) _) Tryd.underlying58 rfl (sz64b_of hL) ?_)
  refine (words_any L hL _).mono ?_
  rintro e w1 ⟨rfl, hb1⟩
  have hbA : Below w.heap.size w (((w.alloc (.cells (ru h) 51)).alloc (.cells (cb L).toArray 58)).alloc (.cells #[.int .u32 0, .int .u32 0, .int .u32 0, .int .u32 0, .int .u32 0, .int .u32 0, .int .u32 0, .int .u32 0] 51)) :=
    (((Below.refl _ w).alloc (Nat.le_refl _) _).alloc (by simp) _).alloc (by simp; omega) _
  have hsz1 : w.heap.size + 3 ≤ w1.heap.size := by have := hb1.size; simp at this; omega
  have B0 : Blk w1 w.heap.size 51 (ru h) := Blk.of (((Blk.new w _ _).alloc _).alloc _) (hb1.block _ (by simp; omega))
  have B2 : Blk w1 (w.heap.size + 1 + 1) 51 _ := Blk.of (Blk.new3 _ _ _ _ _) (hb1.block _ (by simp))
  have hB1 : Below w.heap.size w w1 := hbA.trans (hb1.mono hbA.size)
  have hB0 := Lib.hid B0
  have hB2 := Lib.hid B2
  have hHB := Lib.hid hB1
  clear hb1 hbA B0 B2 hB1
  go_wp2_with (refine wpList_store_row rfl 64 _ _ rfl w1.heap.size (ru (W64 L)) rfl rfl 64 _ (Blk.new w1 _ _) (words_sz L) (by rw [ru_size, W64_length]; rfl) (ru_one _) ?_)
  have C0 := Lib.hid ((hB0.out.alloc _).rowFar (by omega) _ : Blk ((w1.alloc (.cells (Array.replicate 64 (.int .u32 0)) 64)).setRow w1.heap.size (ru (W64 L))) w.heap.size 51 (ru h))
  have C2 := Lib.hid ((hB2.out.alloc _).rowFar (by omega) _ : Blk ((w1.alloc (.cells (Array.replicate 64 (.int .u32 0)) 64)).setRow w1.heap.size (ru (W64 L))) (w.heap.size + 1 + 1) 51 _)
  have CW := Lib.hid ((Blk.new w1 64 (Array.replicate 64 (.int .u32 0))).row (ru (W64 L)))
  have CB := Lib.hid (Kept.below hHB.out (Kept.setRow (S := fun b => b = w1.heap.size) (Kept.alloc (Kept.refl _ w1) (.cells (Array.replicate 64 (.int .u32 0)) 64)) (.inl rfl) (ru (W64 L))) (fun x hx => by omega) (by omega))
  rw [show (#[.int .u32 0, .int .u32 0, .int .u32 0, .int .u32 0, .int .u32 0, .int .u32 0, .int .u32 0, .int .u32 0, .int .u32 0, .int .u32 0, .int .u32 0, .int .u32 0, .int .u32 0, .int .u32 0, .int .u32 0, .int .u32 0, .int .u32 0, .int .u32 0, .int .u32 0, .int .u32 0, .int .u32 0, .int .u32 0, .int .u32 0, .int .u32 0, .int .u32 0, .int .u32 0, .int .u32 0, .int .u32 0, .int .u32 0, .int .u32 0, .int .u32 0, .int .u32 0, .int .u32 0, .int .u32 0, .int .u32 0, .int .u32 0, .int .u32 0, .int .u32 0, .int .u32 0, .int .u32 0, .int .u32 0, .int .u32 0, .int .u32 0, .int .u32 0, .int .u32 0, .int .u32 0, .int .u32 0, .int .u32 0, .int .u32 0, .int .u32 0, .int .u32 0, .int .u32 0, .int .u32 0, .int .u32 0, .int .u32 0, .int .u32 0, .int .u32 0, .int .u32 0, .int .u32 0, .int .u32 0, .int .u32 0, .int .u32 0, .int .u32 0, .int .u32 0] : Array Value) = Array.replicate 64 (.int .u32 0) from rfl]
  generalize (w1.alloc (.cells (Array.replicate 64 (.int .u32 0)) 64)).setRow w1.heap.size (ru (W64 L)) = w2 at C0 C2 CW CB ⊢
  have CT := Lib.hid (hHT.out.below CB.out hTl hTh)
  obtain ⟨h0, h1, h2, h3, h4, h5, h6, h7, rfl⟩ := eight hh
  have c0 : w2.cell? ⟨w.heap.size, 0, none⟩ = some (.int .u32 (R h0)) := Blk.ru C0.out 0 (by simp)
  have c1 : w2.cell? ⟨w.heap.size, 1, none⟩ = some (.int .u32 (R h1)) := Blk.ru C0.out 1 (by simp)
  have c2 : w2.cell? ⟨w.heap.size, 2, none⟩ = some (.int .u32 (R h2)) := Blk.ru C0.out 2 (by simp)
  have c3 : w2.cell? ⟨w.heap.size, 3, none⟩ = some (.int .u32 (R h3)) := Blk.ru C0.out 3 (by simp)
  have c4 : w2.cell? ⟨w.heap.size, 4, none⟩ = some (.int .u32 (R h4)) := Blk.ru C0.out 4 (by simp)
  have c5 : w2.cell? ⟨w.heap.size, 5, none⟩ = some (.int .u32 (R h5)) := Blk.ru C0.out 5 (by simp)
  have c6 : w2.cell? ⟨w.heap.size, 6, none⟩ = some (.int .u32 (R h6)) := Blk.ru C0.out 6 (by simp)
  have c7 : w2.cell? ⟨w.heap.size, 7, none⟩ = some (.int .u32 (R h7)) := Blk.ru C0.out 7 (by simp)
  go_wp2_with fail
  go_quiet (fail)
  go_wp2_with fail
  go_quiet (fail)
  go_wp2_with fail
  go_loopw [6, 7, 8, 9, 10, 11, 12, 13, 14, 15, 16, 17, 18, 39] (fun s0 s1 s2 s3 s4 s5 s6 s7 _ _ _ _ _ i wr => ∃ (k q : Nat) (x0 x1 x2 x3 x4 x5 x6 x7 : BitVec 32), i = .int .i64 k ∧ k ≤ 64 ∧ s0 = .int .u32 (R x0) ∧ s1 = .int .u32 (R x1) ∧ s2 = .int .u32 (R x2) ∧ s3 = .int .u32 (R x3) ∧ s4 = .int .u32 (R x4) ∧ s5 = .int .u32 (R x5) ∧ s6 = .int .u32 (R x6) ∧ s7 = .int .u32 (R x7) ∧ Sh.rounds (W64 L) [h0, h1, h2, h3, h4, h5, h6, h7] k = [x0, x1, x2, x3, x4, x5, x6, x7] ∧ wr = w2.drewN q)
    (fun _ _ _ _ _ _ _ _ _ _ _ _ _ i _ => 64 - (intOf i).toNat)
  case atStart => exact ⟨0, _, h0, h1, h2, h3, h4, h5, h6, h7, rfl, by omega, rfl, rfl, rfl, rfl, rfl, rfl, rfl, rfl, rfl, World.drewN_drewN _ _ _⟩
  case round =>
    obtain ⟨k, q, x0, x1, x2, x3, x4, x5, x6, x7, rfl, hk, rfl, rfl, rfl, rfl, rfl, rfl, rfl, rfl, hro, rfl⟩ := hrel
    clear c0 c1 c2 c3 c4 c5 c6 c7
    have hRO := Lib.hid hro
    by_cases hlt : k < 64
    · have cK : (w2.drewN q).cell? ⟨1, k, none⟩ = some (.int .u32 (R (Sh.K.getD k 0))) := CT.out.K k hlt
      have cW : (w2.drewN q).cell? ⟨w1.heap.size, k, none⟩ = some (.int .u32 (R ((W64 L).getD k 0))) := Blk.ru CW.out k (by rw [W64_length]; omega)
      have HNX := Lib.hid (rounds_next _ _ k hro)
      generalize Sh.K.getD k 0 = kk at cK HNX
      generalize (W64 L).getD k 0 = ww at cW HNX
      generalize hw3 : w2.drewN q = w3 at cK cW ⊢
      have HW3 := Lib.hid hw3
      clear hw3
      have n4 : bits BinOp.xor IntKind.u32 IntKind.u32.max (R x4) = R (~~~ x4) := R_com x4
      have a1 := R_and x4 x5
      have a2 := R_and (~~~ x4) x6
      have a3 : bits BinOp.xor IntKind.u32 (R (x4 &&& x5)) (R (~~~ x4 &&& x6)) = R (Sh.ch x4 x5 x6) := by rw [R_xor, ch_xor]
      have m1 := R_and x0 x1
      have m2 := R_and x0 x2
      have m3 := R_and x1 x2
      have m4 := R_xor (x0 &&& x1) (x0 &&& x2)
      have m5 : bits BinOp.xor IntKind.u32 (R (x0 &&& x1 ^^^ x0 &&& x2)) (R (x1 &&& x2)) = R (Sh.maj x0 x1 x2) := by rw [R_xor, maj_xor]
      have t1 := R_xor (Sh.rr x4 6) (Sh.rr x4 11)
      have t2 : bits BinOp.xor IntKind.u32 (R (Sh.rr x4 6 ^^^ Sh.rr x4 11)) (R (Sh.rr x4 25)) = R (Sh.S1 x4) := R_xor _ _
      have u1 := R_xor (Sh.rr x0 2) (Sh.rr x0 13)
      have u2 : bits BinOp.xor IntKind.u32 (R (Sh.rr x0 2 ^^^ Sh.rr x0 13)) (R (Sh.rr x0 22)) = R (Sh.S0 x0) := R_xor _ _
      clear hro
      go_wp2_with fail
      go_big_quiet (exact Calls.quiet_of_same (rot_all _ _ (by decide) _))
      go_wp2_with fail
      refine (rot_2 x0 _).mono ?_
      rintro e w4 ⟨rfl, rfl⟩
      go_wp2_with fail
      refine (rot_13 x0 _).mono ?_
      rintro e w4 ⟨rfl, rfl⟩
      go_wp2_with fail
      refine (rot_22 x0 _).mono ?_
      rintro e w4 ⟨rfl, rfl⟩
      go_wp2_with fail
      rw [R_add5, R_add (Sh.S0 x0), R_add, R_add]
      go_roundw
      case rel => exact ⟨k + 1, _, _, x0, x1, x2, _, x4, x5, x6, by go_num, by omega, rfl, rfl, rfl, rfl, rfl, rfl, rfl, rfl, HNX.out, by rw [← HW3.out]; exact World.drewN_drewN _ _ _⟩
      case measure => simp [intOf]; omega
    · obtain rfl : k = 64 := by omega
      clear hro
      have D0 := Lib.hid (show Blk (w2.drewN q) w.heap.size 51 (ru [h0, h1, h2, h3, h4, h5, h6, h7]) from C0.out)
      have D2 := Lib.hid (show Blk (w2.drewN q) (w.heap.size + 1 + 1) 51 _ from C2.out)
      have DB := Lib.hid (below_drewN CB.out q)
      generalize w2.drewN q = w3 at D0 D2 DB ⊢
      rw [show ((64 : Nat) : Int) = 64 from rfl]
      have hX := hRO.out
      have HW := Lib.hid (fun i (hi : i < 8) => blk_at [h0, h1, h2, h3, h4, h5, h6, h7] L [x0, x1, x2, x3, x4, x5, x6, x7] hX rfl rfl i hi)
      have hwl := Lib.hid (blk_length [h0, h1, h2, h3, h4, h5, h6, h7] L rfl)
      clear hX hRO
      go_wp2_with fail
      go_loopw [19, 20, 113] (fun _ _ i wr => ∃ (k : Nat) (l : Sh.V), i = .int .i64 k ∧ k ≤ 8 ∧ Turn [h0, h1, h2, h3, h4, h5, h6, h7] (blk [h0, h1, h2, h3, h4, h5, h6, h7] L) k l ∧ Blk wr w.heap.size 51 (ru l) ∧ Blk wr (w.heap.size + 1 + 1) 51 (ru (List.replicate 8 0)) ∧ Below w.heap.size w wr)
        (fun _ _ i _ => 8 - (intOf i).toNat)
      case atStart => exact ⟨0, _, rfl, by omega, ⟨by rw [hwl.out]; rfl, fun j hj => by omega, fun j _ => rfl⟩, D0.out, D2.out, DB.out⟩
      case round =>
        obtain ⟨k, l, rfl, hk, ht, E0, E2, EB⟩ := hrel
        have HT := Lib.hid ht
        have hE0 := Lib.hid E0
        have hE2 := Lib.hid E2
        have hEB := Lib.hid EB
        have hll : l.length = 8 := by rw [ht.len, hwl.out]
        by_cases hlt : k < 8
        · have c0 := Blk.ru E0 k (by omega)
          have c1 := Blk.frozen E0 k
          have hv := HW.out k hlt
          rw [← ht.high k (Nat.le_refl _)] at hv
          have hix := fun W => run_index_arr (P := Tryd.prog) 51 50 8 (ru [x0, x1, x2, x3, x4, x5, x6, x7]) k (R (([x0, x1, x2, x3, x4, x5, x6, x7] : Sh.V).getD k 0)) .u32 Tryd.underlying51 info_u32 Tryd.underlying50 hlt (ru_getD _ k hlt) W
          rw [show ru [x0, x1, x2, x3, x4, x5, x6, x7] = #[.int .u32 (R x0), .int .u32 (R x1), .int .u32 (R x2), .int .u32 (R x3), .int .u32 (R x4), .int .u32 (R x5), .int .u32 (R x6), .int .u32 (R x7)] from rfl] at hix
          generalize ([x0, x1, x2, x3, x4, x5, x6, x7] : Sh.V).getD k 0 = y at hix hv
          generalize l.getD k 0 = z at c0 hv
          have ha := R_add z y
          have HV := Lib.hid hv
          clear ht E0 E2 EB hv hll
          go_wp2_with fail
          go_roundw
          case rel => exact ⟨k + 1, l.set k (z + y), by go_num, by omega, HT.out.next (by rw [hwl.out]; omega) HV.out.symm, hE0.out.ruSet k _, hE2.out.far (by simp; omega) _, hEB.out.setCell (by simp) _⟩
          case measure => simp [intOf]; omega
        · obtain rfl : k = 8 := by omega
          have hl := ht.done (by rw [hwl.out]; exact Nat.le_refl 8)
          rw [hl] at hE0
          have hs := sz8_of hwl.out
          clear ht E0 E2 EB hll
          go_wp2_with (first | (refine wpList_load_row rfl 51 _ rfl w.heap.size rfl 51 (ru (blk [h0, h1, h2, h3, h4, h5, h6, h7] L)) (0, 0) _ hE0.out Tryd.underlying51 rfl hs ?_) | (refine wpList_store_row rfl 51 _ _ rfl (w.heap.size + 1 + 1) (ru (blk [h0, h1, h2, h3, h4, h5, h6, h7] L)) rfl rfl 51 (ru (List.replicate 8 0)) hE2.out hs (by rw [ru_size, ru_size, hwl.out]; rfl) (ru_one _) ?_))
          refine bodyPost_ret (results_cell_row rfl _ _ (w.heap.size + 1 + 1) 51 (ru (blk [h0, h1, h2, h3, h4, h5, h6, h7] L)) (0, 0) _ rfl (hE2.out.row _) Tryd.underlying51 rfl hs) rfl ?_
          exact ⟨rfl, Kept.below hEB.out (Kept.setRow (S := fun x => x = w.heap.size + 1 + 1) (Kept.refl _ _) (.inl rfl) _) (fun x hx => by omega) hEB.out.size⟩
end Go.Proofs.YthaejfbbefpojaaDoor
