/-
  Contract of the document's block: a block goes in. Condition: eight numbers; the table of 64 numbers; a block of 64 bytes.
-/
import Derived.Test.YthaejfbbefpojaaDoorShA
import Derived.Test.YthaejfbbefpojaaDoorShC
import Derived.StillTailTactics
import Derived.Deep.RegionLaw
namespace Go.Proofs.YthaejfbbefpojaaDoor
open Go.RowKit

theorem R_add4b (a b c d : BitVec 32) : (R a + R b + R c + R d) % 4294967296 = R (a + b + c + d) := R_add4 a b c d
theorem byte_at (s : ByteArray) (i : Nat) (hi : i < s.size) (W : World) : (Instr.index 9 (.string s) (.int .i64 (i : Int))).run Tryd.prog W = .ok (.int .u8 (R (zw (s.data.toList.getD i 0)))) W := by
  rw [run_index_string W 9 s .i64 (i : Int) Tryd.underlying9, dif_pos ⟨by omega, by omega⟩, R_zw]
  have h : s.data.toList[i]? = some s[i] := by simp [hi]; rfl
  have h2 : s.data.toList.getD i 0 = s[i] := by rw [List.getD_eq_getElem?_getD, h]; rfl
  rw [h2]
  rfl
theorem Blk.new4 (w : World) (o1 o2 o3 : Obj) (t : TypeId) (cs : Array Value) : Blk ((((w.alloc o1).alloc o2).alloc o3).alloc (.cells cs t)) (w.heap.size + 1 + 1 + 1) t cs := by
  have := Blk.new (((w.alloc o1).alloc o2).alloc o3) t cs
  simpa using this
set_option maxRecDepth 100000 in
set_option maxHeartbeats 8000000 in
theorem ref_block (h : Sh.V) (hh : h.length = 8) (s : ByteArray) (hs : s.size = 64) (w : World) :
    Calls Tryd.prog 37 #[.agg (ru h), .agg (ru Sh.K), .string s] w fun e w' => e = .returned (.agg (ru (blk h s.data.toList))) ∧ Below w.heap.size w w' := by
  obtain ⟨KK, hKK⟩ : ∃ K, Sh.K = K := ⟨_, rfl⟩
  have HKK := Lib.hid hKK
  have hKl : KK.length = 64 := by rw [← hKK]; rfl
  rw [hKK]
  clear hKK
  go_enter Tryd.func37, Tryd.ntmps37
  go_wp2_with fail
  go_loopw [8, 9, 10] (fun i _ _ wr => ∃ (k : Nat) (l : Sh.V), i = .int .i64 (k : Int) ∧ k ≤ 64 ∧ Fill (W64 s.data.toList) k l ∧ Blk wr w.heap.size 51 (ru h) ∧ Blk wr (w.heap.size + 1) 64 (ru KK) ∧ Blk wr (w.heap.size + 1 + 1) 51 (ru (List.replicate 8 0)) ∧ Blk wr (w.heap.size + 1 + 1 + 1) 64 (ru l) ∧ Below w.heap.size w wr ∧ w.heap.size + 4 ≤ wr.heap.size)
    (fun i _ _ _ => 64 - (intOf i).toNat)
  case atStart =>
    refine ⟨0, List.replicate 64 0, rfl, by omega, ?_, ?_, ?_, ?_, ?_, ?_, ?_⟩
    · have := Fill.zero (W64 s.data.toList)
      rw [W64_length] at this
      exact this
    · exact (((Blk.new w _ _).alloc _).alloc _).alloc _
    · exact ((Blk.new2 _ _ _ _).alloc _).alloc _
    · exact (Blk.new3 _ _ _ _ _).alloc _
    · rw [ru_zeros]
      exact Blk.new4 _ _ _ _ _ _
    · exact ((((Below.refl _ w).alloc (Nat.le_refl _) _).alloc (by simp) _).alloc (by simp; omega) _).alloc (by simp; omega) _
    · simp
  case round =>
    obtain ⟨k, l, rfl, hk, HF, H0, H1, H2, H3, HB, hsz⟩ := hrel
    have hHF := Lib.hid HF
    have hH0 := Lib.hid H0
    have hH1 := Lib.hid H1
    have hH2 := Lib.hid H2
    have hH3 := Lib.hid H3
    have hHB := Lib.hid HB
    have hlen : l.length = 64 := by rw [HF.len, W64_length]
    by_cases hk64 : k < 64
    · by_cases hlt : k < 16
      · have d1 := Blk.ru H3 k (by omega)
        have d2 := Blk.frozen H3 k
        have b0 := byte_at s (4 * k) (by omega)
        have b1 := byte_at s (4 * k + 1) (by omega)
        have b2 := byte_at s (4 * k + 2) (by omega)
        have b3 := byte_at s (4 * k + 3) (by omega)
        rw [show ((4 * k : Nat) : Int) = 4 * (k : Int) by omega] at b0
        rw [show ((4 * k + 1 : Nat) : Int) = 4 * (k : Int) + 1 by omega] at b1
        rw [show ((4 * k + 2 : Nat) : Int) = 4 * (k : Int) + 2 by omega] at b2
        rw [show ((4 * k + 3 : Nat) : Int) = 4 * (k : Int) + 3 by omega] at b3
        have hbe := be4_add s.data.toList k
        generalize zw (s.data.toList.getD (4 * k) 0) = a0 at b0 hbe
        generalize zw (s.data.toList.getD (4 * k + 1) 0) = a1 at b1 hbe
        generalize zw (s.data.toList.getD (4 * k + 2) 0) = a2 at b2 hbe
        generalize zw (s.data.toList.getD (4 * k + 3) 0) = a3 at b3 hbe
        generalize l.getD k 0 = x0 at d1
        have HBE := Lib.hid hbe
        have ki : (k : Int) < 16 := by omega
        clear HF H0 H1 H2 H3 HB hbe
        go_wp2_with fail
        go_region
        go_wp2_with fail
        have HV : Hid ((R a0 % 4294967296 * 16777216 + R a1 % 4294967296 * 65536 + R a2 % 4294967296 * 256 + R a3) % 4294967296 = R (Sh.be4 s.data.toList k)) := by
          refine Lib.hid ?_
          rw [HBE.out]
          unfold R
          simp only [BitVec.toNat_add, BitVec.toNat_shiftLeft, Nat.shiftLeft_eq]
          omega
        rw [HV.out]
        go_roundw
        case rel =>
          exact ⟨k + 1, l.set k (Sh.be4 s.data.toList k), by go_num, by omega, hHF.out.next (by rw [W64_length]; omega) (W64_low _ k hlt).symm, ((hH0.out.far (by simp; omega) _)).drew, ((hH1.out.far (by simp) _)).drew, ((hH2.out.far (by simp) _)).drew, (hH3.out.ruSet k _).drew, (hHB.out.setCell (by simp; omega) _).drew, by simpa [World.setCell] using hsz⟩
        case measure => simp [intOf]; omega
      · obtain ⟨n, hkn⟩ : ∃ n, k = n + 16 := ⟨k - 16, by omega⟩
        have c0 := Blk.ru H3 n (by omega)
        have c1 := Blk.ru H3 (n + 1) (by omega)
        have c2 := Blk.ru H3 (n + 9) (by omega)
        have c3 := Blk.ru H3 (n + 14) (by omega)
        have d1 := Blk.ru H3 k (by omega)
        have d2 := Blk.frozen H3 k
        have hre := W64_rec s.data.toList k (by omega) hk64
        rw [show k - 16 = n by omega, show k - 15 = n + 1 by omega, show k - 7 = n + 9 by omega, show k - 2 = n + 14 by omega, ← HF.low n (by omega), ← HF.low (n + 1) (by omega), ← HF.low (n + 9) (by omega), ← HF.low (n + 14) (by omega)] at hre
        generalize l.getD n 0 = a0 at c0 hre
        generalize l.getD (n + 1) 0 = a1 at c1 hre
        generalize l.getD (n + 9) 0 = a2 at c2 hre
        generalize l.getD (n + 14) 0 = a3 at c3 hre
        generalize l.getD k 0 = x0 at d1
        have HRE := Lib.hid hre
        have e1 : (k : Int) - 15 = ((n + 1 : Nat) : Int) := by omega
        have e2 : (k : Int) - 2 = ((n + 14 : Nat) : Int) := by omega
        have e3 : (k : Int) - 16 = (n : Int) := by omega
        obtain ⟨m, hm⟩ : ∃ m, n + 9 = m := ⟨_, rfl⟩
        rw [hm] at c2
        have e4 : (k : Int) - 7 = (m : Int) := by omega
        have w1 := IntWalk.i64_in (n : Int) (by omega)
        have w2 := IntWalk.i64_in (m : Int) (by omega)
        have w3 := IntWalk.i64_in (k : Int) (by omega)
        have nl : (n : Int) < 64 := by omega
        have ml : (m : Int) < 64 := by omega
        clear hm
        have hki : (k : Int) < 64 := by omega
        have hki2 : ¬ (k : Int) < 16 := by omega
        clear hkn
        have r1 : R a1 / (8 : Int) = R (a1 >>> 3) := R_shr _ 3
        have r2 : R a3 / (1024 : Int) = R (a3 >>> 10) := R_shr _ 10
        have x1 := R_xor (Sh.rr a1 7) (Sh.rr a1 18)
        have x2 : bits BinOp.xor IntKind.u32 (R (Sh.rr a1 7 ^^^ Sh.rr a1 18)) (R (a1 >>> 3)) = R (Sh.s0 a1) := R_xor _ _
        have x3 := R_xor (Sh.rr a3 17) (Sh.rr a3 19)
        have x4 : bits BinOp.xor IntKind.u32 (R (Sh.rr a3 17 ^^^ Sh.rr a3 19)) (R (a3 >>> 10)) = R (Sh.s1 a3) := R_xor _ _
        clear HF H0 H1 H2 H3 HB hre hlen
        go_wp2_with fail
        go_still_tail 29, (by kernel_rfl)
        still_call (turn_7 a1 _)
        repeat still_step
        still_call (turn_18 a1 _)
        repeat still_step
        still_call (turn_17 a3 _)
        repeat still_step
        still_call (turn_19 a3 _)
        repeat still_step
        refine wpStill_nil ?_
        change wpList _ _ _ _ _ wr.drew
        have d1' : wr.drew.cell? ⟨w.heap.size + 1 + 1 + 1, k, none⟩ = some (.int .u32 (R x0)) := d1
        have d2' : wr.drew.frozen? ⟨w.heap.size + 1 + 1 + 1, k, none⟩ = false := d2
        go_wp2_with fail
        have HV : Hid ((R a0 + R a2 + R (Sh.s0 a1) + R (Sh.s1 a3)) % 4294967296 = R ((W64 s.data.toList).getD k 0)) := by
          refine Lib.hid ?_
          rw [HRE.out, R_add4]
          congr 1
          rw [BitVec.add_assoc a0, BitVec.add_comm a2, ← BitVec.add_assoc a0]
        rw [HV.out]
        go_roundw
        case rel => exact ⟨k + 1, l.set k ((W64 s.data.toList).getD k 0), by go_num, by omega, hHF.out.next (by rw [W64_length]; omega) rfl, ((hH0.out.far (by simp; omega) _)).drew, ((hH1.out.far (by simp) _)).drew, ((hH2.out.far (by simp) _)).drew, (hH3.out.ruSet k _).drew, (hHB.out.setCell (by simp; omega) _).drew, by simpa [World.setCell] using hsz⟩
        case measure => simp [intOf]; omega
    · obtain rfl : k = 64 := by omega
      have hl := hHF.out.done (by rw [W64_length]; exact Nat.le_refl 64)
      subst hl
      have hsh := sz8_of hh
      clear HF H0 H1 H2 H3 HB hlen
      rw [show ((64 : Nat) : Int) = 64 from rfl]
      go_wp2_with (first | (refine wpList_load_row rfl 51 _ rfl w.heap.size rfl 51 (ru h) (0, 0) _ hH0.out Tryd.underlying51 rfl hsh ?_) | (refine wpList_store_row rfl 51 _ _ rfl wr.heap.size (ru h) rfl rfl 51 _ (Blk.new wr _ _) hsh (by rw [ru_size, hh]; rfl) (ru_one _) (Hid.out ?_)))
      have C0 := Lib.hid ((hH0.out.alloc (.cells #[.int .u32 0, .int .u32 0, .int .u32 0, .int .u32 0, .int .u32 0, .int .u32 0, .int .u32 0, .int .u32 0] 51)).rowFar (g' := wr.heap.size) (by omega) (ru h))
      have C1 := Lib.hid ((hH1.out.alloc (.cells #[.int .u32 0, .int .u32 0, .int .u32 0, .int .u32 0, .int .u32 0, .int .u32 0, .int .u32 0, .int .u32 0] 51)).rowFar (g' := wr.heap.size) (by omega) (ru h))
      have C2 := Lib.hid ((hH2.out.alloc (.cells #[.int .u32 0, .int .u32 0, .int .u32 0, .int .u32 0, .int .u32 0, .int .u32 0, .int .u32 0, .int .u32 0] 51)).rowFar (g' := wr.heap.size) (by omega) (ru h))
      have C3 := Lib.hid ((hH3.out.alloc (.cells #[.int .u32 0, .int .u32 0, .int .u32 0, .int .u32 0, .int .u32 0, .int .u32 0, .int .u32 0, .int .u32 0] 51)).rowFar (g' := wr.heap.size) (by omega) (ru h))
      have C4 := Lib.hid ((Blk.new wr 51 #[.int .u32 0, .int .u32 0, .int .u32 0, .int .u32 0, .int .u32 0, .int .u32 0, .int .u32 0, .int .u32 0]).row (ru h))
      have CB := Lib.hid (Kept.below hHB.out (Kept.setRow (S := fun b => b = wr.heap.size) (Kept.alloc (Kept.refl _ wr) (.cells #[.int .u32 0, .int .u32 0, .int .u32 0, .int .u32 0, .int .u32 0, .int .u32 0, .int .u32 0, .int .u32 0] 51)) (.inl rfl) (ru h)) (fun x hx => by omega) (by omega))
      obtain ⟨g, hg⟩ : ∃ g, wr.heap.size = g := ⟨_, rfl⟩
      rw [hg] at C0 C1 C2 C3 C4 CB ⊢
      have hgl : w.heap.size + 4 ≤ g := by omega
      generalize (wr.alloc (.cells #[.int .u32 0, .int .u32 0, .int .u32 0, .int .u32 0, .int .u32 0, .int .u32 0, .int .u32 0, .int .u32 0] 51)).setRow g (ru h) = w2 at C0 C1 C2 C3 C4 CB ⊢
      clear hg hsz hHF hH0 hH1 hH2 hH3 hHB hsh
      obtain ⟨h0, h1, h2, h3, h4, h5, h6, h7, rfl⟩ := eight hh
      refine Lib.hid ?_
      go_wp2_with fail
      go_loopw [12, 13, 14, 15, 16] (fun i _ _ _ _ wr => ∃ (k : Nat) (x0 x1 x2 x3 x4 x5 x6 x7 : BitVec 32), i = .int .i64 (k : Int) ∧ k ≤ 64 ∧ Sh.rounds (W64 s.data.toList) [h0, h1, h2, h3, h4, h5, h6, h7] k = [x0, x1, x2, x3, x4, x5, x6, x7] ∧ Blk wr w.heap.size 51 (ru [h0, h1, h2, h3, h4, h5, h6, h7]) ∧ Blk wr (w.heap.size + 1) 64 (ru KK) ∧ Blk wr (w.heap.size + 1 + 1) 51 (ru (List.replicate 8 0)) ∧ Blk wr (w.heap.size + 1 + 1 + 1) 64 (ru (W64 s.data.toList)) ∧ Blk wr g 51 (ru [x0, x1, x2, x3, x4, x5, x6, x7]) ∧ Below w.heap.size w wr)
        (fun i _ _ _ _ _ => 64 - (intOf i).toNat)
      case atStart => exact ⟨0, h0, h1, h2, h3, h4, h5, h6, h7, rfl, by omega, rfl, C0.out, C1.out, C2.out, C3.out, C4.out, CB.out⟩
      case round =>
        clear C0 C1 C2 C3 C4 CB
        obtain ⟨k, x0, x1, x2, x3, x4, x5, x6, x7, rfl, hk, hro, C0, C1, C2, C3, C4, CB⟩ := hrel
        have D0 := Lib.hid C0
        have D1 := Lib.hid C1
        have D2 := Lib.hid C2
        have D3 := Lib.hid C3
        have D4 := Lib.hid C4
        have DB := Lib.hid CB
        have HRO := Lib.hid hro
        by_cases hlt : k < 64
        · have cK := Blk.ru C1 k (by omega)
          have cW := Blk.ru C3 k (by rw [W64_length]; omega)
          have HNX := Lib.hid (rounds_next _ _ k hro)
          rw [HKK.out] at HNX
          generalize KK.getD k 0 = kk at cK HNX
          generalize (W64 s.data.toList).getD k 0 = ww at cW HNX
          have c0 : wr.cell? ⟨g, 0, none⟩ = some (.int .u32 (R x0)) := Blk.ru C4 0 (by simp)
          have c1 : wr.cell? ⟨g, 1, none⟩ = some (.int .u32 (R x1)) := Blk.ru C4 1 (by simp)
          have c2 : wr.cell? ⟨g, 2, none⟩ = some (.int .u32 (R x2)) := Blk.ru C4 2 (by simp)
          have c3 : wr.cell? ⟨g, 3, none⟩ = some (.int .u32 (R x3)) := Blk.ru C4 3 (by simp)
          have c4 : wr.cell? ⟨g, 4, none⟩ = some (.int .u32 (R x4)) := Blk.ru C4 4 (by simp)
          have c5 : wr.cell? ⟨g, 5, none⟩ = some (.int .u32 (R x5)) := Blk.ru C4 5 (by simp)
          have c6 : wr.cell? ⟨g, 6, none⟩ = some (.int .u32 (R x6)) := Blk.ru C4 6 (by simp)
          have c7 : wr.cell? ⟨g, 7, none⟩ = some (.int .u32 (R x7)) := Blk.ru C4 7 (by simp)
          have ki : (k : Int) < 64 := by omega
          have n4 : bits BinOp.xor IntKind.u32 IntKind.u32.max (R x4) = R (~~~ x4) := R_com x4
          have a1 := R_and x4 x5
          have a2 := R_and (~~~ x4) x6
          have a3 : bits BinOp.or IntKind.u32 (R (x4 &&& x5)) (R (~~~ x4 &&& x6)) = R (Sh.ch x4 x5 x6) := R_or _ _
          have m1 := R_and x0 x1
          have m2 := R_and x0 x2
          have m3 := R_and x1 x2
          have m4 := R_or (x0 &&& x1) (x0 &&& x2)
          have m5 : bits BinOp.or IntKind.u32 (R (x0 &&& x1 ||| x0 &&& x2)) (R (x1 &&& x2)) = R (Sh.maj x0 x1 x2) := R_or _ _
          have t1 := R_xor (Sh.rr x4 6) (Sh.rr x4 11)
          have t2 : bits BinOp.xor IntKind.u32 (R (Sh.rr x4 6 ^^^ Sh.rr x4 11)) (R (Sh.rr x4 25)) = R (Sh.S1 x4) := R_xor _ _
          have u1 := R_xor (Sh.rr x0 2) (Sh.rr x0 13)
          have u2 : bits BinOp.xor IntKind.u32 (R (Sh.rr x0 2 ^^^ Sh.rr x0 13)) (R (Sh.rr x0 22)) = R (Sh.S0 x0) := R_xor _ _
          clear hro C0 C1 C2 C3 C4 CB
          go_wp2_with fail
          go_big_quiet (exact Calls.quiet_of_same (turn_all _ _ (by decide) _))
          go_wp2_with fail
          generalize hq : wr.drewN _ = w3
          have b0 : w3.cell? ⟨g, 0, none⟩ = some (.int .u32 (R x0)) := by rw [← hq]; exact c0
          have b1 : w3.cell? ⟨g, 1, none⟩ = some (.int .u32 (R x1)) := by rw [← hq]; exact c1
          have b2 : w3.cell? ⟨g, 2, none⟩ = some (.int .u32 (R x2)) := by rw [← hq]; exact c2
          have b3 : w3.cell? ⟨g, 3, none⟩ = some (.int .u32 (R x3)) := by rw [← hq]; exact c3
          have b4 : w3.cell? ⟨g, 4, none⟩ = some (.int .u32 (R x4)) := by rw [← hq]; exact c4
          have b5 : w3.cell? ⟨g, 5, none⟩ = some (.int .u32 (R x5)) := by rw [← hq]; exact c5
          have b6 : w3.cell? ⟨g, 6, none⟩ = some (.int .u32 (R x6)) := by rw [← hq]; exact c6
          have b7 : w3.cell? ⟨g, 7, none⟩ = some (.int .u32 (R x7)) := by rw [← hq]; exact c7
          have F0 := Lib.hid (show Blk w3 w.heap.size 51 (ru [h0, h1, h2, h3, h4, h5, h6, h7]) by rw [← hq]; exact D0.out)
          have F1 := Lib.hid (show Blk w3 (w.heap.size + 1) 64 (ru KK) by rw [← hq]; exact D1.out)
          have F2 := Lib.hid (show Blk w3 (w.heap.size + 1 + 1) 51 (ru (List.replicate 8 0)) by rw [← hq]; exact D2.out)
          have F3 := Lib.hid (show Blk w3 (w.heap.size + 1 + 1 + 1) 64 (ru (W64 s.data.toList)) by rw [← hq]; exact D3.out)
          have F4 := Lib.hid (show Blk w3 g 51 (ru [x0, x1, x2, x3, x4, x5, x6, x7]) by rw [← hq]; exact D4.out)
          have FB := Lib.hid (show Below w.heap.size w w3 by rw [← hq]; exact below_drewN DB.out _)
          clear D0 D1 D2 D3 D4 DB c0 c1 c2 c3 c4 c5 c6 c7 cK cW hq
          go_big_quiet (exact Calls.quiet_of_same (turn_all _ _ (by decide) _))
          generalize hq : w3.drewN _ = w4
          have c0 : w4.cell? ⟨g, 0, none⟩ = some (.int .u32 (R x0)) := by rw [← hq]; exact b0
          have c1 : w4.cell? ⟨g, 1, none⟩ = some (.int .u32 (R x1)) := by rw [← hq]; exact b1
          have c2 : w4.cell? ⟨g, 2, none⟩ = some (.int .u32 (R x2)) := by rw [← hq]; exact b2
          have c3 : w4.cell? ⟨g, 3, none⟩ = some (.int .u32 (R x3)) := by rw [← hq]; exact b3
          have c4 : w4.cell? ⟨g, 4, none⟩ = some (.int .u32 (R x4)) := by rw [← hq]; exact b4
          have c5 : w4.cell? ⟨g, 5, none⟩ = some (.int .u32 (R x5)) := by rw [← hq]; exact b5
          have c6 : w4.cell? ⟨g, 6, none⟩ = some (.int .u32 (R x6)) := by rw [← hq]; exact b6
          have c7 : w4.cell? ⟨g, 7, none⟩ = some (.int .u32 (R x7)) := by rw [← hq]; exact b7
          have G0 := Lib.hid (show Blk w4 w.heap.size 51 (ru [h0, h1, h2, h3, h4, h5, h6, h7]) by rw [← hq]; exact F0.out)
          have G1 := Lib.hid (show Blk w4 (w.heap.size + 1) 64 (ru KK) by rw [← hq]; exact F1.out)
          have G2 := Lib.hid (show Blk w4 (w.heap.size + 1 + 1) 51 (ru (List.replicate 8 0)) by rw [← hq]; exact F2.out)
          have G3 := Lib.hid (show Blk w4 (w.heap.size + 1 + 1 + 1) 64 (ru (W64 s.data.toList)) by rw [← hq]; exact F3.out)
          have G4 := Lib.hid (show Blk w4 g 51 (ru [x0, x1, x2, x3, x4, x5, x6, x7]) by rw [← hq]; exact F4.out)
          have GB := Lib.hid (show Below w.heap.size w w4 by rw [← hq]; exact below_drewN FB.out _)
          clear F0 F1 F2 F3 F4 FB b0 b1 b2 b3 b4 b5 b6 b7 hq
          go_wp2_with (refine wpList_store_row rfl 51 _ _ rfl g _ rfl rfl 51 _ G4.out sz8 rfl (by simp [Value.oneCell']) (Hid.out ?_))
          have V0 : Hid ((R x7 + R (Sh.S1 x4) + R (Sh.ch x4 x5 x6) + R kk + R ww + (R (Sh.S0 x0) + R (Sh.maj x0 x1 x2))) % 4294967296 = R ((x7 + Sh.S1 x4 + Sh.ch x4 x5 x6 + kk + ww) + (Sh.S0 x0 + Sh.maj x0 x1 x2))) := by
            refine Lib.hid ?_
            unfold R
            simp only [BitVec.toNat_add]
            omega
          have V4 : Hid ((R x3 + (R x7 + R (Sh.S1 x4) + R (Sh.ch x4 x5 x6) + R kk + R ww)) % 4294967296 = R (x3 + (x7 + Sh.S1 x4 + Sh.ch x4 x5 x6 + kk + ww))) := by
            refine Lib.hid ?_
            unfold R
            simp only [BitVec.toNat_add]
            omega
          rw [V0.out, V4.out]
          have HE := Lib.hid (Kept.below GB.out (Kept.setRow (S := fun b => b = g) (Kept.refl _ w4) (.inl rfl) (ru [(x7 + Sh.S1 x4 + Sh.ch x4 x5 x6 + kk + ww) + (Sh.S0 x0 + Sh.maj x0 x1 x2), x0, x1, x2, x3 + (x7 + Sh.S1 x4 + Sh.ch x4 x5 x6 + kk + ww), x4, x5, x6])) (fun x hx => by omega) GB.out.size)
          refine Lib.hid ?_
          clear n4 a1 a2 a3 m1 m2 m3 m4 m5 t1 t2 u1 u2 c0 c1 c2 c3 c4 c5 c6 c7
          go_wp2_with fail
          go_roundw
          case rel => exact ⟨k + 1, _, x0, x1, x2, _, x4, x5, x6, by go_num, by omega, HNX.out, G0.out.rowFar (by omega) _, G1.out.rowFar (by omega) _, G2.out.rowFar (by omega) _, G3.out.rowFar (by omega) _, G4.out.row _, HE.out⟩
          case measure => simp [intOf]; omega
        · obtain rfl : k = 64 := by omega
          clear C0 C1 C2 C3 C4 CB
          rw [show ((64 : Nat) : Int) = 64 from rfl]
          have hX := hro
          have HW := Lib.hid (fun i (hi : i < 8) => blk_at [h0, h1, h2, h3, h4, h5, h6, h7] s.data.toList [x0, x1, x2, x3, x4, x5, x6, x7] hX rfl rfl i hi)
          have hwl := Lib.hid (blk_length [h0, h1, h2, h3, h4, h5, h6, h7] s.data.toList rfl)
          clear hX HRO hro
          go_wp2_with fail
          go_loopw [17] (fun i wr => ∃ (k : Nat) (l : Sh.V), i = .int .i64 (k : Int) ∧ k ≤ 8 ∧ Turn [h0, h1, h2, h3, h4, h5, h6, h7] (blk [h0, h1, h2, h3, h4, h5, h6, h7] s.data.toList) k l ∧ Blk wr w.heap.size 51 (ru l) ∧ Blk wr (w.heap.size + 1 + 1) 51 (ru (List.replicate 8 0)) ∧ Blk wr g 51 (ru [x0, x1, x2, x3, x4, x5, x6, x7]) ∧ Below w.heap.size w wr)
            (fun i _ => 8 - (intOf i).toNat)
          case atStart => exact ⟨0, _, rfl, by omega, ⟨by rw [hwl.out]; rfl, fun j hj => by omega, fun j _ => rfl⟩, D0.out, D2.out, D4.out, DB.out⟩
          case round =>
            clear D0 D1 D2 D3 D4 DB
            obtain ⟨k, l, rfl, hk, ht, E0, E2, E4, EB⟩ := hrel
            have HT := Lib.hid ht
            have hE0 := Lib.hid E0
            have hE2 := Lib.hid E2
            have hE4 := Lib.hid E4
            have hEB := Lib.hid EB
            have hll : l.length = 8 := by rw [ht.len, hwl.out]
            by_cases hlt : k < 8
            · have c0 := Blk.ru E0 k (by omega)
              have c1 := Blk.frozen E0 k
              have c2 := Blk.ru E4 k hlt
              have hv := HW.out k hlt
              rw [← ht.high k (Nat.le_refl _)] at hv
              generalize ([x0, x1, x2, x3, x4, x5, x6, x7] : Sh.V).getD k 0 = y at c2 hv
              generalize l.getD k 0 = z at c0 hv
              have ha := R_add z y
              have HV := Lib.hid hv
              have ki : (k : Int) < 8 := by omega
              clear ht E0 E2 E4 EB hv hll
              go_wp2_with fail
              go_region
              go_wp2_with fail
              go_roundw
              case rel => exact ⟨k + 1, l.set k (z + y), by go_num, by omega, HT.out.next (by rw [hwl.out]; omega) HV.out.symm, (hE0.out.ruSet k _).drew, (hE2.out.far (by simp; omega) _).drew, (hE4.out.far (by simp; omega) _).drew, (hEB.out.setCell (by simp) _).drew⟩
              case measure => simp [intOf]; omega
            · obtain rfl : k = 8 := by omega
              have hl := ht.done (by rw [hwl.out]; exact Nat.le_refl 8)
              rw [hl] at hE0
              have hs8 := sz8_of hwl.out
              clear ht E0 E2 E4 EB hll
              go_wp2_with (first | (refine wpList_load_row rfl 51 _ rfl w.heap.size rfl 51 (ru (blk [h0, h1, h2, h3, h4, h5, h6, h7] s.data.toList)) (0, 0) _ hE0.out Tryd.underlying51 rfl hs8 ?_) | (refine wpList_store_row rfl 51 _ _ rfl (w.heap.size + 1 + 1) (ru (blk [h0, h1, h2, h3, h4, h5, h6, h7] s.data.toList)) rfl rfl 51 (ru (List.replicate 8 0)) hE2.out hs8 (by rw [ru_size, ru_size, hwl.out]; rfl) (ru_one _) ?_))
              refine bodyPost_ret (results_cell_row rfl _ _ (w.heap.size + 1 + 1) 51 (ru (blk [h0, h1, h2, h3, h4, h5, h6, h7] s.data.toList)) (0, 0) _ rfl (hE2.out.row _) Tryd.underlying51 rfl hs8) rfl ?_
              exact ⟨rfl, Kept.below hEB.out (Kept.setRow (S := fun x => x = w.heap.size + 1 + 1) (Kept.refl _ _) (.inl rfl) _) (fun x hx => by omega) hEB.out.size⟩
end Go.Proofs.YthaejfbbefpojaaDoor
