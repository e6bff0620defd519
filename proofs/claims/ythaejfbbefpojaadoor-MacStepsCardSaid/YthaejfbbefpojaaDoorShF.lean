/-
  Contract of sha.Sum: the digest of all parts, one behind the other. Condition: the tables hold what their text says; at most 1000 parts of 100000 bytes in all.
-/
import Derived.Test.YthaejfbbefpojaaDoorShE
namespace Go.Proofs.YthaejfbbefpojaaDoor
open Go.RowKit Go.Shelf
attribute [local go_sem] Oper.semAt_some

section
variable {F : Fence} {n : Nat} {P : Program} {ops : Array Oper} {rest : List Oper} {o : Oper} {a : Act} {w : World} {Q : Exit → Act → World → Prop}
theorem wpListIn_store_blk (hw : Region.wanted o (yielded ops a.tmps) = true) (ty : TypeId) (x y : Operand) (ho : o.op = .store ty x y)
    (g : Nat) (cells : Array Value) (hx : a.eval x = .pointer (some ⟨g, 0, none⟩)) (hy : a.eval y = .agg cells) (t : TypeId) (old : Array Value) (hb : Blk w g t old) (hi : (P.info? ty).map (·.size) = some cells.size)
    (hold : old.size = cells.size) (h1 : cells.all (·.oneCell') = true) (h : wpListIn F n P ops Q rest (a.put o.dst undef) (w.setRow g cells)) : wpListIn F n P ops Q (o :: rest) a w := by
  refine BigFrame.wpListIn_want hw fun K hK => ⟨fun f hf => ?_, ?_⟩
  · simp [Oper.about, ho] at hf
  · rw [Oper.semAt_plain F _ _ (by rw [ho]; intro c hc'; cases hc')]
    unfold execOp
    simp only [ho, hx, hy, Instr.storeAt, Instr.sureAddr, Sem.run_bind, Sem.run_pure, Result.andThen_ok, run_storeVar_row w g t ty old cells hb hi hold h1]
    exact hK _ _ h
theorem wpListIn_load_cells (hw : Region.wanted o (yielded ops a.tmps) = true) (ty : TypeId) (x : Operand) (ho : o.op = .load ty x)
    (p : Addr) (hx : a.eval x = .pointer (some p)) (cs : List Value) {d : TypeDesc} (hc : ∀ j v, cs[j]? = some v → w.cell? (p.add j) = some v)
    (hu : P.underlying ty = some d) (hd : (match d with | .struct _ | .array _ _ => true | _ => false) = true) (hi : (P.info? ty).map (·.size) = some cs.length)
    (h : wpListIn F n P ops Q rest (a.put o.dst (.agg cs.toArray)) w) : wpListIn F n P ops Q (o :: rest) a w := by
  refine BigFrame.wpListIn_want hw fun K hK => ⟨fun f hf => ?_, ?_⟩
  · simp [Oper.about, ho] at hf
  · rw [Oper.semAt_plain F _ _ (by rw [ho]; intro c hc'; cases hc')]
    unfold execOp
    simp only [ho, hx, Instr.loadAt, Instr.sureAddr, Sem.run_bind, Sem.run_pure, Result.andThen_ok, run_loadVar_cells w p ty cs d hc hu hd hi]
    exact hK _ _ h
end

/-- THE DIGEST, not to be unfolded. -/
noncomputable def dig (L : List UInt8) : List UInt8 := Classical.choose (⟨Sh.sum L, rfl⟩ : ∃ v, v = Sh.sum L)
theorem dig_eq (L : List UInt8) : dig L = Sh.sum L := Classical.choose_spec (⟨Sh.sum L, rfl⟩ : ∃ v, v = Sh.sum L)
theorem dig_length (L : List UInt8) : (dig L).length = 32 := by rw [dig_eq]; exact Sh.sum_length L
noncomputable def h0 : Sh.V := Classical.choose (⟨Sh.H0, rfl⟩ : ∃ v, v = Sh.H0)
theorem h0_eq : h0 = Sh.H0 := Classical.choose_spec (⟨Sh.H0, rfl⟩ : ∃ v, v = Sh.H0)
theorem h0_length : h0.length = 8 := by rw [h0_eq]; rfl
/-- The numbers behind blocks. -/
noncomputable def fol (pre : List (List UInt8)) : Sh.V := pre.foldl blk h0
theorem fol_nil : fol [] = h0 := rfl
theorem fol_snoc (pre : List (List UInt8)) (x : List UInt8) : fol (pre ++ [x]) = blk (fol pre) x := by simp [fol]
theorem foldl_length : ∀ (pre : List (List UInt8)) (h : Sh.V), h.length = 8 → (pre.foldl blk h).length = 8
  | [], _, hh => hh
  | x :: pre, h, hh => foldl_length pre (blk h x) (blk_length h x hh)
theorem fol_length (pre : List (List UInt8)) : (fol pre).length = 8 := foldl_length pre h0 h0_length
theorem fol_sum (L : List UInt8) : Sh.out (fol (chunks (L ++ pad L.length))) = dig L := by
  rw [dig_eq]
  unfold Sh.sum fol
  rw [blocks_fold _ _ _ (Nat.le_refl _), h0_eq, show blk = Sh.block from funext fun h => funext fun L => blk_eq h L]
  rfl
theorem len_flat (l : List ByteArray) : (tx l).flatten.length = len l := by
  induction l with
  | nil => rfl
  | cons s l ih => simp only [tx, len, List.map_cons, List.flatten_cons, List.length_append, List.sum_cons] at ih ⊢; rw [ih]; simp
theorem len_snoc (l : List ByteArray) (p : ByteArray) : len (l ++ [p]) = len l + p.size := by
  unfold len
  rw [List.map_append, List.sum_append]
  simp
theorem pad_len (n : Nat) : (pad n).length ≤ 100 := by
  unfold pad Sh.be8 Sh.zeros
  simp only [List.length_cons, List.length_append, List.length_replicate, List.length_nil]
  omega

set_option maxRecDepth 100000 in
set_option maxHeartbeats 4000000 in
theorem sum_wide (n : Nat) (hn : 3 ≤ n) (l : List ByteArray) (hl : l.length ≤ 1000) (hs : len l ≤ 100000) (A : Option Addr) (c : Nat) (w : World) (hA : Lies (fun _ => False) w A (cs l)) (hT : Tab w) :
    CallsIn Fence.wide n Tryd.prog 16 #[.slice A l.length c] w fun e w' => e = .returned (.string (ba (dig (tx l).flatten))) ∧ Below w.heap.size w w' := by
  have h1 : 1 ≤ n := by omega
  have HA := Lib.hid hA
  have HT := Lib.hid hT
  have hc : ∀ j v, (ru h0).toList[j]? = some v → w.cell? ((⟨0, 0, none⟩ : Addr).add j) = some v := fun j v hj => by
    have hadd : (⟨0, 0, none⟩ : Addr).add j = ⟨0, j, none⟩ := by unfold Addr.add; split <;> simp_all
    have hj8 : j < 8 := by have := (List.getElem?_eq_some_iff.1 hj).1; simpa [ru_size, h0_length] using this
    rw [hadd, hT.H j hj8, ← h0_eq, ← hj]
    have := ru_getD h0 j (by rw [h0_length]; exact hj8)
    simpa using this.symm
  clear hA hT
  refine callsIn_of_wp_marks Tryd.func16 rfl trivial ?_ rfl
  simp only [Tryd.ntmps16, List.size_toArray, List.length_cons, List.length_nil, Nat.reduceAdd, Nat.reduceSub, Array.replicate_succ, Array.replicate_zero, List.push_toArray, List.append_toArray, List.nil_append, List.cons_append]
  gi_wp2_with (first | (refine wpListIn_load_cells rfl 51 _ rfl _ rfl (ru h0).toList hc Tryd.underlying51 rfl (by rw [Array.length_toList]; exact sz8_of h0_length) ?_) | (refine wpListIn_store_blk rfl 51 _ _ rfl w.heap.size (ru h0) rfl rfl 51 _ (Blk.new w _ _) (sz8_of h0_length) (by rw [ru_size, h0_length]; rfl) (ru_one _) ?_))
  have N1 := Lib.hid ((Blk.new w 51 #[.int .u32 0, .int .u32 0, .int .u32 0, .int .u32 0, .int .u32 0, .int .u32 0, .int .u32 0, .int .u32 0]).row (ru h0))
  have B1 := Lib.hid (Kept.below (Below.refl w.heap.size w) (Kept.setRow (S := fun b => w.heap.size ≤ b) (Kept.alloc (Kept.refl _ w) (.cells #[.int .u32 0, .int .u32 0, .int .u32 0, .int .u32 0, .int .u32 0, .int .u32 0, .int .u32 0, .int .u32 0] 51)) (.inl (Nat.le_refl _)) (ru h0)) (fun _ h => h) (Nat.le_refl _))
  have s1 : w.heap.size < ((w.alloc (.cells #[.int .u32 0, .int .u32 0, .int .u32 0, .int .u32 0, .int .u32 0, .int .u32 0, .int .u32 0, .int .u32 0] 51)).setRow w.heap.size (ru h0)).heap.size := by simp
  generalize (w.alloc (.cells #[.int .u32 0, .int .u32 0, .int .u32 0, .int .u32 0, .int .u32 0, .int .u32 0, .int .u32 0, .int .u32 0] 51)).setRow w.heap.size (ru h0) = w1 at N1 B1 s1 ⊢
  have A1 := Lib.hid (HA.out.below B1.out)
  clear hc
  refine ⟨trivial, (callsIn_wide.2 (size_any l hl hs A c w1 A1.out)).mono ?_⟩
  rintro e w2 ⟨rfl, rfl⟩
  gi_wp2_with fail
  refine ⟨trivial, (callsIn_wide.2 (padding_any (len l) hs w2)).mono ?_⟩
  rintro e w3 ⟨rfl, b3⟩
  have hpd := pad_len (len l)
  have hps : (ba (pad (len l))).size ≤ 100 := by rw [ba_size]; exact hpd
  have hfl := Lib.hid (len_flat l)
  have hfi : (tx (l ++ [ba (pad (len l))])).flatten = (tx l).flatten ++ pad (len l) := by rw [tx_append, List.flatten_append]; simp [tx, ba]
  have hln : len (l ++ [ba (pad (len l))]) ≤ 200000 := by rw [len_snoc]; omega
  have HFI := Lib.hid hfi
  clear hfi hpd
  generalize hpq : ba (pad (len l)) = pd at HFI hps hln ⊢
  clear hpq
  gi_wp2_with fail
  have C1 := ((Blk.new w3 9 #[.string pd]).alloc (.cells #[.slice A l.length c, .slice (some ⟨w3.heap.size, 0, none⟩) 1 1] 30))
  have C2 := Blk.new (w3.alloc (.cells #[.string pd] 9)) 30 #[.slice A l.length c, .slice (some ⟨w3.heap.size, 0, none⟩) 1 1]
  have b5 : Below w2.heap.size w2 ((w3.alloc (.cells #[.string pd] 9)).alloc (.cells #[.slice A l.length c, .slice (some ⟨w3.heap.size, 0, none⟩) 1 1] 30)) := (b3.alloc b3.size _).alloc (Nat.le_trans b3.size (by simp)) _
  have hlp : Lies (fun _ => False) ((w3.alloc (.cells #[.string pd] 9)).alloc (.cells #[.slice A l.length c, .slice (some ⟨w3.heap.size, 0, none⟩) 1 1] 30)) (some ⟨w3.heap.size, 0, none⟩) (cs [pd]) := fun i u hi => by
    have : i = 0 := by have := (List.getElem?_eq_some_iff.1 hi).1; simp [cs] at this; exact this
    subst this
    refine ⟨_, rfl, by simp; omega, fun h => h, ?_⟩
    rw [show (⟨w3.heap.size, 0, none⟩ : Addr).add 0 = ⟨w3.heap.size, 0, none⟩ from rfl, C1.cell]
    simpa [cs] using hi
  have C2cell0 := C2.cell 0
  have C2cell1 := C2.cell 1
  rw [World.size_alloc] at C2cell0 C2cell1
  have hCC := Lib.hid (concat_two l [pd] (by simp) (by simp; omega) (w3.heap.size + 1) 2 A (some ⟨w3.heap.size, 0, none⟩) c 1 _ (C2cell0) (C2cell1) (by simp) (A1.out.below b5) hlp)
  clear C1 C2 hlp C2cell0 C2cell1
  refine ⟨trivial, (callsIn_wide.2 hCC.out).mono ?_⟩
  rintro e w4 ⟨A4, c4, rfl, L4, b4⟩
  have b6 := b5.trans (b4.mono b5.size)
  have L4' := Lib.hid L4
  have B6 := Lib.hid b6
  have N4 := Lib.hid (N1.out.of (b6.block _ s1))
  have s4 : w.heap.size < w4.heap.size := Nat.lt_of_lt_of_le s1 b6.size
  have hs4 : w.heap.size < ((w3.alloc (.cells #[.string pd] 9)).alloc (.cells #[.slice A l.length c, .slice (some ⟨w3.heap.size, 0, none⟩) 1 1] 30)).heap.size := Nat.lt_of_lt_of_le s1 b5.size
  have L5 := Lib.hid (Lies.mono (T := fun b => b = w.heap.size) L4 (fun k _ h => by rw [h]; exact hs4))
  have B4 := Lib.hid (B1.out.trans (b6.mono B1.out.size))
  clear b3 b5 b4 b6 L4 L4' hCC hs4
  gi_wp2_with (refine ⟨trivial, ?_⟩; gi_at_call 29; refine (blocks_in _ _ _ _ _ _ rfl).mono ?_; rintro e w5 ⟨rfl, rfl⟩)
  have hsL : (w4.alloc (.cells #[.slice A4 (l.length + 1) c4] 30)).heap.size = w4.heap.size + 1 := by simp
  refine wpIn_rangeWhole rfl h1 (gf := 46) (lb := #[.pointer (some ⟨w4.heap.size, 0, none⟩)]) rfl trivial (enters_of Tryd.func46 (by kernel_rfl) rfl)
    (blocks_whole (n - 1) w4.heap.size w.heap.size (l ++ [pd]) A4 c4 (by simp; omega) hln _ (by rw [hsL]; omega) (by rw [List.length_append]; exact (Blk.new w4 _ _).cell 0) (L5.out.kept (Kept.alloc (Kept.refl _ w4) _)))
    (fun h k => h.trans k) (fun W l o o' _ h ho => Kc.put W l o o' h ho) (Below.refl _ _) (fun _ => rfl)
    (fun pre W => Blk W w.heap.size 51 (ru (fol pre)) ∧ Below w.heap.size w W)
    (fun s X Y row h hg hr => ⟨h.1.of (hg.block _ h.1.lt (fun e => by have := hr _ e.symm; rw [hsL] at this; omega)), h.2.grown hg h.2.size (fun k e => by have := hr k e; rw [hsL] at this; omega)⟩)
    ⟨N4.out.alloc _, B4.out.alloc B4.out.size _⟩
    (fun x a' W => ∃ Bx, Blk W Bx 58 (cb x).toArray ∧ a' = { tmps := #[.slice A l.length c, undef, .string ⟨#[]⟩, .pointer (some ⟨w.heap.size, 0, none⟩), .pointer (some ⟨Bx, 0, none⟩), .agg (ru h0), .slice A l.length c, .slice A l.length c, .int .i64 (len l : Int), .string pd, .slice (some ⟨w3.heap.size, 0, none⟩) 1 1, .slice (some ⟨w3.heap.size + 1, 0, none⟩) 2 2, .slice A4 (l.length + 1) c4, .func (.func 46) #[] #[.pointer (some ⟨w4.heap.size, 0, none⟩)], .agg (cb x).toArray, undef, undef, undef, undef, undef], defers := [] })
    (fun x a' X l o o' h hl ho hc => by
      obtain ⟨Bx, hb, e⟩ := h
      exact ⟨Bx, Kc.put (Nb := Bx + 1) X l o o' ho hc Bx _ _ _ (by omega) hb, e⟩) ?assign ?body ?done
  case assign =>
    rintro l2 pre x W K hx ⟨hN, hB⟩ hK
    have hsx := sz64b_of hx
    have hx64 : (cb x).toArray.size = 64 := by rw [List.size_toArray, cb_length, hx]
    have hone : (cb x).toArray.all (·.oneCell') = true := Array.all_eq_true_iff_forall_mem.2 (fun v hv => cb_one x v (by simpa using hv))
    have Hn := Lib.hid hN
    have Hb := Lib.hid hB
    clear hN hB
    gi_wp2_with (refine wpListIn_store_blk rfl 58 _ _ rfl W.heap.size (cb x).toArray rfl rfl 58 _ (Blk.new W _ _) hsx (by rw [hx64]; rfl) hone ?_)
    have key : Kept (fun _ => False) W ((W.alloc (.cells (Array.replicate 64 (.int .u8 0)) 58)).setRow W.heap.size (cb x).toArray) := Kept.setRow (Kept.alloc (Kept.refl _ W) _) (.inr (Nat.le_refl _)) _
    refine hK _ _ ⟨key.size, fun k o _ hk _ => (key.block k (Array.getElem?_eq_some_iff.1 hk).1 (fun h => h)).trans hk⟩ (fun k cs t fr _ hk => (key.block k (Array.getElem?_eq_some_iff.1 hk).1 (fun h => h)).trans hk)
      ⟨Hn.out.of (key.block _ Hn.out.lt (fun h => h)), Kept.below Hb.out key (fun _ h => h.elim) Hb.out.size⟩ ⟨W.heap.size, (Blk.new W 58 (Array.replicate 64 (.int .u8 0))).row (cb x).toArray, rfl⟩
  case body =>
    rintro l2 pre x a' W ⟨hN, hB⟩ ⟨Bx, hX, rfl⟩ hx
    have hsx := sz64b_of hx
    have Hn := Lib.hid hN
    have Hb := Lib.hid hB
    have Hx := Lib.hid hX
    have hT := Lib.hid (HT.out.next hB)
    clear hN hB hX
    gi_wp2_with (first | (refine wpListIn_load_blk rfl 51 _ rfl w.heap.size rfl 51 _ Hn.out Tryd.underlying51 rfl (sz8_of (fol_length pre)) ?_) | (refine wpListIn_load_blk rfl 58 _ rfl Bx rfl 58 _ Hx.out Tryd.underlying58 rfl hsx ?_))
    refine ⟨trivial, fun h => (by cases h), (CallsIn.inRound l2 (callsIn_wide.2 (process_any (fol pre) (fol_length pre) x hx W hT.out))).mono ?_⟩
    rintro e w5 ⟨rfl, b5⟩
    have n5 := Hn.out.of (b5.block _ Hn.out.lt)
    have k5 := Lib.hid ((Kept.of_below (S := fun b => b = w.heap.size) b5).setRow (.inl rfl) (ru (blk (fol pre) x)))
    have hsz : (ru (fol pre)).size = (ru (blk (fol pre) x)).size := by rw [ru_size, ru_size, fol_length, blk_length _ _ (fol_length pre)]
    have hs8 := sz8_of (blk_length (fol pre) x (fol_length pre))
    have n6 := Lib.hid (n5.row (ru (blk (fol pre) x)))
    have N5 := Lib.hid n5
    clear n5 b5
    gi_wp2_with (refine wpListIn_store_blk rfl 51 _ _ rfl w.heap.size (ru (blk (fol pre) x)) rfl rfl 51 _ N5.out hs8 hsz (ru_one _) ?_)
    exact ⟨⟨k5.out.size, fun k o hB hk _ => (k5.out.block k (Array.getElem?_eq_some_iff.1 hk).1 (fun e => by omega)).trans hk⟩, fun k _ _ _ hne hk => (k5.out.block k (Array.getElem?_eq_some_iff.1 hk).1 hne).trans hk,
      by rw [fol_snoc]; exact n6.out, Kept.below Hb.out k5.out (fun x hx => by omega) Hb.out.size⟩
  case done =>
    rintro D ys W hD rfl ⟨hN, hB⟩ hK
    have Hn := Lib.hid hN
    have Hb := Lib.hid hB
    have hK0 := Lib.hid hK
    clear hN hB hK
    gi_wp2_with fail
    have hlies : Lies (fun _ => False) W (some ⟨w.heap.size, 0, none⟩) (ru (fol (chunks (tx (l ++ [pd])).flatten))).toList := fun i u hi => by
      have hadd : (⟨w.heap.size, 0, none⟩ : Addr).add i = ⟨w.heap.size, i, none⟩ := by unfold Addr.add; split <;> simp_all
      exact ⟨_, rfl, Hn.out.lt, fun h => h, by rw [hadd, Hn.out.cell]; simpa using hi⟩
    have hBE := bigEndian_any (fol (chunks (tx (l ++ [pd])).flatten)) (by rw [fol_length]; omega) (some ⟨w.heap.size, 0, none⟩) 8 W hlies
    rw [fol_length] at hBE
    refine ⟨trivial, (callsIn_wide.2 hBE).mono ?_⟩
    rintro e w6 ⟨rfl, b6⟩
    have hK' : w6.heap[D]? = some (.deferred (some [])) := (b6.block D (Array.getElem?_eq_some_iff.1 hK0.out).1).trans hK0.out
    have B7 := Lib.hid (Hb.out.trans (b6.mono Hb.out.size))
    have hR : Sh.out (fol (chunks (tx (l ++ [pd])).flatten)) = dig (tx l).flatten := by rw [HFI.out, ← hfl.out]; exact fol_sum _
    rw [hR]
    clear hBE hlies b6 hR
    gi_wp2_with fail
    refine ⟨by simp, .inl ⟨_, _, rfl, run_takeDeferred hK', ?_⟩⟩
    exact ⟨.string (ba (dig (tx l).flatten)), by simp [results, Tryd.f16, go_sem], rfl, B7.out.trans (belowK_b (w := w) (Nat.le_refl _) w6 D _ _ (by simp at hD; omega) hK' rfl rfl)⟩

/-- THE DIGEST OF ALL PARTS. -/
theorem sum_any (l : List ByteArray) (hl : l.length ≤ 1000) (hs : len l ≤ 100000) (A : Option Addr) (c : Nat) (w : World) (hA : Lies (fun _ => False) w A (cs l)) (hT : Tab w) :
    Calls Tryd.prog 16 #[.slice A l.length c] w fun e w' => e = .returned (.string (ba (dig (tx l).flatten))) ∧ Below w.heap.size w w' :=
  (callsIn_wide (n := 3)).1 (sum_wide 3 (Nat.le_refl _) l hl hs A c w hA hT)
end Go.Proofs.YthaejfbbefpojaaDoor
