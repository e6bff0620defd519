/-
  A slice of steps of law 11 that came in, as a list: each step's seventeen cells. No condition.
-/
import Derived.Test.YtfjdcopndkdbmaaGreatDoorVtW
namespace Go.Proofs.YtfjdcopndkdbmaaGreatDoor
open Go.RowKit

structure Opx where
  kind : Int
  ticks : Int
  n0 : Int
  n1 : Int
  n2 : Int
  n3 : Int
  raw : Bool
  s : Va.Sec
  aa : Int
  ap : Int
  ac : ByteArray
  al : ByteArray
/-- One step, as cells of its element. -/
structure OpxAt (W : World) (p : Addr) (o : Opx) : Prop where
  lt : p.block < W.heap.size
  c0 : W.cell? p = some (.int .i64 o.kind)
  c1 : W.cell? ⟨p.block, p.off + 1, none⟩ = some (.int .i64 o.ticks)
  c2 : W.cell? ⟨p.block, p.off + 2, none⟩ = some (.int .i64 o.n0)
  c3 : W.cell? ⟨p.block, p.off + 3, none⟩ = some (.int .i64 o.n1)
  c4 : W.cell? ⟨p.block, p.off + 4, none⟩ = some (.int .i64 o.n2)
  c5 : W.cell? ⟨p.block, p.off + 5, none⟩ = some (.int .i64 o.n3)
  c6 : W.cell? ⟨p.block, p.off + 6, none⟩ = some (.bool o.raw)
  c7 : W.cell? ⟨p.block, p.off + 7, none⟩ = some (.string o.s.digest)
  c8 : W.cell? ⟨p.block, p.off + 8, none⟩ = some (.int .i64 o.s.account)
  c9 : W.cell? ⟨p.block, p.off + 9, none⟩ = some (.int .i64 o.s.purpose)
  c10 : W.cell? ⟨p.block, p.off + 10, none⟩ = some (.string o.s.channel)
  c11 : W.cell? ⟨p.block, p.off + 11, none⟩ = some (.int .i64 o.s.expires)
  c12 : W.cell? ⟨p.block, p.off + 12, none⟩ = some (.int .i64 o.s.tries)
  c13 : W.cell? ⟨p.block, p.off + 13, none⟩ = some (.int .i64 o.aa)
  c14 : W.cell? ⟨p.block, p.off + 14, none⟩ = some (.int .i64 o.ap)
  c15 : W.cell? ⟨p.block, p.off + 15, none⟩ = some (.string o.ac)
  c16 : W.cell? ⟨p.block, p.off + 16, none⟩ = some (.string o.al)
set_option maxRecDepth 100000 in
theorem OpxAt.below {W w : World} {p : Addr} {o : Opx} (h : OpxAt W p o) (hb : Below W.heap.size W w) : OpxAt w p o :=
  ⟨Nat.lt_of_lt_of_le h.lt hb.size, (hb.cell (p := p) h.lt).trans h.c0, (hb.cell (p := ⟨p.block, p.off + 1, none⟩) h.lt).trans h.c1, (hb.cell (p := ⟨p.block, p.off + 2, none⟩) h.lt).trans h.c2, (hb.cell (p := ⟨p.block, p.off + 3, none⟩) h.lt).trans h.c3, (hb.cell (p := ⟨p.block, p.off + 4, none⟩) h.lt).trans h.c4, (hb.cell (p := ⟨p.block, p.off + 5, none⟩) h.lt).trans h.c5, (hb.cell (p := ⟨p.block, p.off + 6, none⟩) h.lt).trans h.c6, (hb.cell (p := ⟨p.block, p.off + 7, none⟩) h.lt).trans h.c7, (hb.cell (p := ⟨p.block, p.off + 8, none⟩) h.lt).trans h.c8, (hb.cell (p := ⟨p.block, p.off + 9, none⟩) h.lt).trans h.c9, (hb.cell (p := ⟨p.block, p.off + 10, none⟩) h.lt).trans h.c10, (hb.cell (p := ⟨p.block, p.off + 11, none⟩) h.lt).trans h.c11, (hb.cell (p := ⟨p.block, p.off + 12, none⟩) h.lt).trans h.c12, (hb.cell (p := ⟨p.block, p.off + 13, none⟩) h.lt).trans h.c13, (hb.cell (p := ⟨p.block, p.off + 14, none⟩) h.lt).trans h.c14, (hb.cell (p := ⟨p.block, p.off + 15, none⟩) h.lt).trans h.c15, (hb.cell (p := ⟨p.block, p.off + 16, none⟩) h.lt).trans h.c16⟩
/-- What is known of a step that came in. -/
structure OpxOk (o : Opx) : Prop where
  dig : o.s.digest.size ≤ maxLen
  ch : o.s.channel.size ≤ maxLen
  ac : o.ac.size ≤ maxLen
  al : o.al.size ≤ maxLen
  tr : -9223372036854775808 ≤ o.s.tries ∧ o.s.tries ≤ 9223372036854775807
  tk : -9223372036854775808 ≤ o.ticks ∧ o.ticks ≤ 9223372036854775807
theorem cells_op : Tryz.prog.cellsOf 39 = 17 := by kernel_rfl
theorem cells_s : Tryz.prog.cellsOf 9 = 1 := by kernel_rfl
theorem cells_b : Tryz.prog.cellsOf 4 = 1 := by kernel_rfl
theorem cells_n : Tryz.prog.cellsOf 35 = 4 := by kernel_rfl
theorem cells_sec : Tryz.prog.cellsOf 26 = 6 := by kernel_rfl
theorem cells_att : Tryz.prog.cellsOf 37 = 4 := by kernel_rfl
theorem cells_i64 : Tryz.prog.cellsOf 2 = 1 := by kernel_rfl
set_option maxRecDepth 100000 in
set_option maxHeartbeats 2000000 in
theorem open_ops {H : Type} {enc : TypeId × Value → H} {W : World} {base r0 : Nat} {held : Bool} {r : Reach} {v : Value} {d : DataW H} {ps : List MemPlace}
    (hv : Value.okWide Tryz.prog W r r0 23 v) (h : DataW.Trod enc Tryz.prog W base (fun _ => true) held 23 v d ps) :
    ∃ (A : Option Addr) (c : Nat) (l : List Opx), v = .slice A l.length c ∧ l.length ≤ maxLen ∧ ∀ i (hi : i < l.length), OpxOk l[i] ∧ ∃ a, A = some a ∧ OpxAt W (a.add (i * 17)) l[i] := by
  obtain ⟨A, n, c, rfl, hn, hel⟩ := open_rows Tryz.underlying23 cells_op (by omega) hv h
  have key : ∀ i, i < n → ∃ o : Opx, OpxOk o ∧ ∃ a, A = some a ∧ OpxAt W (a.add (i * 17)) o := fun i hi => by
    obtain ⟨a, cs, fuel, x, hA, hb, hl, hc, htr⟩ := hel i hi
    obtain ⟨xs, m, _, _, _, hxl, hf⟩ := DataW.trod_struct Tryz.underlying39 htr
    match cs, hl, xs, hxl with
    | [c0, c1, c2, c3, c4, c5, c6, c7, c8, c9, c10, c11, c12, c13, c14, c15, c16], _, [x0, x1, x2, x3, x4, x5], _ =>
    obtain ⟨kd, e0, _, _⟩ := DataW.trod_int Tryz.underlying3 (hf 0 _ rfl)
    obtain ⟨tk, e1, _, w1⟩ := DataW.trod_int Tryz.underlying3 (hf 1 _ rfl)
    have f0 : c0 = .int .i64 kd := by have := congrArg List.head? e0; simpa [cells_i] using this
    have f1 : c1 = .int .i64 tk := by have := congrArg List.head? e1; simpa [cells_i] using this
    have hN := hf 2 _ rfl
    obtain ⟨ys, my, _, _, _, hyl, hy⟩ := DataW.trod_array Tryz.underlying35 hN
    obtain ⟨rb, e6, _⟩ := DataW.trod_bool Tryz.underlying4 (hf 3 _ rfl)
    have f6 : c6 = .bool rb := by have := congrArg List.head? e6; simpa [cells_b] using this
    obtain ⟨us, mu, _, _, _, hul, hu⟩ := DataW.trod_struct Tryz.underlying26 (hf 4 _ rfl)
    obtain ⟨ts, mt, _, _, _, htl, ht⟩ := DataW.trod_struct Tryz.underlying37 (hf 5 _ rfl)
    match ys, hyl, us, hul, ts, htl with
    | [y0, y1, y2, y3], _, [u0, u1, u2, u3, u4, u5], _, [t0, t1, t2, t3], _ =>
    obtain ⟨n0, en0, _, _⟩ := DataW.trod_int Tryz.underlying3 (hy 0 (by omega))
    have fn0 : c2 = .int .i64 n0 := by have := congrArg List.head? en0; simpa [cells_i, cells_n] using this
    obtain ⟨n1, en1, _, _⟩ := DataW.trod_int Tryz.underlying3 (hy 1 (by omega))
    have fn1 : c3 = .int .i64 n1 := by have := congrArg List.head? en1; simpa [cells_i, cells_n] using this
    obtain ⟨n2, en2, _, _⟩ := DataW.trod_int Tryz.underlying3 (hy 2 (by omega))
    have fn2 : c4 = .int .i64 n2 := by have := congrArg List.head? en2; simpa [cells_i, cells_n] using this
    obtain ⟨n3, en3, _, _⟩ := DataW.trod_int Tryz.underlying3 (hy 3 (by omega))
    have fn3 : c5 = .int .i64 n3 := by have := congrArg List.head? en3; simpa [cells_i, cells_n] using this
    obtain ⟨s0, es0, _, ws0⟩ := DataW.trod_string Tryz.underlying9 (hu 0 _ rfl)
    have fs0 : c7 = .string s0 := by have := congrArg List.head? es0; simpa [cells_s, cells_sec] using this
    obtain ⟨s1, es1, _, ws1⟩ := DataW.trod_int Tryz.underlying3 (hu 1 _ rfl)
    have fs1 : c8 = .int .i64 s1 := by have := congrArg List.head? es1; simpa [cells_i, cells_sec] using this
    obtain ⟨s2, es2, _, ws2⟩ := DataW.trod_int Tryz.underlying3 (hu 2 _ rfl)
    have fs2 : c9 = .int .i64 s2 := by have := congrArg List.head? es2; simpa [cells_i, cells_sec] using this
    obtain ⟨s3, es3, _, ws3⟩ := DataW.trod_string Tryz.underlying9 (hu 3 _ rfl)
    have fs3 : c10 = .string s3 := by have := congrArg List.head? es3; simpa [cells_s, cells_sec] using this
    obtain ⟨s4, es4, _, ws4⟩ := DataW.trod_int Tryz.underlying2 (hu 4 _ rfl)
    have fs4 : c11 = .int .i64 s4 := by have := congrArg List.head? es4; simpa [cells_i64, cells_sec] using this
    obtain ⟨s5, es5, _, ws5⟩ := DataW.trod_int Tryz.underlying3 (hu 5 _ rfl)
    have fs5 : c12 = .int .i64 s5 := by have := congrArg List.head? es5; simpa [cells_i, cells_sec] using this
    obtain ⟨a0, ea0, _, wa0⟩ := DataW.trod_int Tryz.underlying3 (ht 0 _ rfl)
    have fa0 : c13 = .int .i64 a0 := by have := congrArg List.head? ea0; simpa [cells_i, cells_att] using this
    obtain ⟨a1, ea1, _, wa1⟩ := DataW.trod_int Tryz.underlying3 (ht 1 _ rfl)
    have fa1 : c14 = .int .i64 a1 := by have := congrArg List.head? ea1; simpa [cells_i, cells_att] using this
    obtain ⟨a2, ea2, _, wa2⟩ := DataW.trod_string Tryz.underlying9 (ht 2 _ rfl)
    have fa2 : c15 = .string a2 := by have := congrArg List.head? ea2; simpa [cells_s, cells_att] using this
    obtain ⟨a3, ea3, _, wa3⟩ := DataW.trod_string Tryz.underlying9 (ht 3 _ rfl)
    have fa3 : c16 = .string a3 := by have := congrArg List.head? ea3; simpa [cells_s, cells_att] using this
    subst f0 f1 f6 fn0 fn1 fn2 fn3 fs0 fs1 fs2 fs3 fs4 fs5 fa0 fa1 fa2 fa3
    exact ⟨⟨kd, tk, n0, n1, n2, n3, rb, ⟨s0, s1, s2, s3, s4, s5⟩, a0, a1, a2, a3⟩, ⟨ws0, ws3, wa2, wa3, bounds_int ws5, bounds_int w1⟩, a, hA, ⟨by rw [add_block]; exact hb, hc 0 (by omega), hc 1 (by omega), hc 2 (by omega), hc 3 (by omega), hc 4 (by omega), hc 5 (by omega), hc 6 (by omega), hc 7 (by omega), hc 8 (by omega), hc 9 (by omega), hc 10 (by omega), hc 11 (by omega), hc 12 (by omega), hc 13 (by omega), hc 14 (by omega), hc 15 (by omega), hc 16 (by omega)⟩⟩
  obtain ⟨l, hl, hk⟩ := exists_list key
  subst hl
  exact ⟨A, c, l, rfl, hn, fun i hi => hk i hi⟩
end Go.Proofs.YtfjdcopndkdbmaaGreatDoor
