/-
  Law 12's tells: what both packages tell of one row is the same. And how its arguments are opened. Condition: rows that may be, of at most 24 buckets; times of at most 1000000000000.
-/
import Derived.Test.YtbldonkfboahmaaBcY
import Derived.Test.YtbldonkfboahmaaTkT
namespace Go.Proofs.Ytbldonkfboahmaa
open Go.RowKit

set_option maxRecDepth 100000 in
set_option maxHeartbeats 4000000 in
theorem tells_any {S : Nat → Prop} (A : Option Addr) (cp : Nat) (L : List Bb) (hcp : L.length ≤ cp) (h : Gd L) (k : ByteArray) (now : Nat) (hn : now ≤ 1000000000000) (w : World) (hA : Lies S w A (bus (M L))) :
    Calls Try.prog 13 #[.slice A L.length cp, .string k, .int .i64 (now : Int)] w fun e w' => e = .returned (.bool true) ∧ Below w.heap.size w w' := by
  have hgt := gd_take h k now hn
  have hgs := gd_sweep h now
  have hlt1 := hgt.len
  have hls1 := hgs.len
  have H1 := Lib.hid (Take_any A cp L hcp h k now hn w hA)
  have H2 := Lib.hid (fun W hW => RTake_any A cp L hcp h k now hn W (hA.below (w' := W) hW))
  have H3 := Lib.hid (fun W hW => Sweep_any A cp L hcp h.vl now (by omega) W (hA.below (w' := W) hW))
  have H4 := Lib.hid (fun W hW => RSweep_any A cp L h.vl now (by omega) W (hA.below (w' := W) hW))
  have H5 := Lib.hid (fun W hW => Left_any A cp L h.vl k now (by omega) W (hA.below (w' := W) hW))
  have H6 := Lib.hid (fun W hW => RLeft_any A cp L h.vl k now (by omega) W (hA.below (w' := W) hW))
  have H7 := Lib.hid (fun W hW => Wait_any A cp L h.vl k now (by omega) W (hA.below (w' := W) hW))
  have H8 := Lib.hid (fun W hW => RWait_any A cp L h.vl k now (by omega) W (hA.below (w' := W) hW))
  have hm1 := M_length (takeB L k now).1
  have hm2 := M_length (Bk.sweep L now)
  generalize takeB L k now = T at H1 H2 hm1 hlt1
  generalize Bk.sweep L now = SW at H3 H4 hm2 hls1
  generalize Bk.left L k now = lf at H5 H6
  generalize Bk.wait L k now = wt at H7 H8
  obtain ⟨TL, tc⟩ := T
  simp only at H1 H2 hm1 hlt1
  have HSA := Lib.hid (fun v u W hv hu => Same_rows (S := fun _ => False) (T := fun _ => False) (M TL) (by omega) v u W hv hu)
  have HSB := Lib.hid (fun v u W hv hu => Same_rows (S := fun _ => False) (T := fun _ => False) (M SW) (by omega) v u W hv hu)
  clear hgt hgs hlt1 hls1 hm1 hm2 hA
  go_enter Try.func13, Try.ntmps13
  go_wp2_with fail
  refine H1.out.mono ?_
  rintro e w1 ⟨⟨v1, rfl, hr1⟩, hb1⟩
  have HB1 := Lib.hid hb1
  have HR1 := Lib.hid hr1
  have HX := Lib.hid (H2.out w1 hb1)
  clear hb1 hr1
  go_wp2_with fail
  refine HX.out.mono ?_
  rintro e w2 ⟨⟨v2, rfl, hr2⟩, hb2⟩
  have HB2 := Lib.hid (HB1.out.trans (hb2.mono HB1.out.size))
  have HY := Lib.hid (HSA.out v1 v2 w2 (HR1.out.below hb2) hr2)
  clear hb2 hr2 HX HR1 HB1
  go_wp2_with fail
  refine HY.out.mono ?_
  rintro e w3 ⟨rfl, hb3⟩
  have HB3 := Lib.hid (HB2.out.trans (hb3.mono HB2.out.size))
  have HX := Lib.hid (H3.out w3 HB3.out)
  clear hb3 HY HB2
  go_wp2_with fail
  refine HX.out.mono ?_
  rintro e w4 ⟨⟨v4, rfl, hr4⟩, hb4⟩
  have HB4 := Lib.hid (HB3.out.trans (hb4.mono HB3.out.size))
  have HR4 := Lib.hid (hr4.weaker (T := fun _ => False) (fun b h => h.elim))
  have HY := Lib.hid (H4.out w4 HB4.out)
  clear hb4 hr4 HX HB3
  go_wp2_with fail
  refine HY.out.mono ?_
  rintro e w5 ⟨⟨v5, rfl, hr5⟩, hb5⟩
  have HB5 := Lib.hid (HB4.out.trans (hb5.mono HB4.out.size))
  have HX := Lib.hid (HSB.out v4 v5 w5 (HR4.out.below hb5) (hr5.weaker (T := fun _ => False) (fun b h => h.elim)))
  clear hb5 hr5 HY HB4 HR4
  go_wp2_with fail
  refine HX.out.mono ?_
  rintro e w6 ⟨rfl, hb6⟩
  have HB6 := Lib.hid (HB5.out.trans (hb6.mono HB5.out.size))
  have HY := Lib.hid (H5.out w6 HB6.out)
  clear hb6 HX HB5
  go_wp2_with fail
  refine HY.out.mono ?_
  rintro e w7 ⟨rfl, hb7⟩
  have HB7 := Lib.hid (HB6.out.trans (hb7.mono HB6.out.size))
  have HX := Lib.hid (H6.out w7 HB7.out)
  clear hb7 HY HB6
  go_wp2_with fail
  refine HX.out.mono ?_
  rintro e w8 ⟨rfl, hb8⟩
  have HB8 := Lib.hid (HB7.out.trans (hb8.mono HB7.out.size))
  have HY := Lib.hid (H7.out w8 HB8.out)
  clear hb8 HX HB7
  go_wp2_with fail
  refine HY.out.mono ?_
  rintro e w9 ⟨rfl, hb9⟩
  have HB9 := Lib.hid (HB8.out.trans (hb9.mono HB8.out.size))
  have HX := Lib.hid (H8.out w9 HB9.out)
  clear hb9 HY HB8
  go_wp2_with fail
  refine HX.out.mono ?_
  rintro e w10 ⟨rfl, hb10⟩
  have HB10 := Lib.hid (HB9.out.trans (hb10.mono HB9.out.size))
  clear hb10 HX HB9
  go_wp2_with fail
  go_ret
  exact ⟨rfl, HB10.out⟩

theorem info_two : ∃ i, Try.prog.info? 44 = some i ∧ i.zero = some (.agg #[.int .i64 0, .int .i64 0]) ∧ i.size = 2 ∧ i.bytes = 16 := info_parts (by kernel_rfl)
theorem run_pairs_to (A : Option Addr) (n cp i : Nat) (hi : i ≤ n) (hn : n ≤ cp) (W : World) : (Instr.slice 22 (.slice A n cp) none (some (.int .i64 (i : Int))) none).run Try.prog W = .ok (.slice A i cp) W := by
  obtain ⟨t, hq, _, _, _⟩ := info_two
  have h1 : i ≤ cp := Nat.le_trans hi hn
  cases A <;> simp [Instr.slice, Instr.sliceBounds, Instr.sliceBound, asIntOf, run_underlying Try.underlying22, sizeOf, typeInfo, hq, h1, add_zero_]
/-- The rows of law 12, of few pairs. -/
theorem rows_few (A : Option Addr) (cp : Nat) (l : List (Int × Int)) (hl : l.length ≤ 24) (w : World) (hA : Prs w A l) :
    Calls Try.prog 11 #[.slice A l.length cp] w fun e w' => (∃ A' c', e = .returned (.slice A' (rowsK l l.length).length c') ∧ (rowsK l l.length).length ≤ c' ∧ Lies (fun _ => False) w' A' (bus (M (rowsK l l.length)))) ∧ Below w.heap.size w w' := by
  refine (rows_any A cp l w hA).mono ?_
  rintro e w' ⟨⟨v, rfl, hr⟩, hb⟩
  unfold rowsL at hr
  rw [show min l.length 26 = l.length by omega] at hr
  obtain ⟨A', c', rfl, hc, hL⟩ := hr
  rw [M_length] at hc ⊢
  exact ⟨⟨A', c', rfl, hc, hL⟩, hb⟩

/-! ### Arguments -/
section
open Go.ChangeShapes Go.WideShapes Go.ChangeAt
theorem cells_two : Try.prog.cellsOf 44 = 2 := by kernel_rfl
theorem cells_bu : Try.prog.cellsOf 54 = 3 := by kernel_rfl
theorem cells_i : Try.prog.cellsOf 3 = 1 := by kernel_rfl
theorem cells_i64 : Try.prog.cellsOf 2 = 1 := by kernel_rfl
theorem cells_s : Try.prog.cellsOf 9 = 1 := by kernel_rfl
theorem cells_op : Try.prog.cellsOf 35 = 2 := by kernel_rfl
set_option maxRecDepth 100000 in
set_option maxHeartbeats 2000000 in
theorem open_pairs {H : Type} {enc : TypeId × Value → H} {W : World} {base r0 : Nat} {held : Bool} {r : Reach} {v : Value} {d : DataW H} {ps : List MemPlace}
    (hv : Value.okWide Try.prog W r r0 22 v) (h : DataW.Trod enc Try.prog W base (fun _ => true) held 22 v d ps) :
    ∃ (A : Option Addr) (c : Nat) (l : List (Int × Int)), v = .slice A l.length c ∧ l.length ≤ maxLen ∧ Prs W A l := by
  obtain ⟨A, n, c, rfl, hn, hel⟩ := open_rows Try.underlying22 cells_two (by omega) hv h
  have key : ∀ i, i < n → ∃ x : Int × Int, ∃ a, A = some a ∧ PrAt W (a.add (i * 2)) x := fun i hi => by
    obtain ⟨a, cs, fuel, x, hA, hb, hl, hc, htr⟩ := hel i hi
    obtain ⟨us, mu, _, _, _, hul, hu⟩ := DataW.trod_array Try.underlying44 htr
    match cs, hl, us, hul with
    | [c0, c1], _, [u0, u1], _ =>
    obtain ⟨s0, es0, _, _⟩ := DataW.trod_int Try.underlying3 (hu 0 (by decide))
    have fs0 : c0 = .int .i64 s0 := by have := congrArg List.head? es0; simpa [cells_i, cells_two] using this
    obtain ⟨s1, es1, _, _⟩ := DataW.trod_int Try.underlying3 (hu 1 (by decide))
    have fs1 : c1 = .int .i64 s1 := by have := congrArg List.head? es1; simpa [cells_i, cells_two] using this
    subst fs0 fs1
    exact ⟨(s0, s1), a, hA, ⟨hc 0 (by omega), hc 1 (by omega), by rw [add_block]; exact hb⟩⟩
  obtain ⟨l, hl, hk⟩ := exists_list key
  subst hl
  exact ⟨A, c, l, rfl, hn, fun i hi => hk i hi⟩
set_option maxRecDepth 100000 in
set_option maxHeartbeats 2000000 in
theorem open_ops {H : Type} {enc : TypeId × Value → H} {W : World} {base r0 : Nat} {held : Bool} {r : Reach} {v : Value} {d : DataW H} {ps : List MemPlace}
    (hv : Value.okWide Try.prog W r r0 33 v) (h : DataW.Trod enc Try.prog W base (fun _ => true) held 33 v d ps) :
    ∃ (A : Option Addr) (c : Nat) (l : List (Int × Int)), v = .slice A l.length c ∧ l.length ≤ maxLen ∧ Prs W A l := by
  obtain ⟨A, n, c, rfl, hn, hel⟩ := open_rows Try.underlying33 cells_op (by omega) hv h
  have key : ∀ i, i < n → ∃ x : Int × Int, ∃ a, A = some a ∧ PrAt W (a.add (i * 2)) x := fun i hi => by
    obtain ⟨a, cs, fuel, x, hA, hb, hl, hc, htr⟩ := hel i hi
    obtain ⟨us, mu, _, _, _, hul, hu⟩ := DataW.trod_struct Try.underlying35 htr
    match cs, hl, us, hul with
    | [c0, c1], _, [u0, u1], _ =>
    obtain ⟨s0, es0, _, _⟩ := DataW.trod_int Try.underlying3 (hu 0 _ rfl)
    have fs0 : c0 = .int .i64 s0 := by have := congrArg List.head? es0; simpa [cells_i, cells_op] using this
    obtain ⟨s1, es1, _, _⟩ := DataW.trod_int Try.underlying3 (hu 1 _ rfl)
    have fs1 : c1 = .int .i64 s1 := by have := congrArg List.head? es1; simpa [cells_i, cells_op] using this
    subst fs0 fs1
    exact ⟨(s0, s1), a, hA, ⟨hc 0 (by omega), hc 1 (by omega), by rw [add_block]; exact hb⟩⟩
  obtain ⟨l, hl, hk⟩ := exists_list key
  subst hl
  exact ⟨A, c, l, rfl, hn, fun i hi => hk i hi⟩
set_option maxRecDepth 100000 in
set_option maxHeartbeats 2000000 in
theorem open_bus {H : Type} {enc : TypeId × Value → H} {W : World} {base r0 : Nat} {held : Bool} {r : Reach} {v : Value} {d : DataW H} {ps : List MemPlace}
    (hv : Value.okWide Try.prog W r r0 23 v) (h : DataW.Trod enc Try.prog W base (fun _ => true) held 23 v d ps) :
    ∃ (A : Option Addr) (c : Nat) (l : List Bu), v = .slice A l.length c ∧ l.length ≤ maxLen ∧ Lies (fun _ => False) W A (bus l) := by
  obtain ⟨A, n, c, rfl, hn, hel⟩ := open_rows Try.underlying23 cells_bu (by omega) hv h
  have key : ∀ i, i < n → ∃ s : Bu, ∃ a, A = some a ∧ a.block < W.heap.size ∧ ∀ j, j < 3 → W.cell? (a.add (i * 3 + j)) = (buC s)[j]? := fun i hi => by
    obtain ⟨a, cs, fuel, x, hA, hb, hl, hc, htr⟩ := hel i hi
    obtain ⟨us, mu, _, _, _, hul, hu⟩ := DataW.trod_struct Try.underlying54 htr
    match cs, hl, us, hul with
    | [c0, c1, c2], _, [u0, u1, u2], _ =>
    obtain ⟨s0, es0, _, _⟩ := DataW.trod_string Try.underlying9 (hu 0 _ rfl)
    have fs0 : c0 = .string s0 := by have := congrArg List.head? es0; simpa [cells_s, cells_bu] using this
    obtain ⟨s1, es1, _, _⟩ := DataW.trod_int Try.underlying3 (hu 1 _ rfl)
    have fs1 : c1 = .int .i64 s1 := by have := congrArg List.head? es1; simpa [cells_i, cells_s, cells_bu] using this
    obtain ⟨s2, es2, _, _⟩ := DataW.trod_int Try.underlying2 (hu 2 _ rfl)
    have fs2 : c2 = .int .i64 s2 := by have := congrArg List.head? es2; simpa [cells_i64, cells_i, cells_s, cells_bu] using this
    subst fs0 fs1 fs2
    refine ⟨⟨s0, s1, s2⟩, a, hA, hb, fun j hj => ?_⟩
    refine Eq.trans ?_ (hc j hj)
    rcases Nat.eq_zero_or_pos j with h0 | h0
    · subst h0; rfl
    · rw [add_add _ _ _ h0]
      generalize a.add (i * 3) = p
      unfold Addr.add
      rw [if_neg (by omega)]
  obtain ⟨l, hl, hk⟩ := exists_list key
  subst hl
  refine ⟨A, c, l, rfl, hn, fun j u hj => ?_⟩
  have hjl := (List.getElem?_eq_some_iff.1 hj).1
  rw [bus_length] at hjl
  have hi : j / 3 < l.length := by omega
  obtain ⟨a, e, hb, hc⟩ := hk (j / 3) hi
  refine ⟨a, e, hb, fun h => h, ?_⟩
  have h1 := hc (j % 3) (by omega)
  have h2 := bus_get l (j / 3) (j % 3) hi (by omega)
  rw [show j / 3 * 3 + j % 3 = j by omega] at h1 h2
  rw [h1, ← h2, hj]
end
end Go.Proofs.Ytbldonkfboahmaa
