/-
  Proves the statement of HalvesSafe: for every row of tries the law returns true (nothing that was done is lost: behind each crash Open finds the last snapshot and all records appended since, and perhaps what was under way, as a whole), and its argument reads as it did. Condition: the package-level table halfBytes holds what its text lays.
-/
import Derived.Test.YtggecdgomgmhmaaDoorHalQ
import Derived.Test.YtggecdgomgmhmaaDoorApp
import Derived.Test.YtggecdgomgmhmaaDoorCrcTable
import Derived.Test.YtggecdgomgmhmaaDoorCards
import Derived.Test.YtggecdgomgmhmaaDoorTie
namespace Go.Proofs.YtggecdgomgmhmaaDoor.halvesSafe
open Go.ChangeShapes Go.WideShapes Go.ChangeAt Go.RowKit
open Go.ChangeMaps (open_string shut_string)

def OpAt (W : World) (p : Addr) (kd nn : Int) (s : ByteArray) : Prop :=
  W.cell? p = some (.int .i64 kd) ∧ W.cell? ⟨p.block, p.off + 1, none⟩ = some (.int .i64 nn) ∧ W.cell? ⟨p.block, p.off + 2, none⟩ = some (.string s)
theorem cellsOp : Tryd.prog.cellsOf 32 = 3 := by kernel_rfl
set_option maxRecDepth 100000 in
theorem open_ops {H : Type} {enc : TypeId × Value → H} {W : World} {base r0 : Nat} {held : Bool} {r : Reach} {v : Value} {d : DataW H} {ps : List MemPlace}
    (hv : Value.okWide Tryd.prog W r r0 22 v) (h : DataW.Trod enc Tryd.prog W base (fun _ => true) held 22 v d ps) :
    ∃ (A : Option Addr) (n c : Nat), v = .slice A n c ∧ n ≤ maxLen ∧ ∀ i, i < n → ∃ a kd nn s, A = some a ∧ a.block < W.heap.size ∧ OpAt W (a.add (i * 3)) kd nn s ∧ s.size ≤ maxLen := by
  obtain ⟨A, n, c, rfl, hn, hel⟩ := open_rows Tryd.underlying22 cellsOp (by omega) hv h
  refine ⟨A, n, c, rfl, hn, fun i hi => ?_⟩
  obtain ⟨a, cs, fuel, x, hA, hb, hl, hc, htr⟩ := hel i hi
  obtain ⟨xs, m, _, _, _, hxl, hf⟩ := DataW.trod_struct Tryd.underlying32 htr
  match cs, hl, xs, hxl with
  | [c0, c1, c2], _, [x0, x1, x2], _ =>
    obtain ⟨kd, e0, _, _⟩ := DataW.trod_int Tryd.underlying3 (hf 0 _ rfl)
    obtain ⟨nn, e1, _, _⟩ := DataW.trod_int Tryd.underlying3 (hf 1 _ rfl)
    obtain ⟨s, e2, _, w2⟩ := DataW.trod_string Tryd.underlying9 (hf 2 _ rfl)
    have f0 : c0 = .int .i64 kd := by have := congrArg List.head? e0; simpa [cellsInt] using this
    have f1 : c1 = .int .i64 nn := by have := congrArg List.head? e1; simpa [cellsInt] using this
    have f2 : c2 = .string s := by have := congrArg List.head? e2; simpa [cellsStr] using this
    subst f0 f1 f2
    exact ⟨a, kd, nn, s, hA, hb, ⟨hc 0 (by omega), hc 1 (by omega), hc 2 (by omega)⟩, w2⟩
theorem OpAt.below {W w : World} {B : Nat} {p : Addr} {kd nn : Int} {s : ByteArray} (h : OpAt W p kd nn s) (hb : Below B W w) (hp : p.block < B) : OpAt w p kd nn s := by
  obtain ⟨h0, h1, h2⟩ := h
  exact ⟨(hb.cell hp).trans h0, (hb.cell (p := ⟨p.block, p.off + 1, none⟩) hp).trans h1, (hb.cell (p := ⟨p.block, p.off + 2, none⟩) hp).trans h2⟩
theorem and_in (x y : Int) : -9223372036854775808 ≤ bits .and .i64 x y ∧ bits .and .i64 x y ≤ 9223372036854775807 := by
  have key : ∀ m : Nat, -9223372036854775808 ≤ IntKind.i64.wrap (m : Int) ∧ IntKind.i64.wrap (m : Int) ≤ 9223372036854775807 := fun m => by rw [IntKind.wrap_i64]; omega
  exact key _
set_option maxRecDepth 100000 in
theorem same_found (w : World) (e : Nat) (S : ByteArray) (A1 A2 : Option Addr) (n c1 c2 : Nat) (l : List ByteArray) (hn : l.length = n) (hl : n ≤ 1000000) (h1 : Lies (fun _ => False) w A1 (cs l)) (h2 : Lies (fun _ => False) w A2 (cs l)) :
    Calls Tryd.prog 17 #[.agg #[.int .u64 (e : Int), .string S, .slice A1 n c1], .agg #[.int .u64 (e : Int), .string S, .slice A2 n c2]] w fun x w' => x = .returned (.bool true) ∧ Below w.heap.size w w' := by
  have k1 := (Blk.new w 39 #[.int .u64 (e : Int), .string S, .slice A1 n c1]).alloc (.cells #[.int .u64 (e : Int), .string S, .slice A2 n c2] 39)
  have k2 := Blk.new (w.alloc (.cells #[.int .u64 (e : Int), .string S, .slice A1 n c1] 39)) 39 #[.int .u64 (e : Int), .string S, .slice A2 n c2]
  have hb : Below w.heap.size w ((w.alloc (.cells #[.int .u64 (e : Int), .string S, .slice A1 n c1] 39)).alloc (.cells #[.int .u64 (e : Int), .string S, .slice A2 n c2] 39)) := ((Below.refl _ w).alloc (Nat.le_refl _) _).alloc (by simp) _
  have hq : (w.alloc (.cells #[.int .u64 (e : Int), .string S, .slice A1 n c1] 39)).heap.size = w.heap.size + 1 := by simp
  rw [hq] at k2
  have h1' := h1.below hb
  have h2' := h2.below hb
  have HK1 := Lib.hid k1
  have HK2 := Lib.hid k2
  have HB := Lib.hid hb
  have HH := Lib.hid (And.intro h1' h2')
  clear k1 k2 hb h1 h2 h1' h2' hq
  subst hn
  go_enter Tryd.func17, Tryd.ntmps17
  go_wp2_with fail
  generalize (w.alloc (.cells #[.int .u64 (e : Int), .string S, .slice A1 l.length c1] 39)).alloc (.cells #[.int .u64 (e : Int), .string S, .slice A2 l.length c2] 39) = w1 at HK1 HK2 HB HH ⊢
  have HS := Lib.hid (same_any w1 A1 A2 c1 c2 l l hl hl HH.out.1 HH.out.2)
  rw [decide_eq_true rfl] at HS
  refine HS.out.mono ?_
  rintro x w2 ⟨rfl, hb2⟩
  have k1 := HK1.out.of (hb2.block _ HK1.out.lt)
  have k2 := HK2.out.of (hb2.block _ HK2.out.lt)
  have a0 := k1.cell 0
  have a1 := k1.cell 1
  have b0 := k2.cell 0
  have b1 := k2.cell 1
  simp only [List.getElem?_toArray, List.getElem?_cons_zero, List.getElem?_cons_succ] at a0 a1 b0 b1
  have HBB := Lib.hid (HB.out.trans (hb2.mono HB.out.size))
  clear k1 k2 hb2
  go_wp2_with fail
  go_ret
  exact ⟨rfl, HBB.out⟩
def tFirst : ByteArray := ⟨#[102, 105, 114, 115, 116]⟩
/-- Two rows of texts that may differ in length. -/
theorem same_w (w : World) (A1 A2 : Option Addr) (c1 c2 n1 n2 : Nat) (l m : List ByteArray) (h1 : l.length = n1) (h2 : m.length = n2) (hl : n1 ≤ 1000000) (hm : n2 ≤ 1000000) (hA : Lies (fun _ => False) w A1 (cs l)) (hB : Lies (fun _ => False) w A2 (cs m)) :
    Calls Tryd.prog 16 #[.slice A1 n1 c1, .slice A2 n2 c2] w fun e w' => e = .returned (.bool (decide (l = m))) ∧ Below w.heap.size w w' := by
  subst h1; subst h2
  exact same_any w A1 A2 c1 c2 l m hl hm hA hB
/-- A row and one text more, in a row of its own. -/
theorem more_row (w : World) (A : Option Addr) (c n : Nat) (x : List ByteArray) (hn : x.length = n) (hn' : n ≤ 1000) (hA : Lies (fun _ => False) w A (cs x)) (t : ByteArray) :
    ∃ A4 c4 w4 A6 c6 w6, (Builtin.append_ #[30, 30] 30 #[.slice (some ⟨w.heap.size, 0, none⟩) 0 0, .slice A n c]).run Tryd.prog (w.alloc (.cells #[] 9)) = .ok (.slice A4 n c4) w4 ∧
      (Builtin.append_ #[30, 30] 30 #[.slice A4 n c4, .slice (some ⟨w4.heap.size, 0, none⟩) 1 1]).run Tryd.prog (w4.alloc (.cells #[.string t] 9)) = .ok (.slice A6 (n + 1) c6) w6 ∧
      Lies (fun _ => False) w6 A6 (cs (x ++ [t])) ∧ Below w.heap.size w w6 := by
  subst hn
  have bA : Below w.heap.size w (w.alloc (.cells #[] 9)) := (Below.refl _ w).alloc (Nat.le_refl _) _
  obtain ⟨A4, c4, w4, hr4, ho4, hg4⟩ := run_append_texts (w.alloc (.cells #[] 9)) w.heap.size 30 _ [] (own_empty w _) A c x (hA.below bA) (by simp; omega) (by simp)
  have k4 : Kept (fun k => k = w.heap.size) w w4 := ((Kept.refl _ w).alloc _).grown hg4 (fun k hk => .inl (by simpa [Value.ownBlock] using hk.symm))
  have b4 : Below w.heap.size w w4 := Kept.below (Below.refl _ w) k4 (fun k hk => by omega) (Nat.le_refl _)
  rw [List.nil_append] at hr4 ho4
  have bB : Below w4.heap.size w4 (w4.alloc (.cells #[.string t] 9)) := (Below.refl _ w4).alloc (Nat.le_refl _) _
  have ho5 : (w4.alloc (.cells #[.string t] 9)).ownsRow w.heap.size 9 1 (.slice A4 x.length c4) x.length (cs x) := own_of ho4 (fun b hb => bB.block b (own_lt ho4 hb))
  obtain ⟨A6, c6, w6, hr6, ho6, hg6⟩ := run_append_texts (w4.alloc (.cells #[.string t] 9)) w.heap.size 30 _ x ho5 (some ⟨w4.heap.size, 0, none⟩) 1 [t] (Lies.one (S := fun _ => False) w4 9 (.string t) (fun k hk => hk.elim)) (by simp; omega) (by have := b4.size; simp; omega)
  have hlen : (x ++ [t]).length = x.length + 1 := by simp
  rw [hlen] at hr6 ho6
  refine ⟨A4, c4, w4, A6, c6, w6, hr4, hr6, Lies.own ho6 (fun _ _ _ h => h), ?_⟩
  exact Kept.below (b4.trans (bB.mono b4.size)) ((Kept.refl (fun k => (Value.slice A4 x.length c4).ownBlock = some k) (w4.alloc (.cells #[.string t] 9))).grown hg6 (fun k hk => .inl hk)) (fun k hk => own_base ho4 hk) (by have := b4.size; simp; omega)

def SafeRel (B : Nat) (W : World) (d n : Nat) (x5 x7 x8 x9 : Value) (wr : World) : Prop :=
  ∃ (j : Nat) (F : Foot) (D : Dsk) (g st ot e u : Nat) (s : List UInt8) (ts : List (List UInt8)) (A : Option Addr) (c : Nat), j ≤ n ∧ j ≤ 20 ∧ x9 = .int .i64 (j : Int) ∧ x5 = .pointer (some ⟨g, 0, none⟩) ∧ x7 = .string (ba s) ∧ x8 = .slice A ts.length c ∧
    Lies (fun x => F.has x ∨ x = g) wr A (cs (ts.map ba)) ∧ Base B W wr F g ∧ F.d = d ∧ D.left = 0 ∧ Run wr F g D 200 100 st ot e s ts u ∧ e ≤ j + 1 ∧ ts.length ≤ j

set_option maxRecDepth 100000 in
set_option maxHeartbeats 16000000 in
theorem walk (A0 : Option Addr) (n c0 : Nat) (w : World) (hn : n ≤ maxLen)
    (hA : ∀ i, i < n → ∃ a kd nn s, A0 = some a ∧ a.block < w.heap.size ∧ OpAt w (a.add (i * 3)) kd nn s ∧ s.size ≤ maxLen) (hT : Tab w) :
    Calls Tryd.prog 3 #[.slice A0 n c0] w fun e w' => e = .returned (.bool true) ∧ Below w.heap.size w w' := by
  unfold maxLen at hn
  have HT := Lib.hid hT
  have HA := Lib.hid hA
  clear hT hA
  go_enter Tryd.func3, Tryd.ntmps3
  go_wp2_with fail
  refine (awake_any _ HT.out).mono ?_
  rintro x w0 ⟨rfl, hb0⟩
  have hT0 := HT.out.below hb0 HT.out.lt
  have HB0 := Lib.hid hb0
  clear hb0
  go_wp2_with fail
  refine (new_any 200 w0 (by omega) (by omega)).mono ?_
  rintro x w1 ⟨F, rfl, hD, hb1, hF⟩
  have HFm := Lib.hid (fmt0 (hT0.below hb1 hT0.lt) (fresh_cr hD (hf := 100) rfl (by omega)) (by rw [zb_len]) (eOf_fresh 200 100) (by omega) tFirst (by decide) (by decide))
  have HB1 := Lib.hid hb1
  have HFo := Lib.hid hF
  have HT0 := Lib.hid hT0
  clear hD hb1 hF hT0
  go_wp2_with fail
  refine HFm.out.mono ?_
  rintro x w2 ⟨g, F2, D2, rfl, q1, q2, q3, q4, l2, r2⟩
  have b2 := base_fmt (g' := g) HB1.out HB1.out.size HFo.out HT0.out HT0.out.lt q3 q4 q1
  have HI := Lib.hid (show SafeRel w0.heap.size w0 F.d n (.pointer (some ⟨g, 0, none⟩)) (.string tFirst) (.slice none 0 0) (.int .i64 0) w2 from ⟨0, F2, D2, g, _, _, _, _, tFirst.data.toList, [], none, 0, by omega, by omega, rfl, rfl, by rw [ba_back], rfl, fun i u hi => by simp [cs] at hi, b2, q2, l2, r2, by omega, Nat.le_refl _⟩)
  clear q1 q2 q3 q4 HFm r2 l2 HFo b2 HB1
  go_wp2_with fail
  go_loopw [5, 7, 8, 9] (SafeRel w0.heap.size w0 F.d n) (fun _ _ _ i _ => 20 - (intOf i).toNat)
  case atStart => exact HI.out
  case round =>
    clear HI
    obtain ⟨j, F3, D3, g, st, ot, e, u, s, ts, A, c, hj, hj2, rfl, rfl, rfl, rfl, hlies, hb, hd, hl0, hr, hej, htj⟩ := hrel
    by_cases hlt : j < n ∧ j < 20
    · obtain ⟨hlt1, hlt2⟩ := hlt
      obtain ⟨a, kd, nn, sx, rfl, hab, hop, hsx⟩ := HA.out j hlt1
      have hop1 := (hop.below HB0.out (by rw [addr_block]; omega)).below hb.bel (by rw [addr_block]; exact Nat.lt_of_lt_of_le hab HB0.out.size)
      obtain ⟨y0, y1, y2⟩ := hop1
      have HSh := Lib.hid (fun W => short_any sx 30 hsx W)
      have htz := cut_size sx 30
      generalize cut sx 30 = t at HSh htz
      obtain ⟨X, hX⟩ : ∃ X, ts.map ba = X := ⟨_, rfl⟩
      have hXl : X.length = ts.length := by rw [← hX]; simp
      rw [hX] at hlies
      have HXe := Lib.hid hX
      obtain ⟨nT, hnT⟩ : ∃ nT, ts.length = nT := ⟨_, rfl⟩
      rw [hnT] at hXl htj ⊢
      have HnT := Lib.hid hnT
      have hal : Below wr.heap.size wr (wr.alloc (.cells #[.int .i64 kd, .int .i64 nn, .string sx] 32)) := (Below.refl _ wr).alloc (Nat.le_refl _) _
      have kb := Blk.new wr 32 #[.int .i64 kd, .int .i64 nn, .string sx]
      have hob : ¬ (F3.has wr.heap.size ∨ wr.heap.size = g) := fun hx => by
        rcases hx with h | h
        · have := Foot.has_lt hr.disk _ h; omega
        · have := Blk.lt hr.log; omega
      have m1 := Mv.below hal F3 g
      have HR1 := Lib.hid (hr.mv_below hal)
      have HB1 := Lib.hid (hb.mv m1)
      have HH1 := Lib.hid (m1.lies hlies)
      have HO1 := Lib.hid (And.intro kb hob)
      clear hr hb hlies hal kb m1 hX hnT
      go_wp2_with fail
      generalize wr.alloc (.cells #[.int .i64 kd, .int .i64 nn, .string sx] 32) = v1 at HR1 HB1 HH1 HO1 ⊢
      generalize wr.heap.size = b at HO1 hob ⊢
      clear hob y0 y1 y2 hop
      refine (HSh.out _).mono ?_
      rintro x w' ⟨rfl, rfl⟩
      have z1 := HO1.out.1.cell 1
      simp only [List.getElem?_toArray, List.getElem?_cons_zero, List.getElem?_cons_succ] at z1
      have HBk := Lib.hid (fun k h1 h2 => run_break HR1.out k h1 h2)
      rw [hd] at HBk
      go_wp2_with fail
      refine (HBk.out _ (and_in _ _).1 (and_in _ _).2).mono ?_
      rintro x w3 ⟨rfl, m3, r3⟩
      have HR3 := Lib.hid r3
      have HB3 := Lib.hid (HB1.out.mv m3)
      have HH3 := Lib.hid (m3.lies HH1.out)
      have HO3 := Lib.hid (m3.blk HO1.out.1 HO1.out.2)
      have z0 := HO3.out.1.cell 0
      simp only [List.getElem?_toArray, List.getElem?_cons_zero] at z0
      clear m3 r3 HBk HSh
      cases hk : (bits .and .i64 kd 1 == (1 : Int)) with
      | true =>
        have hkk : bits .and .i64 kd 1 = 1 := by simpa using hk
        have HSn := Lib.hid (snap_try HB3.out HR3.out (by omega) t (by omega) (by omega))
        go_wp2_with fail
        refine HSn.out.mono ?_
        rintro x w4 ⟨E, F4, D4, rfl, m4, aft⟩
        obtain ⟨e1, he1⟩ : ∃ e1, e + 1 = e1 := ⟨_, rfl⟩
        rw [he1] at aft
        generalize (Fr.rec_ (Hv.head e1 t.data.toList)).length = u1 at aft
        have HB4 := Lib.hid (HB3.out.mv m4)
        have HH4 := Lib.hid (m4.lies HH3.out)
        have HO4 := Lib.hid (m4.blk HO3.out.1 HO3.out.2)
        have z1 := HO4.out.1.cell 1
        have z00 := HO4.out.1.cell 0
        simp only [List.getElem?_toArray, List.getElem?_cons_zero, List.getElem?_cons_succ] at z1 z00
        have HCr := Lib.hid (fun k h1 h2 => run_crash (g := g) aft k h1 h2)
        have HD4 : Hid (F4.d = F.d) := m4.1.trans hd
        rw [HD4.out] at HCr
        clear m4 aft z00
        go_wp2_with fail
        refine (HCr.out _ (and_in _ _).1 (and_in _ _).2).mono ?_
        rintro x w5 ⟨⟨kk, rfl⟩, F5, D5, l5, m5, cr5, hout⟩
        have HB5 := Lib.hid (HB4.out.mv m5)
        have HH5 := Lib.hid (m5.lies HH4.out)
        have HO5 := Lib.hid (m5.blk HO4.out.1 HO4.out.2)
        have HD5 : Hid (F5.d = F.d) := m5.1.trans HD4.out
        have HCr5 := Lib.hid cr5
        clear m5 cr5 HB4 HH4 HO4 HD4 HCr HB3 HH3 HO3 HR3
        go_wp2_with fail
        rcases hout with ⟨rfl, lo⟩ | ⟨rfl, lo | lo⟩ | ⟨hE0, hE18, lo⟩
        · have HLo5 := Lib.hid lo
          clear lo
          as_aux_lemma =>
            have HO := Lib.hid (run_open HB5.out HCr5.out HLo5.out)
            unfold OpP at HO
            rw [HD5.out, ba_back, List.length_nil, List.map_nil] at HO
            refine HO.out.mono ?_
            rintro x w7 ⟨g7, A7, c7, F7, D7, rfl, m7, hg7, r7, l7, hl7, k7, f7⟩
            have hob7 := m7.blk HO5.out.1 HO5.out.2
            have hhad7 := m7.lies HH5.out
            have b7 := HB5.out.mv m7
            have hf : Below w7.heap.size w7 (w7.alloc (.cells #[.int .u64 (e1 : Int), .string t, .slice A7 0 c7] 39)) := (Below.refl _ w7).alloc (Nat.le_refl _) _
            have kf := Blk.new w7 39 #[.int .u64 (e1 : Int), .string t, .slice A7 0 c7]
            have mf := Mv.below hf F7 g7
            have hoF : ¬ (F7.has w7.heap.size ∨ w7.heap.size = g7) := fun hx => by
              rcases hx with h | h
              · have := Foot.has_lt r7.disk _ h; omega
              · have := Blk.lt r7.log; omega
            have HF8 := Lib.hid (And.intro kf hoF)
            have HO8 := Lib.hid (mf.blk hob7.1 hob7.2)
            have HH8 := Lib.hid (mf.lies hhad7)
            have HC8 := Lib.hid (mf.lies hl7)
            have HB8 := Lib.hid (b7.mv mf)
            have HR8 := Lib.hid (r7.mv_below hf)
            have HD8 : Hid (F7.d = F.d) := m7.1.trans HD5.out
            have HSz := Lib.hid hf.size
            clear m7 r7 hl7 k7 f7 hob7 hhad7 b7 kf mf hoF hf HO HB5 HCr5 HLo5 HH5 HO5 HD5
            cases hcm : (t.toList == (ba s).toList) with
            | false =>
              obtain ⟨A4, c4, v4, A6, c6, v6, hr4, hr6, hl6, hb6⟩ := more_row (w7.alloc (.cells #[.int .u64 (e1 : Int), .string t, .slice A7 0 c7] 39)) A c nT X hXl (by omega) (HH8.out.mono (T := fun _ => False) (fun k _ hk => hk.elim)) t
              have hsz8 : (w7.alloc (.cells #[.int .u64 (e1 : Int), .string t, .slice A7 0 c7] 39)).heap.size = w7.heap.size + 1 := by simp
              have m6 := Mv.below hb6 F7 g7
              have HF10 := Lib.hid (m6.blk HF8.out.1 HF8.out.2)
              have HO10 := Lib.hid (m6.blk HO8.out.1 HO8.out.2)
              have HC10 := Lib.hid (m6.lies HC8.out)
              have HM10 := Lib.hid hl6
              have HB10 := Lib.hid (HB8.out.mv m6)
              have HR10 := Lib.hid (HR8.out.mv_below hb6)
              have x0 := HF10.out.1.cell 0
              have x1 := HF10.out.1.cell 1
              have x2 := HF10.out.1.cell 2
              have z0 := HO10.out.1.cell 0
              simp only [List.getElem?_toArray, List.getElem?_cons_zero, List.getElem?_cons_succ] at x0 x1 x2 z0
              rw [hsz8] at hr4
              have HRA := Lib.hid hr4
              have HRB := Lib.hid hr6
              clear hr4 hr6 hl6 hb6 m6 HF8 HO8 HC8 HB8 HR8 HH8 hsz8 HSz
              generalize hq8 : w7.heap.size = q8 at HF10 hg7
              have HQ8 := Lib.hid hq8
              clear hq8
              go_wp2_with first
                | (at_builtin; refine wpList_append_run rfl (.tmp 92) (.tmp 93) 30 30 rfl _ _ _ rfl rfl HRA.out ?_; clear HRA)
                | (at_builtin; refine wpList_append_run rfl (.tmp 94) (.tmp 96) 30 30 rfl _ _ _ rfl rfl HRB.out ?_)
              have hb13 : Below v6.heap.size v6 v6 := Below.refl _ _
              rw [HQ8.out]
              have m13 := Mv.below hb13 F7 g7
              have HF13 := Lib.hid (m13.blk HF10.out.1 HF10.out.2)
              have HC13 := Lib.hid (m13.lies HC10.out)
              have ho13 := m13.blk HO10.out.1 HO10.out.2
              have b13 := HB10.out.mv m13
              have r13 := HR10.out.mv_below hb13
              have HO := Lib.hid (run_open b13 (r13.cr l7) r13.ld.open_)
              unfold OpP at HO
              rw [HD8.out, ba_back, List.length_nil, List.map_nil] at HO
              have x0 := HF13.out.1.cell 0
              have x1 := HF13.out.1.cell 1
              have x2 := HF13.out.1.cell 2
              have z0 := ho13.1.cell 0
              simp only [List.getElem?_toArray, List.getElem?_cons_zero, List.getElem?_cons_succ] at x0 x1 x2 z0
              have HB13 := Lib.hid b13
              have HR13 := Lib.hid r13
              clear hb13 m13 ho13 b13 r13 HF10 HO10 HC10 HB10 HR10 HM10
              go_wp2_with fail
              refine HO.out.mono ?_
              rintro x w14 ⟨g8, A8, c8, F8, D8, rfl, m8, hg8, r8, l8, hl8, k8, f8⟩
              have hf : Below w14.heap.size w14 (w14.alloc (.cells #[.int .u64 (e1 : Int), .string t, .slice A8 0 c8] 39)) := (Below.refl _ w14).alloc (Nat.le_refl _) _
              have kx : LogAt w14 g7 F7.d _ _ _ false := LogAt.kept HR13.out.log k8 (LogAt.off HR13.out.log HR13.out.disk)
              have mf := Mv.below hf F8 g8
              have hfd := m8.blk HF13.out.1 HF13.out.2
              have HF15 := Lib.hid (mf.blk hfd.1 hfd.2)
              have HC15 := Lib.hid (mf.lies (m8.lies HC13.out))
              have HA15 := Lib.hid (mf.lies hl8)
              have HB15 := Lib.hid ((HB13.out.mv m8).mv mf)
              have HR15 := Lib.hid (r8.mv_below hf)
              have HX15 := Lib.hid (LogAt.kept kx (Kept.of_below (S := fun _ => False) hf) (fun h => h))
              have HD15 : Hid (F8.d = F.d) := m8.1.trans HD8.out
              have HDx : Hid (F7.d = F8.d) := m8.1.symm
              have x0 := HF15.out.1.cell 0
              have x1 := HF15.out.1.cell 1
              have x2 := HF15.out.1.cell 2
              simp only [List.getElem?_toArray, List.getElem?_cons_zero, List.getElem?_cons_succ] at x0 x1 x2
              clear m8 r8 hl8 k8 f8 hf kx mf hfd HF13 HC13 HB13 HR13 HO
              go_wp2_with fail
              generalize w14.alloc (.cells #[.int .u64 (e1 : Int), .string t, .slice A8 0 c8] 39) = w15 at HF15 HC15 HA15 HB15 HR15 HX15 x0 x1 x2 ⊢
              refine (same_found w15 e1 t A7 A8 0 c7 c8 [] rfl (by omega) (HC15.out.mono (T := fun _ => False) (fun k _ hk => hk.elim)) (HA15.out.mono (T := fun _ => False) (fun k _ hk => hk.elim))).mono ?_
              rintro x w16 ⟨rfl, hb16⟩
              have HRm := Lib.hid (room_any (HR15.out.mv_below hb16).disk (hf := 100) (by rw [(HR15.out.mv_below hb16).n_]) (HR15.out.mv_below hb16).log (by have := HR15.out.ld.fit; omega))
              have HB16 := Lib.hid hb16
              clear hb16
              go_wp2_with fail
              refine HRm.out.mono ?_
              rintro x w17 ⟨rfl, hb17⟩
              have HB17 := Lib.hid (HB16.out.trans (hb17.mono HB16.out.size))
              have HRx := Lib.hid (room_any (HR15.out.mv_below HB17.out).disk (hf := 100) (by rw [(HR15.out.mv_below HB17.out).n_]) (by rw [← HDx.out]; exact LogAt.kept HX15.out (Kept.of_below (S := fun _ => False) HB17.out) (fun h => h)) (by have := HR15.out.ld.fit; omega))
              clear hb17
              go_wp2_with fail
              refine HRx.out.mono ?_
              rintro x w18 ⟨rfl, hb18⟩
              have hb := HB17.out.trans (hb18.mono HB17.out.size)
              have HEy := Lib.hid (epoch_any (HR15.out.mv_below hb).log)
              have HEx := Lib.hid (epoch_any (LogAt.kept HX15.out (Kept.of_below (S := fun _ => False) hb) (fun h => h)))
              have m18 := Mv.below hb F8 g8
              have hf18 := m18.blk HF15.out.1 HF15.out.2
              have x1 := hf18.1.cell 1
              have x2 := hf18.1.cell 2
              simp only [List.getElem?_toArray, List.getElem?_cons_zero, List.getElem?_cons_succ] at x1 x2
              have HZ := Lib.hid (And.intro (m18.lies HC15.out) (And.intro (HB15.out.mv m18) (HR15.out.mv_below hb)))
              clear hb18 hb m18 hf18
              go_wp2_with fail
              refine HEy.out.mono ?_
              rintro x w' ⟨rfl, rfl⟩
              go_wp2_with fail
              refine HEx.out.mono ?_
              rintro x w' ⟨rfl, rfl⟩
              go_wp2_with fail
              go_roundw
              case rel =>
                obtain ⟨u1, u2, u3⟩ := HZ.out
                exact ⟨j + 1, F8, D8, g8, _, _, _, _, t.data.toList, [], A7, c7, by omega, by omega, by go_num, rfl, by rw [ba_back], rfl, u1, u2, HD15.out, l8, u3, by omega, Nat.zero_le _⟩
              case measure => simp [intOf]; omega
            | true =>
              go_wp2_with fail
              generalize w7.alloc (.cells #[.int .u64 (e1 : Int), .string t, .slice A7 0 c7] 39) = w8 at HF8 HO8 HH8 HC8 HB8 HR8 HSz ⊢
              generalize w7.heap.size = q8 at HF8 hg7 HSz ⊢
              refine (same_w _ A7 A c7 c 0 nT [] X rfl hXl (by omega) (by omega) ((HC8.out.mono (T := fun _ => False) (fun k _ hk => hk.elim))) ((HH8.out.mono (T := fun _ => False) (fun k _ hk => hk.elim)))).mono ?_
              rintro x w9 ⟨rfl, hb9⟩
              generalize decide (([] : List ByteArray) = X) = bq
              have m9 := Mv.below hb9 F7 g7
              have HF9 := Lib.hid (m9.blk HF8.out.1 HF8.out.2)
              have HO9 := Lib.hid (m9.blk HO8.out.1 HO8.out.2)
              have HH9 := Lib.hid (m9.lies HH8.out)
              have HC9 := Lib.hid (m9.lies HC8.out)
              have HB9 := Lib.hid (HB8.out.mv m9)
              have HR9 := Lib.hid (HR8.out.mv_below hb9)
              clear hb9 m9 HF8 HO8 HH8 HC8 HB8 HR8
              obtain ⟨A4, c4, v4, A6, c6, v6, hr4, hr6, hl6, hb6⟩ := more_row w9 A c nT X hXl (by omega) (HH9.out.mono (T := fun _ => False) (fun k _ hk => hk.elim)) t
              have HRA := Lib.hid hr4
              have HRB := Lib.hid hr6
              have m6 := Mv.below hb6 F7 g7
              have HF10 := Lib.hid (m6.blk HF9.out.1 HF9.out.2)
              have HO10 := Lib.hid (m6.blk HO9.out.1 HO9.out.2)
              have HC10 := Lib.hid (m6.lies HC9.out)
              have HM10 := Lib.hid hl6
              have HB10 := Lib.hid (HB9.out.mv m6)
              have HR10 := Lib.hid (HR9.out.mv_below hb6)
              have x0 := HF10.out.1.cell 0
              have x1 := HF10.out.1.cell 1
              have x2 := HF10.out.1.cell 2
              simp only [List.getElem?_toArray, List.getElem?_cons_zero, List.getElem?_cons_succ] at x0 x1 x2
              clear hr4 hr6 hl6 hb6 m6 HF9 HO9 HC9 HB9 HR9 HH9
              cases bq
              all_goals
                go_wp2_with first
                  | (at_builtin; refine wpList_append_run rfl (.tmp 92) (.tmp 93) 30 30 rfl _ _ _ rfl rfl HRA.out ?_; clear HRA)
                  | (at_builtin; refine wpList_append_run rfl (.tmp 94) (.tmp 96) 30 30 rfl _ _ _ rfl rfl HRB.out ?_)
                refine (same_w _ A7 A6 c7 c6 0 (nT + 1) [] (X ++ [t]) rfl (by rw [List.length_append, hXl]; rfl) (by omega) (by omega) ((HC10.out.mono (T := fun _ => False) (fun k _ hk => hk.elim))) HM10.out).mono ?_
                rintro x w13 ⟨rfl, hb13⟩
                rw [decide_eq_false (show ¬ (([] : List ByteArray) = X ++ [t]) from fun h => by simp at h)]
                have m13 := Mv.below hb13 F7 g7
                have HF13 := Lib.hid (m13.blk HF10.out.1 HF10.out.2)
                have HC13 := Lib.hid (m13.lies HC10.out)
                have ho13 := m13.blk HO10.out.1 HO10.out.2
                have b13 := HB10.out.mv m13
                have r13 := HR10.out.mv_below hb13
                have HO := Lib.hid (run_open b13 (r13.cr l7) r13.ld.open_)
                unfold OpP at HO
                rw [HD8.out, ba_back, List.length_nil, List.map_nil] at HO
                have x0 := HF13.out.1.cell 0
                have x1 := HF13.out.1.cell 1
                have x2 := HF13.out.1.cell 2
                have z0 := ho13.1.cell 0
                simp only [List.getElem?_toArray, List.getElem?_cons_zero, List.getElem?_cons_succ] at x0 x1 x2 z0
                have HB13 := Lib.hid b13
                have HR13 := Lib.hid r13
                clear hb13 m13 ho13 b13 r13 HF10 HO10 HC10 HB10 HR10 HM10
                go_wp2_with fail
                refine HO.out.mono ?_
                rintro x w14 ⟨g8, A8, c8, F8, D8, rfl, m8, hg8, r8, l8, hl8, k8, f8⟩
                have hf : Below w14.heap.size w14 (w14.alloc (.cells #[.int .u64 (e1 : Int), .string t, .slice A8 0 c8] 39)) := (Below.refl _ w14).alloc (Nat.le_refl _) _
                have kx : LogAt w14 g7 F7.d _ _ _ false := LogAt.kept HR13.out.log k8 (LogAt.off HR13.out.log HR13.out.disk)
                have mf := Mv.below hf F8 g8
                have hfd := m8.blk HF13.out.1 HF13.out.2
                have HF15 := Lib.hid (mf.blk hfd.1 hfd.2)
                have HC15 := Lib.hid (mf.lies (m8.lies HC13.out))
                have HA15 := Lib.hid (mf.lies hl8)
                have HB15 := Lib.hid ((HB13.out.mv m8).mv mf)
                have HR15 := Lib.hid (r8.mv_below hf)
                have HX15 := Lib.hid (LogAt.kept kx (Kept.of_below (S := fun _ => False) hf) (fun h => h))
                have HD15 : Hid (F8.d = F.d) := m8.1.trans HD8.out
                have HDx : Hid (F7.d = F8.d) := m8.1.symm
                have x0 := HF15.out.1.cell 0
                have x1 := HF15.out.1.cell 1
                have x2 := HF15.out.1.cell 2
                simp only [List.getElem?_toArray, List.getElem?_cons_zero, List.getElem?_cons_succ] at x0 x1 x2
                clear m8 r8 hl8 k8 f8 hf kx mf hfd HF13 HC13 HB13 HR13 HO
                go_wp2_with fail
                generalize w14.alloc (.cells #[.int .u64 (e1 : Int), .string t, .slice A8 0 c8] 39) = w15 at HF15 HC15 HA15 HB15 HR15 HX15 x0 x1 x2 ⊢
                refine (same_found w15 e1 t A7 A8 0 c7 c8 [] rfl (by omega) (HC15.out.mono (T := fun _ => False) (fun k _ hk => hk.elim)) (HA15.out.mono (T := fun _ => False) (fun k _ hk => hk.elim))).mono ?_
                rintro x w16 ⟨rfl, hb16⟩
                have HRm := Lib.hid (room_any (HR15.out.mv_below hb16).disk (hf := 100) (by rw [(HR15.out.mv_below hb16).n_]) (HR15.out.mv_below hb16).log (by have := HR15.out.ld.fit; omega))
                have HB16 := Lib.hid hb16
                clear hb16
                go_wp2_with fail
                refine HRm.out.mono ?_
                rintro x w17 ⟨rfl, hb17⟩
                have HB17 := Lib.hid (HB16.out.trans (hb17.mono HB16.out.size))
                have HRx := Lib.hid (room_any (HR15.out.mv_below HB17.out).disk (hf := 100) (by rw [(HR15.out.mv_below HB17.out).n_]) (by rw [← HDx.out]; exact LogAt.kept HX15.out (Kept.of_below (S := fun _ => False) HB17.out) (fun h => h)) (by have := HR15.out.ld.fit; omega))
                clear hb17
                go_wp2_with fail
                refine HRx.out.mono ?_
                rintro x w18 ⟨rfl, hb18⟩
                have hb := HB17.out.trans (hb18.mono HB17.out.size)
                have HEy := Lib.hid (epoch_any (HR15.out.mv_below hb).log)
                have HEx := Lib.hid (epoch_any (LogAt.kept HX15.out (Kept.of_below (S := fun _ => False) hb) (fun h => h)))
                have m18 := Mv.below hb F8 g8
                have hf18 := m18.blk HF15.out.1 HF15.out.2
                have x1 := hf18.1.cell 1
                have x2 := hf18.1.cell 2
                simp only [List.getElem?_toArray, List.getElem?_cons_zero, List.getElem?_cons_succ] at x1 x2
                have HZ := Lib.hid (And.intro (m18.lies HC15.out) (And.intro (HB15.out.mv m18) (HR15.out.mv_below hb)))
                clear hb18 hb m18 hf18
                go_wp2_with fail
                refine HEy.out.mono ?_
                rintro x w' ⟨rfl, rfl⟩
                go_wp2_with fail
                refine HEx.out.mono ?_
                rintro x w' ⟨rfl, rfl⟩
                go_wp2_with fail
                go_roundw
                case rel =>
                  obtain ⟨u1, u2, u3⟩ := HZ.out
                  exact ⟨j + 1, F8, D8, g8, _, _, _, _, t.data.toList, [], A7, c7, by omega, by omega, by go_num, rfl, by rw [ba_back], rfl, u1, u2, HD15.out, l8, u3, by omega, Nat.zero_le _⟩
                case measure => simp [intOf]; omega
        · have HLo5 := Lib.hid lo
          clear lo
          as_aux_lemma =>
            have HO := Lib.hid (run_open HB5.out HCr5.out HLo5.out)
            unfold OpP at HO
            rw [HD5.out, HXe.out, HnT.out] at HO
            refine HO.out.mono ?_
            rintro x w7 ⟨g7, A7, c7, F7, D7, rfl, m7, hg7, r7, l7, hl7, k7, f7⟩
            have hob7 := m7.blk HO5.out.1 HO5.out.2
            have hhad7 := m7.lies HH5.out
            have b7 := HB5.out.mv m7
            have hf : Below w7.heap.size w7 (w7.alloc (.cells #[.int .u64 (e : Int), .string (ba s), .slice A7 nT c7] 39)) := (Below.refl _ w7).alloc (Nat.le_refl _) _
            have kf := Blk.new w7 39 #[.int .u64 (e : Int), .string (ba s), .slice A7 nT c7]
            have mf := Mv.below hf F7 g7
            have hoF : ¬ (F7.has w7.heap.size ∨ w7.heap.size = g7) := fun hx => by
              rcases hx with h | h
              · have := Foot.has_lt r7.disk _ h; omega
              · have := Blk.lt r7.log; omega
            have HF8 := Lib.hid (And.intro kf hoF)
            have HO8 := Lib.hid (mf.blk hob7.1 hob7.2)
            have HH8 := Lib.hid (mf.lies hhad7)
            have HC8 := Lib.hid (mf.lies hl7)
            have HB8 := Lib.hid (b7.mv mf)
            have HR8 := Lib.hid (r7.mv_below hf)
            have HD8 : Hid (F7.d = F.d) := m7.1.trans HD5.out
            have HSz := Lib.hid hf.size
            clear m7 r7 hl7 k7 f7 hob7 hhad7 b7 kf mf hoF hf HO HB5 HCr5 HLo5 HH5 HO5 HD5
            go_wp2_with fail
            generalize w7.alloc (.cells #[.int .u64 (e : Int), .string (ba s), .slice A7 nT c7] 39) = w8 at HF8 HO8 HH8 HC8 HB8 HR8 HSz ⊢
            generalize w7.heap.size = q8 at HF8 hg7 HSz ⊢
            refine (same_w _ A7 A c7 c nT nT X X hXl hXl (by omega) (by omega) ((HC8.out.mono (T := fun _ => False) (fun k _ hk => hk.elim))) ((HH8.out.mono (T := fun _ => False) (fun k _ hk => hk.elim)))).mono ?_
            rintro x w9 ⟨rfl, hb9⟩
            rw [decide_eq_true rfl]
            have m9 := Mv.below hb9 F7 g7
            have HF9 := Lib.hid (m9.blk HF8.out.1 HF8.out.2)
            have HO9 := Lib.hid (m9.blk HO8.out.1 HO8.out.2)
            have HH9 := Lib.hid (m9.lies HH8.out)
            have HC9 := Lib.hid (m9.lies HC8.out)
            have HB9 := Lib.hid (HB8.out.mv m9)
            have HR9 := Lib.hid (HR8.out.mv_below hb9)
            clear hb9 m9 HF8 HO8 HH8 HC8 HB8 HR8
            obtain ⟨A4, c4, v4, A6, c6, v6, hr4, hr6, hl6, hb6⟩ := more_row w9 A c nT X hXl (by omega) (HH9.out.mono (T := fun _ => False) (fun k _ hk => hk.elim)) t
            have HRA := Lib.hid hr4
            have HRB := Lib.hid hr6
            have m6 := Mv.below hb6 F7 g7
            have HF10 := Lib.hid (m6.blk HF9.out.1 HF9.out.2)
            have HO10 := Lib.hid (m6.blk HO9.out.1 HO9.out.2)
            have HC10 := Lib.hid (m6.lies HC9.out)
            have HM10 := Lib.hid hl6
            have HB10 := Lib.hid (HB9.out.mv m6)
            have HR10 := Lib.hid (HR9.out.mv_below hb6)
            have x0 := HF10.out.1.cell 0
            have x1 := HF10.out.1.cell 1
            have x2 := HF10.out.1.cell 2
            simp only [List.getElem?_toArray, List.getElem?_cons_zero, List.getElem?_cons_succ] at x0 x1 x2
            clear hr4 hr6 hl6 hb6 m6 HF9 HO9 HC9 HB9 HR9 HH9
            go_wp2_with first
              | (at_builtin; refine wpList_append_run rfl (.tmp 92) (.tmp 93) 30 30 rfl _ _ _ rfl rfl HRA.out ?_; clear HRA)
              | (at_builtin; refine wpList_append_run rfl (.tmp 94) (.tmp 96) 30 30 rfl _ _ _ rfl rfl HRB.out ?_)
            refine (same_w _ A7 A6 c7 c6 nT (nT + 1) X (X ++ [t]) hXl (by rw [List.length_append, hXl]; rfl) (by omega) (by omega) ((HC10.out.mono (T := fun _ => False) (fun k _ hk => hk.elim))) HM10.out).mono ?_
            rintro x w13 ⟨rfl, hb13⟩
            rw [decide_eq_false (show ¬ (X = X ++ [t]) from fun h => by have := congrArg List.length h; simp at this)]
            have m13 := Mv.below hb13 F7 g7
            have HF13 := Lib.hid (m13.blk HF10.out.1 HF10.out.2)
            have HC13 := Lib.hid (m13.lies HC10.out)
            have ho13 := m13.blk HO10.out.1 HO10.out.2
            have b13 := HB10.out.mv m13
            have r13 := HR10.out.mv_below hb13
            have HO := Lib.hid (run_open b13 (r13.cr l7) r13.ld.open_)
            unfold OpP at HO
            rw [HD8.out, HXe.out, HnT.out] at HO
            have x0 := HF13.out.1.cell 0
            have x1 := HF13.out.1.cell 1
            have x2 := HF13.out.1.cell 2
            have z0 := ho13.1.cell 0
            simp only [List.getElem?_toArray, List.getElem?_cons_zero, List.getElem?_cons_succ] at x0 x1 x2 z0
            have HB13 := Lib.hid b13
            have HR13 := Lib.hid r13
            clear hb13 m13 ho13 b13 r13 HF10 HO10 HC10 HB10 HR10 HM10
            cases hcm : ((ba s).toList == t.toList) with
            | false =>
              go_wp2_with fail
              refine HO.out.mono ?_
              rintro x w14 ⟨g8, A8, c8, F8, D8, rfl, m8, hg8, r8, l8, hl8, k8, f8⟩
              have hf : Below w14.heap.size w14 (w14.alloc (.cells #[.int .u64 (e : Int), .string (ba s), .slice A8 nT c8] 39)) := (Below.refl _ w14).alloc (Nat.le_refl _) _
              have kx : LogAt w14 g7 F7.d _ _ _ false := LogAt.kept HR13.out.log k8 (LogAt.off HR13.out.log HR13.out.disk)
              have mf := Mv.below hf F8 g8
              have hfd := m8.blk HF13.out.1 HF13.out.2
              have HF15 := Lib.hid (mf.blk hfd.1 hfd.2)
              have HC15 := Lib.hid (mf.lies (m8.lies HC13.out))
              have HA15 := Lib.hid (mf.lies hl8)
              have HB15 := Lib.hid ((HB13.out.mv m8).mv mf)
              have HR15 := Lib.hid (r8.mv_below hf)
              have HX15 := Lib.hid (LogAt.kept kx (Kept.of_below (S := fun _ => False) hf) (fun h => h))
              have HD15 : Hid (F8.d = F.d) := m8.1.trans HD8.out
              have HDx : Hid (F7.d = F8.d) := m8.1.symm
              have x0 := HF15.out.1.cell 0
              have x1 := HF15.out.1.cell 1
              have x2 := HF15.out.1.cell 2
              simp only [List.getElem?_toArray, List.getElem?_cons_zero, List.getElem?_cons_succ] at x0 x1 x2
              clear m8 r8 hl8 k8 f8 hf kx mf hfd HF13 HC13 HB13 HR13 HO
              go_wp2_with fail
              generalize w14.alloc (.cells #[.int .u64 (e : Int), .string (ba s), .slice A8 nT c8] 39) = w15 at HF15 HC15 HA15 HB15 HR15 HX15 x0 x1 x2 ⊢
              refine (same_found w15 e (ba s) A7 A8 nT c7 c8 X hXl (by omega) (HC15.out.mono (T := fun _ => False) (fun k _ hk => hk.elim)) (HA15.out.mono (T := fun _ => False) (fun k _ hk => hk.elim))).mono ?_
              rintro x w16 ⟨rfl, hb16⟩
              have HRm := Lib.hid (room_any (HR15.out.mv_below hb16).disk (hf := 100) (by rw [(HR15.out.mv_below hb16).n_]) (HR15.out.mv_below hb16).log (by have := HR15.out.ld.fit; omega))
              have HB16 := Lib.hid hb16
              clear hb16
              go_wp2_with fail
              refine HRm.out.mono ?_
              rintro x w17 ⟨rfl, hb17⟩
              have HB17 := Lib.hid (HB16.out.trans (hb17.mono HB16.out.size))
              have HRx := Lib.hid (room_any (HR15.out.mv_below HB17.out).disk (hf := 100) (by rw [(HR15.out.mv_below HB17.out).n_]) (by rw [← HDx.out]; exact LogAt.kept HX15.out (Kept.of_below (S := fun _ => False) HB17.out) (fun h => h)) (by have := HR15.out.ld.fit; omega))
              clear hb17
              go_wp2_with fail
              refine HRx.out.mono ?_
              rintro x w18 ⟨rfl, hb18⟩
              have hb := HB17.out.trans (hb18.mono HB17.out.size)
              have HEy := Lib.hid (epoch_any (HR15.out.mv_below hb).log)
              have HEx := Lib.hid (epoch_any (LogAt.kept HX15.out (Kept.of_below (S := fun _ => False) hb) (fun h => h)))
              have m18 := Mv.below hb F8 g8
              have hf18 := m18.blk HF15.out.1 HF15.out.2
              have x1 := hf18.1.cell 1
              have x2 := hf18.1.cell 2
              simp only [List.getElem?_toArray, List.getElem?_cons_zero, List.getElem?_cons_succ] at x1 x2
              have HZ := Lib.hid (And.intro (m18.lies HC15.out) (And.intro (HB15.out.mv m18) (HR15.out.mv_below hb)))
              clear hb18 hb m18 hf18
              go_wp2_with fail
              refine HEy.out.mono ?_
              rintro x w' ⟨rfl, rfl⟩
              go_wp2_with fail
              refine HEx.out.mono ?_
              rintro x w' ⟨rfl, rfl⟩
              go_wp2_with fail
              go_roundw
              case rel =>
                obtain ⟨u1, u2, u3⟩ := HZ.out
                exact ⟨j + 1, F8, D8, g8, _, _, _, _, s, ts, A7, c7, by omega, by omega, by go_num, rfl, rfl, by rw [HnT.out], by rw [HXe.out]; exact u1, u2, HD15.out, l8, u3, by omega, by rw [HnT.out]; omega⟩
              case measure => simp [intOf]; omega
            | true =>
              by_cases hn0 : nT = 0
              · subst hn0
                go_wp2_with fail
                refine HO.out.mono ?_
                rintro x w14 ⟨g8, A8, c8, F8, D8, rfl, m8, hg8, r8, l8, hl8, k8, f8⟩
                have hf : Below w14.heap.size w14 (w14.alloc (.cells #[.int .u64 (e : Int), .string (ba s), .slice A8 0 c8] 39)) := (Below.refl _ w14).alloc (Nat.le_refl _) _
                have kx : LogAt w14 g7 F7.d _ _ _ false := LogAt.kept HR13.out.log k8 (LogAt.off HR13.out.log HR13.out.disk)
                have mf := Mv.below hf F8 g8
                have hfd := m8.blk HF13.out.1 HF13.out.2
                have HF15 := Lib.hid (mf.blk hfd.1 hfd.2)
                have HC15 := Lib.hid (mf.lies (m8.lies HC13.out))
                have HA15 := Lib.hid (mf.lies hl8)
                have HB15 := Lib.hid ((HB13.out.mv m8).mv mf)
                have HR15 := Lib.hid (r8.mv_below hf)
                have HX15 := Lib.hid (LogAt.kept kx (Kept.of_below (S := fun _ => False) hf) (fun h => h))
                have HD15 : Hid (F8.d = F.d) := m8.1.trans HD8.out
                have HDx : Hid (F7.d = F8.d) := m8.1.symm
                have x0 := HF15.out.1.cell 0
                have x1 := HF15.out.1.cell 1
                have x2 := HF15.out.1.cell 2
                simp only [List.getElem?_toArray, List.getElem?_cons_zero, List.getElem?_cons_succ] at x0 x1 x2
                clear m8 r8 hl8 k8 f8 hf kx mf hfd HF13 HC13 HB13 HR13 HO
                go_wp2_with fail
                generalize w14.alloc (.cells #[.int .u64 (e : Int), .string (ba s), .slice A8 0 c8] 39) = w15 at HF15 HC15 HA15 HB15 HR15 HX15 x0 x1 x2 ⊢
                refine (same_found w15 e (ba s) A7 A8 0 c7 c8 X hXl (by omega) (HC15.out.mono (T := fun _ => False) (fun k _ hk => hk.elim)) (HA15.out.mono (T := fun _ => False) (fun k _ hk => hk.elim))).mono ?_
                rintro x w16 ⟨rfl, hb16⟩
                have HRm := Lib.hid (room_any (HR15.out.mv_below hb16).disk (hf := 100) (by rw [(HR15.out.mv_below hb16).n_]) (HR15.out.mv_below hb16).log (by have := HR15.out.ld.fit; omega))
                have HB16 := Lib.hid hb16
                clear hb16
                go_wp2_with fail
                refine HRm.out.mono ?_
                rintro x w17 ⟨rfl, hb17⟩
                have HB17 := Lib.hid (HB16.out.trans (hb17.mono HB16.out.size))
                have HRx := Lib.hid (room_any (HR15.out.mv_below HB17.out).disk (hf := 100) (by rw [(HR15.out.mv_below HB17.out).n_]) (by rw [← HDx.out]; exact LogAt.kept HX15.out (Kept.of_below (S := fun _ => False) HB17.out) (fun h => h)) (by have := HR15.out.ld.fit; omega))
                clear hb17
                go_wp2_with fail
                refine HRx.out.mono ?_
                rintro x w18 ⟨rfl, hb18⟩
                have hb := HB17.out.trans (hb18.mono HB17.out.size)
                have HEy := Lib.hid (epoch_any (HR15.out.mv_below hb).log)
                have HEx := Lib.hid (epoch_any (LogAt.kept HX15.out (Kept.of_below (S := fun _ => False) hb) (fun h => h)))
                have m18 := Mv.below hb F8 g8
                have hf18 := m18.blk HF15.out.1 HF15.out.2
                have x1 := hf18.1.cell 1
                have x2 := hf18.1.cell 2
                simp only [List.getElem?_toArray, List.getElem?_cons_zero, List.getElem?_cons_succ] at x1 x2
                have HZ := Lib.hid (And.intro (m18.lies HC15.out) (And.intro (HB15.out.mv m18) (HR15.out.mv_below hb)))
                clear hb18 hb m18 hf18
                go_wp2_with fail
                refine HEy.out.mono ?_
                rintro x w' ⟨rfl, rfl⟩
                go_wp2_with fail
                refine HEx.out.mono ?_
                rintro x w' ⟨rfl, rfl⟩
                go_wp2_with fail
                go_roundw
                case rel =>
                  obtain ⟨u1, u2, u3⟩ := HZ.out
                  exact ⟨j + 1, F8, D8, g8, _, _, _, _, s, ts, A7, c7, by omega, by omega, by go_num, rfl, rfl, by rw [HnT.out], by rw [HXe.out]; exact u1, u2, HD15.out, l8, u3, by omega, by rw [HnT.out]; omega⟩
                case measure => simp [intOf]; omega
              · have hn0i : ¬ ((nT : Int) = 0) := by omega
                go_wp2_with fail
                refine HO.out.mono ?_
                rintro x w14 ⟨g8, A8, c8, F8, D8, rfl, m8, hg8, r8, l8, hl8, k8, f8⟩
                have hf : Below w14.heap.size w14 (w14.alloc (.cells #[.int .u64 (e : Int), .string (ba s), .slice A8 nT c8] 39)) := (Below.refl _ w14).alloc (Nat.le_refl _) _
                have kx : LogAt w14 g7 F7.d _ _ _ false := LogAt.kept HR13.out.log k8 (LogAt.off HR13.out.log HR13.out.disk)
                have mf := Mv.below hf F8 g8
                have hfd := m8.blk HF13.out.1 HF13.out.2
                have HF15 := Lib.hid (mf.blk hfd.1 hfd.2)
                have HC15 := Lib.hid (mf.lies (m8.lies HC13.out))
                have HA15 := Lib.hid (mf.lies hl8)
                have HB15 := Lib.hid ((HB13.out.mv m8).mv mf)
                have HR15 := Lib.hid (r8.mv_below hf)
                have HX15 := Lib.hid (LogAt.kept kx (Kept.of_below (S := fun _ => False) hf) (fun h => h))
                have HD15 : Hid (F8.d = F.d) := m8.1.trans HD8.out
                have HDx : Hid (F7.d = F8.d) := m8.1.symm
                have x0 := HF15.out.1.cell 0
                have x1 := HF15.out.1.cell 1
                have x2 := HF15.out.1.cell 2
                simp only [List.getElem?_toArray, List.getElem?_cons_zero, List.getElem?_cons_succ] at x0 x1 x2
                clear m8 r8 hl8 k8 f8 hf kx mf hfd HF13 HC13 HB13 HR13 HO
                go_wp2_with fail
                generalize w14.alloc (.cells #[.int .u64 (e : Int), .string (ba s), .slice A8 nT c8] 39) = w15 at HF15 HC15 HA15 HB15 HR15 HX15 x0 x1 x2 ⊢
                refine (same_found w15 e (ba s) A7 A8 nT c7 c8 X hXl (by omega) (HC15.out.mono (T := fun _ => False) (fun k _ hk => hk.elim)) (HA15.out.mono (T := fun _ => False) (fun k _ hk => hk.elim))).mono ?_
                rintro x w16 ⟨rfl, hb16⟩
                have HRm := Lib.hid (room_any (HR15.out.mv_below hb16).disk (hf := 100) (by rw [(HR15.out.mv_below hb16).n_]) (HR15.out.mv_below hb16).log (by have := HR15.out.ld.fit; omega))
                have HB16 := Lib.hid hb16
                clear hb16
                go_wp2_with fail
                refine HRm.out.mono ?_
                rintro x w17 ⟨rfl, hb17⟩
                have HB17 := Lib.hid (HB16.out.trans (hb17.mono HB16.out.size))
                have HRx := Lib.hid (room_any (HR15.out.mv_below HB17.out).disk (hf := 100) (by rw [(HR15.out.mv_below HB17.out).n_]) (by rw [← HDx.out]; exact LogAt.kept HX15.out (Kept.of_below (S := fun _ => False) HB17.out) (fun h => h)) (by have := HR15.out.ld.fit; omega))
                clear hb17
                go_wp2_with fail
                refine HRx.out.mono ?_
                rintro x w18 ⟨rfl, hb18⟩
                have hb := HB17.out.trans (hb18.mono HB17.out.size)
                have HEy := Lib.hid (epoch_any (HR15.out.mv_below hb).log)
                have HEx := Lib.hid (epoch_any (LogAt.kept HX15.out (Kept.of_below (S := fun _ => False) hb) (fun h => h)))
                have m18 := Mv.below hb F8 g8
                have hf18 := m18.blk HF15.out.1 HF15.out.2
                have x1 := hf18.1.cell 1
                have x2 := hf18.1.cell 2
                simp only [List.getElem?_toArray, List.getElem?_cons_zero, List.getElem?_cons_succ] at x1 x2
                have HZ := Lib.hid (And.intro (m18.lies HC15.out) (And.intro (HB15.out.mv m18) (HR15.out.mv_below hb)))
                clear hb18 hb m18 hf18
                go_wp2_with fail
                refine HEy.out.mono ?_
                rintro x w' ⟨rfl, rfl⟩
                go_wp2_with fail
                refine HEx.out.mono ?_
                rintro x w' ⟨rfl, rfl⟩
                go_wp2_with fail
                go_roundw
                case rel =>
                  obtain ⟨u1, u2, u3⟩ := HZ.out
                  exact ⟨j + 1, F8, D8, g8, _, _, _, _, s, ts, A7, c7, by omega, by omega, by go_num, rfl, rfl, by rw [HnT.out], by rw [HXe.out]; exact u1, u2, HD15.out, l8, u3, by omega, by rw [HnT.out]; omega⟩
                case measure => simp [intOf]; omega
        · have HLo5 := Lib.hid lo
          clear lo
          as_aux_lemma =>
            have HO := Lib.hid (run_open HB5.out HCr5.out HLo5.out)
            unfold OpP at HO
            rw [HD5.out, ba_back, List.length_nil, List.map_nil] at HO
            refine HO.out.mono ?_
            rintro x w7 ⟨g7, A7, c7, F7, D7, rfl, m7, hg7, r7, l7, hl7, k7, f7⟩
            have hob7 := m7.blk HO5.out.1 HO5.out.2
            have hhad7 := m7.lies HH5.out
            have b7 := HB5.out.mv m7
            have hf : Below w7.heap.size w7 (w7.alloc (.cells #[.int .u64 (e1 : Int), .string t, .slice A7 0 c7] 39)) := (Below.refl _ w7).alloc (Nat.le_refl _) _
            have kf := Blk.new w7 39 #[.int .u64 (e1 : Int), .string t, .slice A7 0 c7]
            have mf := Mv.below hf F7 g7
            have hoF : ¬ (F7.has w7.heap.size ∨ w7.heap.size = g7) := fun hx => by
              rcases hx with h | h
              · have := Foot.has_lt r7.disk _ h; omega
              · have := Blk.lt r7.log; omega
            have HF8 := Lib.hid (And.intro kf hoF)
            have HO8 := Lib.hid (mf.blk hob7.1 hob7.2)
            have HH8 := Lib.hid (mf.lies hhad7)
            have HC8 := Lib.hid (mf.lies hl7)
            have HB8 := Lib.hid (b7.mv mf)
            have HR8 := Lib.hid (r7.mv_below hf)
            have HD8 : Hid (F7.d = F.d) := m7.1.trans HD5.out
            have HSz := Lib.hid hf.size
            clear m7 r7 hl7 k7 f7 hob7 hhad7 b7 kf mf hoF hf HO HB5 HCr5 HLo5 HH5 HO5 HD5
            cases hcm : (t.toList == (ba s).toList) with
            | false =>
              obtain ⟨A4, c4, v4, A6, c6, v6, hr4, hr6, hl6, hb6⟩ := more_row (w7.alloc (.cells #[.int .u64 (e1 : Int), .string t, .slice A7 0 c7] 39)) A c nT X hXl (by omega) (HH8.out.mono (T := fun _ => False) (fun k _ hk => hk.elim)) t
              have hsz8 : (w7.alloc (.cells #[.int .u64 (e1 : Int), .string t, .slice A7 0 c7] 39)).heap.size = w7.heap.size + 1 := by simp
              have m6 := Mv.below hb6 F7 g7
              have HF10 := Lib.hid (m6.blk HF8.out.1 HF8.out.2)
              have HO10 := Lib.hid (m6.blk HO8.out.1 HO8.out.2)
              have HC10 := Lib.hid (m6.lies HC8.out)
              have HM10 := Lib.hid hl6
              have HB10 := Lib.hid (HB8.out.mv m6)
              have HR10 := Lib.hid (HR8.out.mv_below hb6)
              have x0 := HF10.out.1.cell 0
              have x1 := HF10.out.1.cell 1
              have x2 := HF10.out.1.cell 2
              have z0 := HO10.out.1.cell 0
              simp only [List.getElem?_toArray, List.getElem?_cons_zero, List.getElem?_cons_succ] at x0 x1 x2 z0
              rw [hsz8] at hr4
              have HRA := Lib.hid hr4
              have HRB := Lib.hid hr6
              clear hr4 hr6 hl6 hb6 m6 HF8 HO8 HC8 HB8 HR8 HH8 hsz8 HSz
              generalize hq8 : w7.heap.size = q8 at HF10 hg7
              have HQ8 := Lib.hid hq8
              clear hq8
              go_wp2_with first
                | (at_builtin; refine wpList_append_run rfl (.tmp 92) (.tmp 93) 30 30 rfl _ _ _ rfl rfl HRA.out ?_; clear HRA)
                | (at_builtin; refine wpList_append_run rfl (.tmp 94) (.tmp 96) 30 30 rfl _ _ _ rfl rfl HRB.out ?_)
              have hb13 : Below v6.heap.size v6 v6 := Below.refl _ _
              rw [HQ8.out]
              have m13 := Mv.below hb13 F7 g7
              have HF13 := Lib.hid (m13.blk HF10.out.1 HF10.out.2)
              have HC13 := Lib.hid (m13.lies HC10.out)
              have ho13 := m13.blk HO10.out.1 HO10.out.2
              have b13 := HB10.out.mv m13
              have r13 := HR10.out.mv_below hb13
              have HO := Lib.hid (run_open b13 (r13.cr l7) r13.ld.open_)
              unfold OpP at HO
              rw [HD8.out, ba_back, List.length_nil, List.map_nil] at HO
              have x0 := HF13.out.1.cell 0
              have x1 := HF13.out.1.cell 1
              have x2 := HF13.out.1.cell 2
              have z0 := ho13.1.cell 0
              simp only [List.getElem?_toArray, List.getElem?_cons_zero, List.getElem?_cons_succ] at x0 x1 x2 z0
              have HB13 := Lib.hid b13
              have HR13 := Lib.hid r13
              clear hb13 m13 ho13 b13 r13 HF10 HO10 HC10 HB10 HR10 HM10
              go_wp2_with fail
              refine HO.out.mono ?_
              rintro x w14 ⟨g8, A8, c8, F8, D8, rfl, m8, hg8, r8, l8, hl8, k8, f8⟩
              have hf : Below w14.heap.size w14 (w14.alloc (.cells #[.int .u64 (e1 : Int), .string t, .slice A8 0 c8] 39)) := (Below.refl _ w14).alloc (Nat.le_refl _) _
              have kx : LogAt w14 g7 F7.d _ _ _ false := LogAt.kept HR13.out.log k8 (LogAt.off HR13.out.log HR13.out.disk)
              have mf := Mv.below hf F8 g8
              have hfd := m8.blk HF13.out.1 HF13.out.2
              have HF15 := Lib.hid (mf.blk hfd.1 hfd.2)
              have HC15 := Lib.hid (mf.lies (m8.lies HC13.out))
              have HA15 := Lib.hid (mf.lies hl8)
              have HB15 := Lib.hid ((HB13.out.mv m8).mv mf)
              have HR15 := Lib.hid (r8.mv_below hf)
              have HX15 := Lib.hid (LogAt.kept kx (Kept.of_below (S := fun _ => False) hf) (fun h => h))
              have HD15 : Hid (F8.d = F.d) := m8.1.trans HD8.out
              have HDx : Hid (F7.d = F8.d) := m8.1.symm
              have x0 := HF15.out.1.cell 0
              have x1 := HF15.out.1.cell 1
              have x2 := HF15.out.1.cell 2
              simp only [List.getElem?_toArray, List.getElem?_cons_zero, List.getElem?_cons_succ] at x0 x1 x2
              clear m8 r8 hl8 k8 f8 hf kx mf hfd HF13 HC13 HB13 HR13 HO
              go_wp2_with fail
              generalize w14.alloc (.cells #[.int .u64 (e1 : Int), .string t, .slice A8 0 c8] 39) = w15 at HF15 HC15 HA15 HB15 HR15 HX15 x0 x1 x2 ⊢
              refine (same_found w15 e1 t A7 A8 0 c7 c8 [] rfl (by omega) (HC15.out.mono (T := fun _ => False) (fun k _ hk => hk.elim)) (HA15.out.mono (T := fun _ => False) (fun k _ hk => hk.elim))).mono ?_
              rintro x w16 ⟨rfl, hb16⟩
              have HRm := Lib.hid (room_any (HR15.out.mv_below hb16).disk (hf := 100) (by rw [(HR15.out.mv_below hb16).n_]) (HR15.out.mv_below hb16).log (by have := HR15.out.ld.fit; omega))
              have HB16 := Lib.hid hb16
              clear hb16
              go_wp2_with fail
              refine HRm.out.mono ?_
              rintro x w17 ⟨rfl, hb17⟩
              have HB17 := Lib.hid (HB16.out.trans (hb17.mono HB16.out.size))
              have HRx := Lib.hid (room_any (HR15.out.mv_below HB17.out).disk (hf := 100) (by rw [(HR15.out.mv_below HB17.out).n_]) (by rw [← HDx.out]; exact LogAt.kept HX15.out (Kept.of_below (S := fun _ => False) HB17.out) (fun h => h)) (by have := HR15.out.ld.fit; omega))
              clear hb17
              go_wp2_with fail
              refine HRx.out.mono ?_
              rintro x w18 ⟨rfl, hb18⟩
              have hb := HB17.out.trans (hb18.mono HB17.out.size)
              have HEy := Lib.hid (epoch_any (HR15.out.mv_below hb).log)
              have HEx := Lib.hid (epoch_any (LogAt.kept HX15.out (Kept.of_below (S := fun _ => False) hb) (fun h => h)))
              have m18 := Mv.below hb F8 g8
              have hf18 := m18.blk HF15.out.1 HF15.out.2
              have x1 := hf18.1.cell 1
              have x2 := hf18.1.cell 2
              simp only [List.getElem?_toArray, List.getElem?_cons_zero, List.getElem?_cons_succ] at x1 x2
              have HZ := Lib.hid (And.intro (m18.lies HC15.out) (And.intro (HB15.out.mv m18) (HR15.out.mv_below hb)))
              clear hb18 hb m18 hf18
              go_wp2_with fail
              refine HEy.out.mono ?_
              rintro x w' ⟨rfl, rfl⟩
              go_wp2_with fail
              refine HEx.out.mono ?_
              rintro x w' ⟨rfl, rfl⟩
              go_wp2_with fail
              go_roundw
              case rel =>
                obtain ⟨u1, u2, u3⟩ := HZ.out
                exact ⟨j + 1, F8, D8, g8, _, _, _, _, t.data.toList, [], A7, c7, by omega, by omega, by go_num, rfl, by rw [ba_back], rfl, u1, u2, HD15.out, l8, u3, by omega, Nat.zero_le _⟩
              case measure => simp [intOf]; omega
            | true =>
              go_wp2_with fail
              generalize w7.alloc (.cells #[.int .u64 (e1 : Int), .string t, .slice A7 0 c7] 39) = w8 at HF8 HO8 HH8 HC8 HB8 HR8 HSz ⊢
              generalize w7.heap.size = q8 at HF8 hg7 HSz ⊢
              refine (same_w _ A7 A c7 c 0 nT [] X rfl hXl (by omega) (by omega) ((HC8.out.mono (T := fun _ => False) (fun k _ hk => hk.elim))) ((HH8.out.mono (T := fun _ => False) (fun k _ hk => hk.elim)))).mono ?_
              rintro x w9 ⟨rfl, hb9⟩
              generalize decide (([] : List ByteArray) = X) = bq
              have m9 := Mv.below hb9 F7 g7
              have HF9 := Lib.hid (m9.blk HF8.out.1 HF8.out.2)
              have HO9 := Lib.hid (m9.blk HO8.out.1 HO8.out.2)
              have HH9 := Lib.hid (m9.lies HH8.out)
              have HC9 := Lib.hid (m9.lies HC8.out)
              have HB9 := Lib.hid (HB8.out.mv m9)
              have HR9 := Lib.hid (HR8.out.mv_below hb9)
              clear hb9 m9 HF8 HO8 HH8 HC8 HB8 HR8
              obtain ⟨A4, c4, v4, A6, c6, v6, hr4, hr6, hl6, hb6⟩ := more_row w9 A c nT X hXl (by omega) (HH9.out.mono (T := fun _ => False) (fun k _ hk => hk.elim)) t
              have HRA := Lib.hid hr4
              have HRB := Lib.hid hr6
              have m6 := Mv.below hb6 F7 g7
              have HF10 := Lib.hid (m6.blk HF9.out.1 HF9.out.2)
              have HO10 := Lib.hid (m6.blk HO9.out.1 HO9.out.2)
              have HC10 := Lib.hid (m6.lies HC9.out)
              have HM10 := Lib.hid hl6
              have HB10 := Lib.hid (HB9.out.mv m6)
              have HR10 := Lib.hid (HR9.out.mv_below hb6)
              have x0 := HF10.out.1.cell 0
              have x1 := HF10.out.1.cell 1
              have x2 := HF10.out.1.cell 2
              simp only [List.getElem?_toArray, List.getElem?_cons_zero, List.getElem?_cons_succ] at x0 x1 x2
              clear hr4 hr6 hl6 hb6 m6 HF9 HO9 HC9 HB9 HR9 HH9
              cases bq
              all_goals
                go_wp2_with first
                  | (at_builtin; refine wpList_append_run rfl (.tmp 92) (.tmp 93) 30 30 rfl _ _ _ rfl rfl HRA.out ?_; clear HRA)
                  | (at_builtin; refine wpList_append_run rfl (.tmp 94) (.tmp 96) 30 30 rfl _ _ _ rfl rfl HRB.out ?_)
                refine (same_w _ A7 A6 c7 c6 0 (nT + 1) [] (X ++ [t]) rfl (by rw [List.length_append, hXl]; rfl) (by omega) (by omega) ((HC10.out.mono (T := fun _ => False) (fun k _ hk => hk.elim))) HM10.out).mono ?_
                rintro x w13 ⟨rfl, hb13⟩
                rw [decide_eq_false (show ¬ (([] : List ByteArray) = X ++ [t]) from fun h => by simp at h)]
                have m13 := Mv.below hb13 F7 g7
                have HF13 := Lib.hid (m13.blk HF10.out.1 HF10.out.2)
                have HC13 := Lib.hid (m13.lies HC10.out)
                have ho13 := m13.blk HO10.out.1 HO10.out.2
                have b13 := HB10.out.mv m13
                have r13 := HR10.out.mv_below hb13
                have HO := Lib.hid (run_open b13 (r13.cr l7) r13.ld.open_)
                unfold OpP at HO
                rw [HD8.out, ba_back, List.length_nil, List.map_nil] at HO
                have x0 := HF13.out.1.cell 0
                have x1 := HF13.out.1.cell 1
                have x2 := HF13.out.1.cell 2
                have z0 := ho13.1.cell 0
                simp only [List.getElem?_toArray, List.getElem?_cons_zero, List.getElem?_cons_succ] at x0 x1 x2 z0
                have HB13 := Lib.hid b13
                have HR13 := Lib.hid r13
                clear hb13 m13 ho13 b13 r13 HF10 HO10 HC10 HB10 HR10 HM10
                go_wp2_with fail
                refine HO.out.mono ?_
                rintro x w14 ⟨g8, A8, c8, F8, D8, rfl, m8, hg8, r8, l8, hl8, k8, f8⟩
                have hf : Below w14.heap.size w14 (w14.alloc (.cells #[.int .u64 (e1 : Int), .string t, .slice A8 0 c8] 39)) := (Below.refl _ w14).alloc (Nat.le_refl _) _
                have kx : LogAt w14 g7 F7.d _ _ _ false := LogAt.kept HR13.out.log k8 (LogAt.off HR13.out.log HR13.out.disk)
                have mf := Mv.below hf F8 g8
                have hfd := m8.blk HF13.out.1 HF13.out.2
                have HF15 := Lib.hid (mf.blk hfd.1 hfd.2)
                have HC15 := Lib.hid (mf.lies (m8.lies HC13.out))
                have HA15 := Lib.hid (mf.lies hl8)
                have HB15 := Lib.hid ((HB13.out.mv m8).mv mf)
                have HR15 := Lib.hid (r8.mv_below hf)
                have HX15 := Lib.hid (LogAt.kept kx (Kept.of_below (S := fun _ => False) hf) (fun h => h))
                have HD15 : Hid (F8.d = F.d) := m8.1.trans HD8.out
                have HDx : Hid (F7.d = F8.d) := m8.1.symm
                have x0 := HF15.out.1.cell 0
                have x1 := HF15.out.1.cell 1
                have x2 := HF15.out.1.cell 2
                simp only [List.getElem?_toArray, List.getElem?_cons_zero, List.getElem?_cons_succ] at x0 x1 x2
                clear m8 r8 hl8 k8 f8 hf kx mf hfd HF13 HC13 HB13 HR13 HO
                go_wp2_with fail
                generalize w14.alloc (.cells #[.int .u64 (e1 : Int), .string t, .slice A8 0 c8] 39) = w15 at HF15 HC15 HA15 HB15 HR15 HX15 x0 x1 x2 ⊢
                refine (same_found w15 e1 t A7 A8 0 c7 c8 [] rfl (by omega) (HC15.out.mono (T := fun _ => False) (fun k _ hk => hk.elim)) (HA15.out.mono (T := fun _ => False) (fun k _ hk => hk.elim))).mono ?_
                rintro x w16 ⟨rfl, hb16⟩
                have HRm := Lib.hid (room_any (HR15.out.mv_below hb16).disk (hf := 100) (by rw [(HR15.out.mv_below hb16).n_]) (HR15.out.mv_below hb16).log (by have := HR15.out.ld.fit; omega))
                have HB16 := Lib.hid hb16
                clear hb16
                go_wp2_with fail
                refine HRm.out.mono ?_
                rintro x w17 ⟨rfl, hb17⟩
                have HB17 := Lib.hid (HB16.out.trans (hb17.mono HB16.out.size))
                have HRx := Lib.hid (room_any (HR15.out.mv_below HB17.out).disk (hf := 100) (by rw [(HR15.out.mv_below HB17.out).n_]) (by rw [← HDx.out]; exact LogAt.kept HX15.out (Kept.of_below (S := fun _ => False) HB17.out) (fun h => h)) (by have := HR15.out.ld.fit; omega))
                clear hb17
                go_wp2_with fail
                refine HRx.out.mono ?_
                rintro x w18 ⟨rfl, hb18⟩
                have hb := HB17.out.trans (hb18.mono HB17.out.size)
                have HEy := Lib.hid (epoch_any (HR15.out.mv_below hb).log)
                have HEx := Lib.hid (epoch_any (LogAt.kept HX15.out (Kept.of_below (S := fun _ => False) hb) (fun h => h)))
                have m18 := Mv.below hb F8 g8
                have hf18 := m18.blk HF15.out.1 HF15.out.2
                have x1 := hf18.1.cell 1
                have x2 := hf18.1.cell 2
                simp only [List.getElem?_toArray, List.getElem?_cons_zero, List.getElem?_cons_succ] at x1 x2
                have HZ := Lib.hid (And.intro (m18.lies HC15.out) (And.intro (HB15.out.mv m18) (HR15.out.mv_below hb)))
                clear hb18 hb m18 hf18
                go_wp2_with fail
                refine HEy.out.mono ?_
                rintro x w' ⟨rfl, rfl⟩
                go_wp2_with fail
                refine HEx.out.mono ?_
                rintro x w' ⟨rfl, rfl⟩
                go_wp2_with fail
                go_roundw
                case rel =>
                  obtain ⟨u1, u2, u3⟩ := HZ.out
                  exact ⟨j + 1, F8, D8, g8, _, _, _, _, t.data.toList, [], A7, c7, by omega, by omega, by go_num, rfl, by rw [ba_back], rfl, u1, u2, HD15.out, l8, u3, by omega, Nat.zero_le _⟩
                case measure => simp [intOf]; omega
        · have HLo5 := Lib.hid lo
          clear lo
          as_aux_lemma =>
            have HO := Lib.hid (run_open HB5.out HCr5.out HLo5.out)
            unfold OpP at HO
            rw [HD5.out, HXe.out, HnT.out] at HO
            refine HO.out.mono ?_
            rintro x w7 ⟨g7, A7, c7, F7, D7, rfl, m7, hg7, r7, l7, hl7, k7, f7⟩
            have hob7 := m7.blk HO5.out.1 HO5.out.2
            have hhad7 := m7.lies HH5.out
            have b7 := HB5.out.mv m7
            have hf : Below w7.heap.size w7 (w7.alloc (.cells #[.int .u64 (e : Int), .string (ba s), .slice A7 nT c7] 39)) := (Below.refl _ w7).alloc (Nat.le_refl _) _
            have kf := Blk.new w7 39 #[.int .u64 (e : Int), .string (ba s), .slice A7 nT c7]
            have mf := Mv.below hf F7 g7
            have hoF : ¬ (F7.has w7.heap.size ∨ w7.heap.size = g7) := fun hx => by
              rcases hx with h | h
              · have := Foot.has_lt r7.disk _ h; omega
              · have := Blk.lt r7.log; omega
            have HF8 := Lib.hid (And.intro kf hoF)
            have HO8 := Lib.hid (mf.blk hob7.1 hob7.2)
            have HH8 := Lib.hid (mf.lies hhad7)
            have HC8 := Lib.hid (mf.lies hl7)
            have HB8 := Lib.hid (b7.mv mf)
            have HR8 := Lib.hid (r7.mv_below hf)
            have HD8 : Hid (F7.d = F.d) := m7.1.trans HD5.out
            have HSz := Lib.hid hf.size
            clear m7 r7 hl7 k7 f7 hob7 hhad7 b7 kf mf hoF hf HO HB5 HCr5 HLo5 HH5 HO5 HD5
            go_wp2_with fail
            generalize w7.alloc (.cells #[.int .u64 (e : Int), .string (ba s), .slice A7 nT c7] 39) = w8 at HF8 HO8 HH8 HC8 HB8 HR8 HSz ⊢
            generalize w7.heap.size = q8 at HF8 hg7 HSz ⊢
            refine (same_w _ A7 A c7 c nT nT X X hXl hXl (by omega) (by omega) ((HC8.out.mono (T := fun _ => False) (fun k _ hk => hk.elim))) ((HH8.out.mono (T := fun _ => False) (fun k _ hk => hk.elim)))).mono ?_
            rintro x w9 ⟨rfl, hb9⟩
            rw [decide_eq_true rfl]
            have m9 := Mv.below hb9 F7 g7
            have HF9 := Lib.hid (m9.blk HF8.out.1 HF8.out.2)
            have HO9 := Lib.hid (m9.blk HO8.out.1 HO8.out.2)
            have HH9 := Lib.hid (m9.lies HH8.out)
            have HC9 := Lib.hid (m9.lies HC8.out)
            have HB9 := Lib.hid (HB8.out.mv m9)
            have HR9 := Lib.hid (HR8.out.mv_below hb9)
            clear hb9 m9 HF8 HO8 HH8 HC8 HB8 HR8
            obtain ⟨A4, c4, v4, A6, c6, v6, hr4, hr6, hl6, hb6⟩ := more_row w9 A c nT X hXl (by omega) (HH9.out.mono (T := fun _ => False) (fun k _ hk => hk.elim)) t
            have HRA := Lib.hid hr4
            have HRB := Lib.hid hr6
            have m6 := Mv.below hb6 F7 g7
            have HF10 := Lib.hid (m6.blk HF9.out.1 HF9.out.2)
            have HO10 := Lib.hid (m6.blk HO9.out.1 HO9.out.2)
            have HC10 := Lib.hid (m6.lies HC9.out)
            have HM10 := Lib.hid hl6
            have HB10 := Lib.hid (HB9.out.mv m6)
            have HR10 := Lib.hid (HR9.out.mv_below hb6)
            have x0 := HF10.out.1.cell 0
            have x1 := HF10.out.1.cell 1
            have x2 := HF10.out.1.cell 2
            simp only [List.getElem?_toArray, List.getElem?_cons_zero, List.getElem?_cons_succ] at x0 x1 x2
            clear hr4 hr6 hl6 hb6 m6 HF9 HO9 HC9 HB9 HR9 HH9
            go_wp2_with first
              | (at_builtin; refine wpList_append_run rfl (.tmp 92) (.tmp 93) 30 30 rfl _ _ _ rfl rfl HRA.out ?_; clear HRA)
              | (at_builtin; refine wpList_append_run rfl (.tmp 94) (.tmp 96) 30 30 rfl _ _ _ rfl rfl HRB.out ?_)
            refine (same_w _ A7 A6 c7 c6 nT (nT + 1) X (X ++ [t]) hXl (by rw [List.length_append, hXl]; rfl) (by omega) (by omega) ((HC10.out.mono (T := fun _ => False) (fun k _ hk => hk.elim))) HM10.out).mono ?_
            rintro x w13 ⟨rfl, hb13⟩
            rw [decide_eq_false (show ¬ (X = X ++ [t]) from fun h => by have := congrArg List.length h; simp at this)]
            have m13 := Mv.below hb13 F7 g7
            have HF13 := Lib.hid (m13.blk HF10.out.1 HF10.out.2)
            have HC13 := Lib.hid (m13.lies HC10.out)
            have ho13 := m13.blk HO10.out.1 HO10.out.2
            have b13 := HB10.out.mv m13
            have r13 := HR10.out.mv_below hb13
            have HO := Lib.hid (run_open b13 (r13.cr l7) r13.ld.open_)
            unfold OpP at HO
            rw [HD8.out, HXe.out, HnT.out] at HO
            have x0 := HF13.out.1.cell 0
            have x1 := HF13.out.1.cell 1
            have x2 := HF13.out.1.cell 2
            have z0 := ho13.1.cell 0
            simp only [List.getElem?_toArray, List.getElem?_cons_zero, List.getElem?_cons_succ] at x0 x1 x2 z0
            have HB13 := Lib.hid b13
            have HR13 := Lib.hid r13
            clear hb13 m13 ho13 b13 r13 HF10 HO10 HC10 HB10 HR10 HM10
            cases hcm : ((ba s).toList == t.toList) with
            | false =>
              go_wp2_with fail
              refine HO.out.mono ?_
              rintro x w14 ⟨g8, A8, c8, F8, D8, rfl, m8, hg8, r8, l8, hl8, k8, f8⟩
              have hf : Below w14.heap.size w14 (w14.alloc (.cells #[.int .u64 (e : Int), .string (ba s), .slice A8 nT c8] 39)) := (Below.refl _ w14).alloc (Nat.le_refl _) _
              have kx : LogAt w14 g7 F7.d _ _ _ false := LogAt.kept HR13.out.log k8 (LogAt.off HR13.out.log HR13.out.disk)
              have mf := Mv.below hf F8 g8
              have hfd := m8.blk HF13.out.1 HF13.out.2
              have HF15 := Lib.hid (mf.blk hfd.1 hfd.2)
              have HC15 := Lib.hid (mf.lies (m8.lies HC13.out))
              have HA15 := Lib.hid (mf.lies hl8)
              have HB15 := Lib.hid ((HB13.out.mv m8).mv mf)
              have HR15 := Lib.hid (r8.mv_below hf)
              have HX15 := Lib.hid (LogAt.kept kx (Kept.of_below (S := fun _ => False) hf) (fun h => h))
              have HD15 : Hid (F8.d = F.d) := m8.1.trans HD8.out
              have HDx : Hid (F7.d = F8.d) := m8.1.symm
              have x0 := HF15.out.1.cell 0
              have x1 := HF15.out.1.cell 1
              have x2 := HF15.out.1.cell 2
              simp only [List.getElem?_toArray, List.getElem?_cons_zero, List.getElem?_cons_succ] at x0 x1 x2
              clear m8 r8 hl8 k8 f8 hf kx mf hfd HF13 HC13 HB13 HR13 HO
              go_wp2_with fail
              generalize w14.alloc (.cells #[.int .u64 (e : Int), .string (ba s), .slice A8 nT c8] 39) = w15 at HF15 HC15 HA15 HB15 HR15 HX15 x0 x1 x2 ⊢
              refine (same_found w15 e (ba s) A7 A8 nT c7 c8 X hXl (by omega) (HC15.out.mono (T := fun _ => False) (fun k _ hk => hk.elim)) (HA15.out.mono (T := fun _ => False) (fun k _ hk => hk.elim))).mono ?_
              rintro x w16 ⟨rfl, hb16⟩
              have HRm := Lib.hid (room_any (HR15.out.mv_below hb16).disk (hf := 100) (by rw [(HR15.out.mv_below hb16).n_]) (HR15.out.mv_below hb16).log (by have := HR15.out.ld.fit; omega))
              have HB16 := Lib.hid hb16
              clear hb16
              go_wp2_with fail
              refine HRm.out.mono ?_
              rintro x w17 ⟨rfl, hb17⟩
              have HB17 := Lib.hid (HB16.out.trans (hb17.mono HB16.out.size))
              have HRx := Lib.hid (room_any (HR15.out.mv_below HB17.out).disk (hf := 100) (by rw [(HR15.out.mv_below HB17.out).n_]) (by rw [← HDx.out]; exact LogAt.kept HX15.out (Kept.of_below (S := fun _ => False) HB17.out) (fun h => h)) (by have := HR15.out.ld.fit; omega))
              clear hb17
              go_wp2_with fail
              refine HRx.out.mono ?_
              rintro x w18 ⟨rfl, hb18⟩
              have hb := HB17.out.trans (hb18.mono HB17.out.size)
              have HEy := Lib.hid (epoch_any (HR15.out.mv_below hb).log)
              have HEx := Lib.hid (epoch_any (LogAt.kept HX15.out (Kept.of_below (S := fun _ => False) hb) (fun h => h)))
              have m18 := Mv.below hb F8 g8
              have hf18 := m18.blk HF15.out.1 HF15.out.2
              have x1 := hf18.1.cell 1
              have x2 := hf18.1.cell 2
              simp only [List.getElem?_toArray, List.getElem?_cons_zero, List.getElem?_cons_succ] at x1 x2
              have HZ := Lib.hid (And.intro (m18.lies HC15.out) (And.intro (HB15.out.mv m18) (HR15.out.mv_below hb)))
              clear hb18 hb m18 hf18
              go_wp2_with fail
              refine HEy.out.mono ?_
              rintro x w' ⟨rfl, rfl⟩
              go_wp2_with fail
              refine HEx.out.mono ?_
              rintro x w' ⟨rfl, rfl⟩
              go_wp2_with fail
              go_roundw
              case rel =>
                obtain ⟨u1, u2, u3⟩ := HZ.out
                exact ⟨j + 1, F8, D8, g8, _, _, _, _, s, ts, A7, c7, by omega, by omega, by go_num, rfl, rfl, by rw [HnT.out], by rw [HXe.out]; exact u1, u2, HD15.out, l8, u3, by omega, by rw [HnT.out]; omega⟩
              case measure => simp [intOf]; omega
            | true =>
              by_cases hn0 : nT = 0
              · subst hn0
                go_wp2_with fail
                refine HO.out.mono ?_
                rintro x w14 ⟨g8, A8, c8, F8, D8, rfl, m8, hg8, r8, l8, hl8, k8, f8⟩
                have hf : Below w14.heap.size w14 (w14.alloc (.cells #[.int .u64 (e : Int), .string (ba s), .slice A8 0 c8] 39)) := (Below.refl _ w14).alloc (Nat.le_refl _) _
                have kx : LogAt w14 g7 F7.d _ _ _ false := LogAt.kept HR13.out.log k8 (LogAt.off HR13.out.log HR13.out.disk)
                have mf := Mv.below hf F8 g8
                have hfd := m8.blk HF13.out.1 HF13.out.2
                have HF15 := Lib.hid (mf.blk hfd.1 hfd.2)
                have HC15 := Lib.hid (mf.lies (m8.lies HC13.out))
                have HA15 := Lib.hid (mf.lies hl8)
                have HB15 := Lib.hid ((HB13.out.mv m8).mv mf)
                have HR15 := Lib.hid (r8.mv_below hf)
                have HX15 := Lib.hid (LogAt.kept kx (Kept.of_below (S := fun _ => False) hf) (fun h => h))
                have HD15 : Hid (F8.d = F.d) := m8.1.trans HD8.out
                have HDx : Hid (F7.d = F8.d) := m8.1.symm
                have x0 := HF15.out.1.cell 0
                have x1 := HF15.out.1.cell 1
                have x2 := HF15.out.1.cell 2
                simp only [List.getElem?_toArray, List.getElem?_cons_zero, List.getElem?_cons_succ] at x0 x1 x2
                clear m8 r8 hl8 k8 f8 hf kx mf hfd HF13 HC13 HB13 HR13 HO
                go_wp2_with fail
                generalize w14.alloc (.cells #[.int .u64 (e : Int), .string (ba s), .slice A8 0 c8] 39) = w15 at HF15 HC15 HA15 HB15 HR15 HX15 x0 x1 x2 ⊢
                refine (same_found w15 e (ba s) A7 A8 0 c7 c8 X hXl (by omega) (HC15.out.mono (T := fun _ => False) (fun k _ hk => hk.elim)) (HA15.out.mono (T := fun _ => False) (fun k _ hk => hk.elim))).mono ?_
                rintro x w16 ⟨rfl, hb16⟩
                have HRm := Lib.hid (room_any (HR15.out.mv_below hb16).disk (hf := 100) (by rw [(HR15.out.mv_below hb16).n_]) (HR15.out.mv_below hb16).log (by have := HR15.out.ld.fit; omega))
                have HB16 := Lib.hid hb16
                clear hb16
                go_wp2_with fail
                refine HRm.out.mono ?_
                rintro x w17 ⟨rfl, hb17⟩
                have HB17 := Lib.hid (HB16.out.trans (hb17.mono HB16.out.size))
                have HRx := Lib.hid (room_any (HR15.out.mv_below HB17.out).disk (hf := 100) (by rw [(HR15.out.mv_below HB17.out).n_]) (by rw [← HDx.out]; exact LogAt.kept HX15.out (Kept.of_below (S := fun _ => False) HB17.out) (fun h => h)) (by have := HR15.out.ld.fit; omega))
                clear hb17
                go_wp2_with fail
                refine HRx.out.mono ?_
                rintro x w18 ⟨rfl, hb18⟩
                have hb := HB17.out.trans (hb18.mono HB17.out.size)
                have HEy := Lib.hid (epoch_any (HR15.out.mv_below hb).log)
                have HEx := Lib.hid (epoch_any (LogAt.kept HX15.out (Kept.of_below (S := fun _ => False) hb) (fun h => h)))
                have m18 := Mv.below hb F8 g8
                have hf18 := m18.blk HF15.out.1 HF15.out.2
                have x1 := hf18.1.cell 1
                have x2 := hf18.1.cell 2
                simp only [List.getElem?_toArray, List.getElem?_cons_zero, List.getElem?_cons_succ] at x1 x2
                have HZ := Lib.hid (And.intro (m18.lies HC15.out) (And.intro (HB15.out.mv m18) (HR15.out.mv_below hb)))
                clear hb18 hb m18 hf18
                go_wp2_with fail
                refine HEy.out.mono ?_
                rintro x w' ⟨rfl, rfl⟩
                go_wp2_with fail
                refine HEx.out.mono ?_
                rintro x w' ⟨rfl, rfl⟩
                go_wp2_with fail
                go_roundw
                case rel =>
                  obtain ⟨u1, u2, u3⟩ := HZ.out
                  exact ⟨j + 1, F8, D8, g8, _, _, _, _, s, ts, A7, c7, by omega, by omega, by go_num, rfl, rfl, by rw [HnT.out], by rw [HXe.out]; exact u1, u2, HD15.out, l8, u3, by omega, by rw [HnT.out]; omega⟩
                case measure => simp [intOf]; omega
              · have hn0i : ¬ ((nT : Int) = 0) := by omega
                go_wp2_with fail
                refine HO.out.mono ?_
                rintro x w14 ⟨g8, A8, c8, F8, D8, rfl, m8, hg8, r8, l8, hl8, k8, f8⟩
                have hf : Below w14.heap.size w14 (w14.alloc (.cells #[.int .u64 (e : Int), .string (ba s), .slice A8 nT c8] 39)) := (Below.refl _ w14).alloc (Nat.le_refl _) _
                have kx : LogAt w14 g7 F7.d _ _ _ false := LogAt.kept HR13.out.log k8 (LogAt.off HR13.out.log HR13.out.disk)
                have mf := Mv.below hf F8 g8
                have hfd := m8.blk HF13.out.1 HF13.out.2
                have HF15 := Lib.hid (mf.blk hfd.1 hfd.2)
                have HC15 := Lib.hid (mf.lies (m8.lies HC13.out))
                have HA15 := Lib.hid (mf.lies hl8)
                have HB15 := Lib.hid ((HB13.out.mv m8).mv mf)
                have HR15 := Lib.hid (r8.mv_below hf)
                have HX15 := Lib.hid (LogAt.kept kx (Kept.of_below (S := fun _ => False) hf) (fun h => h))
                have HD15 : Hid (F8.d = F.d) := m8.1.trans HD8.out
                have HDx : Hid (F7.d = F8.d) := m8.1.symm
                have x0 := HF15.out.1.cell 0
                have x1 := HF15.out.1.cell 1
                have x2 := HF15.out.1.cell 2
                simp only [List.getElem?_toArray, List.getElem?_cons_zero, List.getElem?_cons_succ] at x0 x1 x2
                clear m8 r8 hl8 k8 f8 hf kx mf hfd HF13 HC13 HB13 HR13 HO
                go_wp2_with fail
                generalize w14.alloc (.cells #[.int .u64 (e : Int), .string (ba s), .slice A8 nT c8] 39) = w15 at HF15 HC15 HA15 HB15 HR15 HX15 x0 x1 x2 ⊢
                refine (same_found w15 e (ba s) A7 A8 nT c7 c8 X hXl (by omega) (HC15.out.mono (T := fun _ => False) (fun k _ hk => hk.elim)) (HA15.out.mono (T := fun _ => False) (fun k _ hk => hk.elim))).mono ?_
                rintro x w16 ⟨rfl, hb16⟩
                have HRm := Lib.hid (room_any (HR15.out.mv_below hb16).disk (hf := 100) (by rw [(HR15.out.mv_below hb16).n_]) (HR15.out.mv_below hb16).log (by have := HR15.out.ld.fit; omega))
                have HB16 := Lib.hid hb16
                clear hb16
                go_wp2_with fail
                refine HRm.out.mono ?_
                rintro x w17 ⟨rfl, hb17⟩
                have HB17 := Lib.hid (HB16.out.trans (hb17.mono HB16.out.size))
                have HRx := Lib.hid (room_any (HR15.out.mv_below HB17.out).disk (hf := 100) (by rw [(HR15.out.mv_below HB17.out).n_]) (by rw [← HDx.out]; exact LogAt.kept HX15.out (Kept.of_below (S := fun _ => False) HB17.out) (fun h => h)) (by have := HR15.out.ld.fit; omega))
                clear hb17
                go_wp2_with fail
                refine HRx.out.mono ?_
                rintro x w18 ⟨rfl, hb18⟩
                have hb := HB17.out.trans (hb18.mono HB17.out.size)
                have HEy := Lib.hid (epoch_any (HR15.out.mv_below hb).log)
                have HEx := Lib.hid (epoch_any (LogAt.kept HX15.out (Kept.of_below (S := fun _ => False) hb) (fun h => h)))
                have m18 := Mv.below hb F8 g8
                have hf18 := m18.blk HF15.out.1 HF15.out.2
                have x1 := hf18.1.cell 1
                have x2 := hf18.1.cell 2
                simp only [List.getElem?_toArray, List.getElem?_cons_zero, List.getElem?_cons_succ] at x1 x2
                have HZ := Lib.hid (And.intro (m18.lies HC15.out) (And.intro (HB15.out.mv m18) (HR15.out.mv_below hb)))
                clear hb18 hb m18 hf18
                go_wp2_with fail
                refine HEy.out.mono ?_
                rintro x w' ⟨rfl, rfl⟩
                go_wp2_with fail
                refine HEx.out.mono ?_
                rintro x w' ⟨rfl, rfl⟩
                go_wp2_with fail
                go_roundw
                case rel =>
                  obtain ⟨u1, u2, u3⟩ := HZ.out
                  exact ⟨j + 1, F8, D8, g8, _, _, _, _, s, ts, A7, c7, by omega, by omega, by go_num, rfl, rfl, by rw [HnT.out], by rw [HXe.out]; exact u1, u2, HD15.out, l8, u3, by omega, by rw [HnT.out]; omega⟩
                case measure => simp [intOf]; omega
      | false =>
        have hkk : ¬ (bits .and .i64 kd 1 = 1) := by simpa using hk
        have HAp := Lib.hid (app_try HB3.out HR3.out t (by omega))
        go_wp2_with fail
        refine HAp.out.mono ?_
        rintro x w4 ⟨E, F4, D4, rfl, m4, aft⟩
        have hmap : (ts ++ [t.data.toList]).map ba = X ++ [t] := by rw [List.map_append, HXe.out]; simp [ba_back]
        have hlenT : (ts ++ [t.data.toList]).length = nT + 1 := by rw [List.length_append, HnT.out]; rfl
        have HB4 := Lib.hid (HB3.out.mv m4)
        have HH4 := Lib.hid (m4.lies HH3.out)
        have HO4 := Lib.hid (m4.blk HO3.out.1 HO3.out.2)
        have z1 := HO4.out.1.cell 1
        have z00 := HO4.out.1.cell 0
        simp only [List.getElem?_toArray, List.getElem?_cons_zero, List.getElem?_cons_succ] at z1 z00
        have HCr := Lib.hid (fun k h1 h2 => run_crash (g := g) aft k h1 h2)
        have HD4 : Hid (F4.d = F.d) := m4.1.trans hd
        rw [HD4.out] at HCr
        clear m4 aft z00
        go_wp2_with fail
        refine (HCr.out _ (and_in _ _).1 (and_in _ _).2).mono ?_
        rintro x w5 ⟨⟨kk, rfl⟩, F5, D5, l5, m5, cr5, hout⟩
        have HB5 := Lib.hid (HB4.out.mv m5)
        have HH5 := Lib.hid (m5.lies HH4.out)
        have HO5 := Lib.hid (m5.blk HO4.out.1 HO4.out.2)
        have HD5 : Hid (F5.d = F.d) := m5.1.trans HD4.out
        have HCr5 := Lib.hid cr5
        clear m5 cr5 HB4 HH4 HO4 HD4 HCr HB3 HH3 HO3 HR3
        go_wp2_with fail
        rcases hout with ⟨rfl, lo⟩ | ⟨rfl, lo | lo⟩ | ⟨hE0, hE18, lo⟩
        · have HLo5 := Lib.hid lo
          clear lo
          as_aux_lemma =>
            have HO := Lib.hid (run_open HB5.out HCr5.out HLo5.out)
            unfold OpP at HO
            rw [HD5.out, hmap, hlenT] at HO
            refine HO.out.mono ?_
            rintro x w7 ⟨g7, A7, c7, F7, D7, rfl, m7, hg7, r7, l7, hl7, k7, f7⟩
            have hob7 := m7.blk HO5.out.1 HO5.out.2
            have hhad7 := m7.lies HH5.out
            have b7 := HB5.out.mv m7
            have hf : Below w7.heap.size w7 (w7.alloc (.cells #[.int .u64 (e : Int), .string (ba s), .slice A7 (nT + 1) c7] 39)) := (Below.refl _ w7).alloc (Nat.le_refl _) _
            have kf := Blk.new w7 39 #[.int .u64 (e : Int), .string (ba s), .slice A7 (nT + 1) c7]
            have mf := Mv.below hf F7 g7
            have hoF : ¬ (F7.has w7.heap.size ∨ w7.heap.size = g7) := fun hx => by
              rcases hx with h | h
              · have := Foot.has_lt r7.disk _ h; omega
              · have := Blk.lt r7.log; omega
            have HF8 := Lib.hid (And.intro kf hoF)
            have HO8 := Lib.hid (mf.blk hob7.1 hob7.2)
            have HH8 := Lib.hid (mf.lies hhad7)
            have HC8 := Lib.hid (mf.lies hl7)
            have HB8 := Lib.hid (b7.mv mf)
            have HR8 := Lib.hid (r7.mv_below hf)
            have HD8 : Hid (F7.d = F.d) := m7.1.trans HD5.out
            have HSz := Lib.hid hf.size
            clear m7 r7 hl7 k7 f7 hob7 hhad7 b7 kf mf hoF hf HO HB5 HCr5 HLo5 HH5 HO5 HD5
            go_wp2_with fail
            generalize w7.alloc (.cells #[.int .u64 (e : Int), .string (ba s), .slice A7 (nT + 1) c7] 39) = w8 at HF8 HO8 HH8 HC8 HB8 HR8 HSz ⊢
            generalize w7.heap.size = q8 at HF8 hg7 HSz ⊢
            refine (same_w _ A7 A c7 c (nT + 1) nT (X ++ [t]) X (by rw [List.length_append, hXl]; rfl) hXl (by omega) (by omega) ((HC8.out.mono (T := fun _ => False) (fun k _ hk => hk.elim))) ((HH8.out.mono (T := fun _ => False) (fun k _ hk => hk.elim)))).mono ?_
            rintro x w9 ⟨rfl, hb9⟩
            rw [decide_eq_false (show ¬ (X ++ [t] = X) from fun h => by have := congrArg List.length h; simp at this)]
            have m9 := Mv.below hb9 F7 g7
            have HF9 := Lib.hid (m9.blk HF8.out.1 HF8.out.2)
            have HO9 := Lib.hid (m9.blk HO8.out.1 HO8.out.2)
            have HH9 := Lib.hid (m9.lies HH8.out)
            have HC9 := Lib.hid (m9.lies HC8.out)
            have HB9 := Lib.hid (HB8.out.mv m9)
            have HR9 := Lib.hid (HR8.out.mv_below hb9)
            clear hb9 m9 HF8 HO8 HH8 HC8 HB8 HR8
            obtain ⟨A4, c4, v4, A6, c6, v6, hr4, hr6, hl6, hb6⟩ := more_row w9 A c nT X hXl (by omega) (HH9.out.mono (T := fun _ => False) (fun k _ hk => hk.elim)) t
            have HRA := Lib.hid hr4
            have HRB := Lib.hid hr6
            have m6 := Mv.below hb6 F7 g7
            have HF10 := Lib.hid (m6.blk HF9.out.1 HF9.out.2)
            have HO10 := Lib.hid (m6.blk HO9.out.1 HO9.out.2)
            have HC10 := Lib.hid (m6.lies HC9.out)
            have HM10 := Lib.hid hl6
            have HB10 := Lib.hid (HB9.out.mv m6)
            have HR10 := Lib.hid (HR9.out.mv_below hb6)
            have x0 := HF10.out.1.cell 0
            have x1 := HF10.out.1.cell 1
            have x2 := HF10.out.1.cell 2
            simp only [List.getElem?_toArray, List.getElem?_cons_zero, List.getElem?_cons_succ] at x0 x1 x2
            clear hr4 hr6 hl6 hb6 m6 HF9 HO9 HC9 HB9 HR9 HH9
            go_wp2_with first
              | (at_builtin; refine wpList_append_run rfl (.tmp 92) (.tmp 93) 30 30 rfl _ _ _ rfl rfl HRA.out ?_; clear HRA)
              | (at_builtin; refine wpList_append_run rfl (.tmp 94) (.tmp 96) 30 30 rfl _ _ _ rfl rfl HRB.out ?_)
            refine (same_w _ A7 A6 c7 c6 (nT + 1) (nT + 1) (X ++ [t]) (X ++ [t]) (by rw [List.length_append, hXl]; rfl) (by rw [List.length_append, hXl]; rfl) (by omega) (by omega) ((HC10.out.mono (T := fun _ => False) (fun k _ hk => hk.elim))) HM10.out).mono ?_
            rintro x w13 ⟨rfl, hb13⟩
            rw [decide_eq_true rfl]
            have m13 := Mv.below hb13 F7 g7
            have HF13 := Lib.hid (m13.blk HF10.out.1 HF10.out.2)
            have HC13 := Lib.hid (m13.lies HC10.out)
            have ho13 := m13.blk HO10.out.1 HO10.out.2
            have b13 := HB10.out.mv m13
            have r13 := HR10.out.mv_below hb13
            have HO := Lib.hid (run_open b13 (r13.cr l7) r13.ld.open_)
            unfold OpP at HO
            rw [HD8.out, hmap, hlenT] at HO
            have x0 := HF13.out.1.cell 0
            have x1 := HF13.out.1.cell 1
            have x2 := HF13.out.1.cell 2
            have z0 := ho13.1.cell 0
            simp only [List.getElem?_toArray, List.getElem?_cons_zero, List.getElem?_cons_succ] at x0 x1 x2 z0
            have HB13 := Lib.hid b13
            have HR13 := Lib.hid r13
            clear hb13 m13 ho13 b13 r13 HF10 HO10 HC10 HB10 HR10 HM10
            go_wp2_with fail
            refine HO.out.mono ?_
            rintro x w14 ⟨g8, A8, c8, F8, D8, rfl, m8, hg8, r8, l8, hl8, k8, f8⟩
            have hf : Below w14.heap.size w14 (w14.alloc (.cells #[.int .u64 (e : Int), .string (ba s), .slice A8 (nT + 1) c8] 39)) := (Below.refl _ w14).alloc (Nat.le_refl _) _
            have kx : LogAt w14 g7 F7.d _ _ _ false := LogAt.kept HR13.out.log k8 (LogAt.off HR13.out.log HR13.out.disk)
            have mf := Mv.below hf F8 g8
            have hfd := m8.blk HF13.out.1 HF13.out.2
            have HF15 := Lib.hid (mf.blk hfd.1 hfd.2)
            have HC15 := Lib.hid (mf.lies (m8.lies HC13.out))
            have HA15 := Lib.hid (mf.lies hl8)
            have HB15 := Lib.hid ((HB13.out.mv m8).mv mf)
            have HR15 := Lib.hid (r8.mv_below hf)
            have HX15 := Lib.hid (LogAt.kept kx (Kept.of_below (S := fun _ => False) hf) (fun h => h))
            have HD15 : Hid (F8.d = F.d) := m8.1.trans HD8.out
            have HDx : Hid (F7.d = F8.d) := m8.1.symm
            have x0 := HF15.out.1.cell 0
            have x1 := HF15.out.1.cell 1
            have x2 := HF15.out.1.cell 2
            simp only [List.getElem?_toArray, List.getElem?_cons_zero, List.getElem?_cons_succ] at x0 x1 x2
            clear m8 r8 hl8 k8 f8 hf kx mf hfd HF13 HC13 HB13 HR13 HO
            go_wp2_with fail
            generalize w14.alloc (.cells #[.int .u64 (e : Int), .string (ba s), .slice A8 (nT + 1) c8] 39) = w15 at HF15 HC15 HA15 HB15 HR15 HX15 x0 x1 x2 ⊢
            refine (same_found w15 e (ba s) A7 A8 (nT + 1) c7 c8 (X ++ [t]) (by rw [List.length_append, hXl]; rfl) (by omega) (HC15.out.mono (T := fun _ => False) (fun k _ hk => hk.elim)) (HA15.out.mono (T := fun _ => False) (fun k _ hk => hk.elim))).mono ?_
            rintro x w16 ⟨rfl, hb16⟩
            have HRm := Lib.hid (room_any (HR15.out.mv_below hb16).disk (hf := 100) (by rw [(HR15.out.mv_below hb16).n_]) (HR15.out.mv_below hb16).log (by have := HR15.out.ld.fit; omega))
            have HB16 := Lib.hid hb16
            clear hb16
            go_wp2_with fail
            refine HRm.out.mono ?_
            rintro x w17 ⟨rfl, hb17⟩
            have HB17 := Lib.hid (HB16.out.trans (hb17.mono HB16.out.size))
            have HRx := Lib.hid (room_any (HR15.out.mv_below HB17.out).disk (hf := 100) (by rw [(HR15.out.mv_below HB17.out).n_]) (by rw [← HDx.out]; exact LogAt.kept HX15.out (Kept.of_below (S := fun _ => False) HB17.out) (fun h => h)) (by have := HR15.out.ld.fit; omega))
            clear hb17
            go_wp2_with fail
            refine HRx.out.mono ?_
            rintro x w18 ⟨rfl, hb18⟩
            have hb := HB17.out.trans (hb18.mono HB17.out.size)
            have HEy := Lib.hid (epoch_any (HR15.out.mv_below hb).log)
            have HEx := Lib.hid (epoch_any (LogAt.kept HX15.out (Kept.of_below (S := fun _ => False) hb) (fun h => h)))
            have m18 := Mv.below hb F8 g8
            have hf18 := m18.blk HF15.out.1 HF15.out.2
            have x1 := hf18.1.cell 1
            have x2 := hf18.1.cell 2
            simp only [List.getElem?_toArray, List.getElem?_cons_zero, List.getElem?_cons_succ] at x1 x2
            have HZ := Lib.hid (And.intro (m18.lies HC15.out) (And.intro (HB15.out.mv m18) (HR15.out.mv_below hb)))
            clear hb18 hb m18 hf18
            go_wp2_with fail
            refine HEy.out.mono ?_
            rintro x w' ⟨rfl, rfl⟩
            go_wp2_with fail
            refine HEx.out.mono ?_
            rintro x w' ⟨rfl, rfl⟩
            go_wp2_with fail
            go_roundw
            case rel =>
              obtain ⟨u1, u2, u3⟩ := HZ.out
              exact ⟨j + 1, F8, D8, g8, _, _, _, _, s, (ts ++ [t.data.toList]), A7, c7, by omega, by omega, by go_num, rfl, rfl, by rw [hlenT], by rw [hmap]; exact u1, u2, HD15.out, l8, u3, by omega, by rw [hlenT]; omega⟩
            case measure => simp [intOf]; omega
        · have HLo5 := Lib.hid lo
          clear lo
          as_aux_lemma =>
            have HO := Lib.hid (run_open HB5.out HCr5.out HLo5.out)
            unfold OpP at HO
            rw [HD5.out, HXe.out, HnT.out] at HO
            refine HO.out.mono ?_
            rintro x w7 ⟨g7, A7, c7, F7, D7, rfl, m7, hg7, r7, l7, hl7, k7, f7⟩
            have hob7 := m7.blk HO5.out.1 HO5.out.2
            have hhad7 := m7.lies HH5.out
            have b7 := HB5.out.mv m7
            have hf : Below w7.heap.size w7 (w7.alloc (.cells #[.int .u64 (e : Int), .string (ba s), .slice A7 nT c7] 39)) := (Below.refl _ w7).alloc (Nat.le_refl _) _
            have kf := Blk.new w7 39 #[.int .u64 (e : Int), .string (ba s), .slice A7 nT c7]
            have mf := Mv.below hf F7 g7
            have hoF : ¬ (F7.has w7.heap.size ∨ w7.heap.size = g7) := fun hx => by
              rcases hx with h | h
              · have := Foot.has_lt r7.disk _ h; omega
              · have := Blk.lt r7.log; omega
            have HF8 := Lib.hid (And.intro kf hoF)
            have HO8 := Lib.hid (mf.blk hob7.1 hob7.2)
            have HH8 := Lib.hid (mf.lies hhad7)
            have HC8 := Lib.hid (mf.lies hl7)
            have HB8 := Lib.hid (b7.mv mf)
            have HR8 := Lib.hid (r7.mv_below hf)
            have HD8 : Hid (F7.d = F.d) := m7.1.trans HD5.out
            have HSz := Lib.hid hf.size
            clear m7 r7 hl7 k7 f7 hob7 hhad7 b7 kf mf hoF hf HO HB5 HCr5 HLo5 HH5 HO5 HD5
            go_wp2_with fail
            generalize w7.alloc (.cells #[.int .u64 (e : Int), .string (ba s), .slice A7 nT c7] 39) = w8 at HF8 HO8 HH8 HC8 HB8 HR8 HSz ⊢
            generalize w7.heap.size = q8 at HF8 hg7 HSz ⊢
            refine (same_w _ A7 A c7 c nT nT X X hXl hXl (by omega) (by omega) ((HC8.out.mono (T := fun _ => False) (fun k _ hk => hk.elim))) ((HH8.out.mono (T := fun _ => False) (fun k _ hk => hk.elim)))).mono ?_
            rintro x w9 ⟨rfl, hb9⟩
            rw [decide_eq_true rfl]
            have m9 := Mv.below hb9 F7 g7
            have HF9 := Lib.hid (m9.blk HF8.out.1 HF8.out.2)
            have HO9 := Lib.hid (m9.blk HO8.out.1 HO8.out.2)
            have HH9 := Lib.hid (m9.lies HH8.out)
            have HC9 := Lib.hid (m9.lies HC8.out)
            have HB9 := Lib.hid (HB8.out.mv m9)
            have HR9 := Lib.hid (HR8.out.mv_below hb9)
            clear hb9 m9 HF8 HO8 HH8 HC8 HB8 HR8
            obtain ⟨A4, c4, v4, A6, c6, v6, hr4, hr6, hl6, hb6⟩ := more_row w9 A c nT X hXl (by omega) (HH9.out.mono (T := fun _ => False) (fun k _ hk => hk.elim)) t
            have HRA := Lib.hid hr4
            have HRB := Lib.hid hr6
            have m6 := Mv.below hb6 F7 g7
            have HF10 := Lib.hid (m6.blk HF9.out.1 HF9.out.2)
            have HO10 := Lib.hid (m6.blk HO9.out.1 HO9.out.2)
            have HC10 := Lib.hid (m6.lies HC9.out)
            have HM10 := Lib.hid hl6
            have HB10 := Lib.hid (HB9.out.mv m6)
            have HR10 := Lib.hid (HR9.out.mv_below hb6)
            have x0 := HF10.out.1.cell 0
            have x1 := HF10.out.1.cell 1
            have x2 := HF10.out.1.cell 2
            simp only [List.getElem?_toArray, List.getElem?_cons_zero, List.getElem?_cons_succ] at x0 x1 x2
            clear hr4 hr6 hl6 hb6 m6 HF9 HO9 HC9 HB9 HR9 HH9
            go_wp2_with first
              | (at_builtin; refine wpList_append_run rfl (.tmp 92) (.tmp 93) 30 30 rfl _ _ _ rfl rfl HRA.out ?_; clear HRA)
              | (at_builtin; refine wpList_append_run rfl (.tmp 94) (.tmp 96) 30 30 rfl _ _ _ rfl rfl HRB.out ?_)
            refine (same_w _ A7 A6 c7 c6 nT (nT + 1) X (X ++ [t]) hXl (by rw [List.length_append, hXl]; rfl) (by omega) (by omega) ((HC10.out.mono (T := fun _ => False) (fun k _ hk => hk.elim))) HM10.out).mono ?_
            rintro x w13 ⟨rfl, hb13⟩
            rw [decide_eq_false (show ¬ (X = X ++ [t]) from fun h => by have := congrArg List.length h; simp at this)]
            have m13 := Mv.below hb13 F7 g7
            have HF13 := Lib.hid (m13.blk HF10.out.1 HF10.out.2)
            have HC13 := Lib.hid (m13.lies HC10.out)
            have ho13 := m13.blk HO10.out.1 HO10.out.2
            have b13 := HB10.out.mv m13
            have r13 := HR10.out.mv_below hb13
            have HO := Lib.hid (run_open b13 (r13.cr l7) r13.ld.open_)
            unfold OpP at HO
            rw [HD8.out, HXe.out, HnT.out] at HO
            have x0 := HF13.out.1.cell 0
            have x1 := HF13.out.1.cell 1
            have x2 := HF13.out.1.cell 2
            have z0 := ho13.1.cell 0
            simp only [List.getElem?_toArray, List.getElem?_cons_zero, List.getElem?_cons_succ] at x0 x1 x2 z0
            have HB13 := Lib.hid b13
            have HR13 := Lib.hid r13
            clear hb13 m13 ho13 b13 r13 HF10 HO10 HC10 HB10 HR10 HM10
            go_wp2_with fail
            refine HO.out.mono ?_
            rintro x w14 ⟨g8, A8, c8, F8, D8, rfl, m8, hg8, r8, l8, hl8, k8, f8⟩
            have hf : Below w14.heap.size w14 (w14.alloc (.cells #[.int .u64 (e : Int), .string (ba s), .slice A8 nT c8] 39)) := (Below.refl _ w14).alloc (Nat.le_refl _) _
            have kx : LogAt w14 g7 F7.d _ _ _ false := LogAt.kept HR13.out.log k8 (LogAt.off HR13.out.log HR13.out.disk)
            have mf := Mv.below hf F8 g8
            have hfd := m8.blk HF13.out.1 HF13.out.2
            have HF15 := Lib.hid (mf.blk hfd.1 hfd.2)
            have HC15 := Lib.hid (mf.lies (m8.lies HC13.out))
            have HA15 := Lib.hid (mf.lies hl8)
            have HB15 := Lib.hid ((HB13.out.mv m8).mv mf)
            have HR15 := Lib.hid (r8.mv_below hf)
            have HX15 := Lib.hid (LogAt.kept kx (Kept.of_below (S := fun _ => False) hf) (fun h => h))
            have HD15 : Hid (F8.d = F.d) := m8.1.trans HD8.out
            have HDx : Hid (F7.d = F8.d) := m8.1.symm
            have x0 := HF15.out.1.cell 0
            have x1 := HF15.out.1.cell 1
            have x2 := HF15.out.1.cell 2
            simp only [List.getElem?_toArray, List.getElem?_cons_zero, List.getElem?_cons_succ] at x0 x1 x2
            clear m8 r8 hl8 k8 f8 hf kx mf hfd HF13 HC13 HB13 HR13 HO
            go_wp2_with fail
            generalize w14.alloc (.cells #[.int .u64 (e : Int), .string (ba s), .slice A8 nT c8] 39) = w15 at HF15 HC15 HA15 HB15 HR15 HX15 x0 x1 x2 ⊢
            refine (same_found w15 e (ba s) A7 A8 nT c7 c8 X hXl (by omega) (HC15.out.mono (T := fun _ => False) (fun k _ hk => hk.elim)) (HA15.out.mono (T := fun _ => False) (fun k _ hk => hk.elim))).mono ?_
            rintro x w16 ⟨rfl, hb16⟩
            have HRm := Lib.hid (room_any (HR15.out.mv_below hb16).disk (hf := 100) (by rw [(HR15.out.mv_below hb16).n_]) (HR15.out.mv_below hb16).log (by have := HR15.out.ld.fit; omega))
            have HB16 := Lib.hid hb16
            clear hb16
            go_wp2_with fail
            refine HRm.out.mono ?_
            rintro x w17 ⟨rfl, hb17⟩
            have HB17 := Lib.hid (HB16.out.trans (hb17.mono HB16.out.size))
            have HRx := Lib.hid (room_any (HR15.out.mv_below HB17.out).disk (hf := 100) (by rw [(HR15.out.mv_below HB17.out).n_]) (by rw [← HDx.out]; exact LogAt.kept HX15.out (Kept.of_below (S := fun _ => False) HB17.out) (fun h => h)) (by have := HR15.out.ld.fit; omega))
            clear hb17
            go_wp2_with fail
            refine HRx.out.mono ?_
            rintro x w18 ⟨rfl, hb18⟩
            have hb := HB17.out.trans (hb18.mono HB17.out.size)
            have HEy := Lib.hid (epoch_any (HR15.out.mv_below hb).log)
            have HEx := Lib.hid (epoch_any (LogAt.kept HX15.out (Kept.of_below (S := fun _ => False) hb) (fun h => h)))
            have m18 := Mv.below hb F8 g8
            have hf18 := m18.blk HF15.out.1 HF15.out.2
            have x1 := hf18.1.cell 1
            have x2 := hf18.1.cell 2
            simp only [List.getElem?_toArray, List.getElem?_cons_zero, List.getElem?_cons_succ] at x1 x2
            have HZ := Lib.hid (And.intro (m18.lies HC15.out) (And.intro (HB15.out.mv m18) (HR15.out.mv_below hb)))
            clear hb18 hb m18 hf18
            go_wp2_with fail
            refine HEy.out.mono ?_
            rintro x w' ⟨rfl, rfl⟩
            go_wp2_with fail
            refine HEx.out.mono ?_
            rintro x w' ⟨rfl, rfl⟩
            go_wp2_with fail
            go_roundw
            case rel =>
              obtain ⟨u1, u2, u3⟩ := HZ.out
              exact ⟨j + 1, F8, D8, g8, _, _, _, _, s, ts, A7, c7, by omega, by omega, by go_num, rfl, rfl, by rw [HnT.out], by rw [HXe.out]; exact u1, u2, HD15.out, l8, u3, by omega, by rw [HnT.out]; omega⟩
            case measure => simp [intOf]; omega
        · have HLo5 := Lib.hid lo
          clear lo
          as_aux_lemma =>
            have HO := Lib.hid (run_open HB5.out HCr5.out HLo5.out)
            unfold OpP at HO
            rw [HD5.out, hmap, hlenT] at HO
            refine HO.out.mono ?_
            rintro x w7 ⟨g7, A7, c7, F7, D7, rfl, m7, hg7, r7, l7, hl7, k7, f7⟩
            have hob7 := m7.blk HO5.out.1 HO5.out.2
            have hhad7 := m7.lies HH5.out
            have b7 := HB5.out.mv m7
            have hf : Below w7.heap.size w7 (w7.alloc (.cells #[.int .u64 (e : Int), .string (ba s), .slice A7 (nT + 1) c7] 39)) := (Below.refl _ w7).alloc (Nat.le_refl _) _
            have kf := Blk.new w7 39 #[.int .u64 (e : Int), .string (ba s), .slice A7 (nT + 1) c7]
            have mf := Mv.below hf F7 g7
            have hoF : ¬ (F7.has w7.heap.size ∨ w7.heap.size = g7) := fun hx => by
              rcases hx with h | h
              · have := Foot.has_lt r7.disk _ h; omega
              · have := Blk.lt r7.log; omega
            have HF8 := Lib.hid (And.intro kf hoF)
            have HO8 := Lib.hid (mf.blk hob7.1 hob7.2)
            have HH8 := Lib.hid (mf.lies hhad7)
            have HC8 := Lib.hid (mf.lies hl7)
            have HB8 := Lib.hid (b7.mv mf)
            have HR8 := Lib.hid (r7.mv_below hf)
            have HD8 : Hid (F7.d = F.d) := m7.1.trans HD5.out
            have HSz := Lib.hid hf.size
            clear m7 r7 hl7 k7 f7 hob7 hhad7 b7 kf mf hoF hf HO HB5 HCr5 HLo5 HH5 HO5 HD5
            go_wp2_with fail
            generalize w7.alloc (.cells #[.int .u64 (e : Int), .string (ba s), .slice A7 (nT + 1) c7] 39) = w8 at HF8 HO8 HH8 HC8 HB8 HR8 HSz ⊢
            generalize w7.heap.size = q8 at HF8 hg7 HSz ⊢
            refine (same_w _ A7 A c7 c (nT + 1) nT (X ++ [t]) X (by rw [List.length_append, hXl]; rfl) hXl (by omega) (by omega) ((HC8.out.mono (T := fun _ => False) (fun k _ hk => hk.elim))) ((HH8.out.mono (T := fun _ => False) (fun k _ hk => hk.elim)))).mono ?_
            rintro x w9 ⟨rfl, hb9⟩
            rw [decide_eq_false (show ¬ (X ++ [t] = X) from fun h => by have := congrArg List.length h; simp at this)]
            have m9 := Mv.below hb9 F7 g7
            have HF9 := Lib.hid (m9.blk HF8.out.1 HF8.out.2)
            have HO9 := Lib.hid (m9.blk HO8.out.1 HO8.out.2)
            have HH9 := Lib.hid (m9.lies HH8.out)
            have HC9 := Lib.hid (m9.lies HC8.out)
            have HB9 := Lib.hid (HB8.out.mv m9)
            have HR9 := Lib.hid (HR8.out.mv_below hb9)
            clear hb9 m9 HF8 HO8 HH8 HC8 HB8 HR8
            obtain ⟨A4, c4, v4, A6, c6, v6, hr4, hr6, hl6, hb6⟩ := more_row w9 A c nT X hXl (by omega) (HH9.out.mono (T := fun _ => False) (fun k _ hk => hk.elim)) t
            have HRA := Lib.hid hr4
            have HRB := Lib.hid hr6
            have m6 := Mv.below hb6 F7 g7
            have HF10 := Lib.hid (m6.blk HF9.out.1 HF9.out.2)
            have HO10 := Lib.hid (m6.blk HO9.out.1 HO9.out.2)
            have HC10 := Lib.hid (m6.lies HC9.out)
            have HM10 := Lib.hid hl6
            have HB10 := Lib.hid (HB9.out.mv m6)
            have HR10 := Lib.hid (HR9.out.mv_below hb6)
            have x0 := HF10.out.1.cell 0
            have x1 := HF10.out.1.cell 1
            have x2 := HF10.out.1.cell 2
            simp only [List.getElem?_toArray, List.getElem?_cons_zero, List.getElem?_cons_succ] at x0 x1 x2
            clear hr4 hr6 hl6 hb6 m6 HF9 HO9 HC9 HB9 HR9 HH9
            go_wp2_with first
              | (at_builtin; refine wpList_append_run rfl (.tmp 92) (.tmp 93) 30 30 rfl _ _ _ rfl rfl HRA.out ?_; clear HRA)
              | (at_builtin; refine wpList_append_run rfl (.tmp 94) (.tmp 96) 30 30 rfl _ _ _ rfl rfl HRB.out ?_)
            refine (same_w _ A7 A6 c7 c6 (nT + 1) (nT + 1) (X ++ [t]) (X ++ [t]) (by rw [List.length_append, hXl]; rfl) (by rw [List.length_append, hXl]; rfl) (by omega) (by omega) ((HC10.out.mono (T := fun _ => False) (fun k _ hk => hk.elim))) HM10.out).mono ?_
            rintro x w13 ⟨rfl, hb13⟩
            rw [decide_eq_true rfl]
            have m13 := Mv.below hb13 F7 g7
            have HF13 := Lib.hid (m13.blk HF10.out.1 HF10.out.2)
            have HC13 := Lib.hid (m13.lies HC10.out)
            have ho13 := m13.blk HO10.out.1 HO10.out.2
            have b13 := HB10.out.mv m13
            have r13 := HR10.out.mv_below hb13
            have HO := Lib.hid (run_open b13 (r13.cr l7) r13.ld.open_)
            unfold OpP at HO
            rw [HD8.out, hmap, hlenT] at HO
            have x0 := HF13.out.1.cell 0
            have x1 := HF13.out.1.cell 1
            have x2 := HF13.out.1.cell 2
            have z0 := ho13.1.cell 0
            simp only [List.getElem?_toArray, List.getElem?_cons_zero, List.getElem?_cons_succ] at x0 x1 x2 z0
            have HB13 := Lib.hid b13
            have HR13 := Lib.hid r13
            clear hb13 m13 ho13 b13 r13 HF10 HO10 HC10 HB10 HR10 HM10
            go_wp2_with fail
            refine HO.out.mono ?_
            rintro x w14 ⟨g8, A8, c8, F8, D8, rfl, m8, hg8, r8, l8, hl8, k8, f8⟩
            have hf : Below w14.heap.size w14 (w14.alloc (.cells #[.int .u64 (e : Int), .string (ba s), .slice A8 (nT + 1) c8] 39)) := (Below.refl _ w14).alloc (Nat.le_refl _) _
            have kx : LogAt w14 g7 F7.d _ _ _ false := LogAt.kept HR13.out.log k8 (LogAt.off HR13.out.log HR13.out.disk)
            have mf := Mv.below hf F8 g8
            have hfd := m8.blk HF13.out.1 HF13.out.2
            have HF15 := Lib.hid (mf.blk hfd.1 hfd.2)
            have HC15 := Lib.hid (mf.lies (m8.lies HC13.out))
            have HA15 := Lib.hid (mf.lies hl8)
            have HB15 := Lib.hid ((HB13.out.mv m8).mv mf)
            have HR15 := Lib.hid (r8.mv_below hf)
            have HX15 := Lib.hid (LogAt.kept kx (Kept.of_below (S := fun _ => False) hf) (fun h => h))
            have HD15 : Hid (F8.d = F.d) := m8.1.trans HD8.out
            have HDx : Hid (F7.d = F8.d) := m8.1.symm
            have x0 := HF15.out.1.cell 0
            have x1 := HF15.out.1.cell 1
            have x2 := HF15.out.1.cell 2
            simp only [List.getElem?_toArray, List.getElem?_cons_zero, List.getElem?_cons_succ] at x0 x1 x2
            clear m8 r8 hl8 k8 f8 hf kx mf hfd HF13 HC13 HB13 HR13 HO
            go_wp2_with fail
            generalize w14.alloc (.cells #[.int .u64 (e : Int), .string (ba s), .slice A8 (nT + 1) c8] 39) = w15 at HF15 HC15 HA15 HB15 HR15 HX15 x0 x1 x2 ⊢
            refine (same_found w15 e (ba s) A7 A8 (nT + 1) c7 c8 (X ++ [t]) (by rw [List.length_append, hXl]; rfl) (by omega) (HC15.out.mono (T := fun _ => False) (fun k _ hk => hk.elim)) (HA15.out.mono (T := fun _ => False) (fun k _ hk => hk.elim))).mono ?_
            rintro x w16 ⟨rfl, hb16⟩
            have HRm := Lib.hid (room_any (HR15.out.mv_below hb16).disk (hf := 100) (by rw [(HR15.out.mv_below hb16).n_]) (HR15.out.mv_below hb16).log (by have := HR15.out.ld.fit; omega))
            have HB16 := Lib.hid hb16
            clear hb16
            go_wp2_with fail
            refine HRm.out.mono ?_
            rintro x w17 ⟨rfl, hb17⟩
            have HB17 := Lib.hid (HB16.out.trans (hb17.mono HB16.out.size))
            have HRx := Lib.hid (room_any (HR15.out.mv_below HB17.out).disk (hf := 100) (by rw [(HR15.out.mv_below HB17.out).n_]) (by rw [← HDx.out]; exact LogAt.kept HX15.out (Kept.of_below (S := fun _ => False) HB17.out) (fun h => h)) (by have := HR15.out.ld.fit; omega))
            clear hb17
            go_wp2_with fail
            refine HRx.out.mono ?_
            rintro x w18 ⟨rfl, hb18⟩
            have hb := HB17.out.trans (hb18.mono HB17.out.size)
            have HEy := Lib.hid (epoch_any (HR15.out.mv_below hb).log)
            have HEx := Lib.hid (epoch_any (LogAt.kept HX15.out (Kept.of_below (S := fun _ => False) hb) (fun h => h)))
            have m18 := Mv.below hb F8 g8
            have hf18 := m18.blk HF15.out.1 HF15.out.2
            have x1 := hf18.1.cell 1
            have x2 := hf18.1.cell 2
            simp only [List.getElem?_toArray, List.getElem?_cons_zero, List.getElem?_cons_succ] at x1 x2
            have HZ := Lib.hid (And.intro (m18.lies HC15.out) (And.intro (HB15.out.mv m18) (HR15.out.mv_below hb)))
            clear hb18 hb m18 hf18
            go_wp2_with fail
            refine HEy.out.mono ?_
            rintro x w' ⟨rfl, rfl⟩
            go_wp2_with fail
            refine HEx.out.mono ?_
            rintro x w' ⟨rfl, rfl⟩
            go_wp2_with fail
            go_roundw
            case rel =>
              obtain ⟨u1, u2, u3⟩ := HZ.out
              exact ⟨j + 1, F8, D8, g8, _, _, _, _, s, (ts ++ [t.data.toList]), A7, c7, by omega, by omega, by go_num, rfl, rfl, by rw [hlenT], by rw [hmap]; exact u1, u2, HD15.out, l8, u3, by omega, by rw [hlenT]; omega⟩
            case measure => simp [intOf]; omega
        · have HLo5 := Lib.hid lo
          clear lo
          as_aux_lemma =>
            have HO := Lib.hid (run_open HB5.out HCr5.out HLo5.out)
            unfold OpP at HO
            rw [HD5.out, HXe.out, HnT.out] at HO
            refine HO.out.mono ?_
            rintro x w7 ⟨g7, A7, c7, F7, D7, rfl, m7, hg7, r7, l7, hl7, k7, f7⟩
            have hob7 := m7.blk HO5.out.1 HO5.out.2
            have hhad7 := m7.lies HH5.out
            have b7 := HB5.out.mv m7
            have hf : Below w7.heap.size w7 (w7.alloc (.cells #[.int .u64 (e : Int), .string (ba s), .slice A7 nT c7] 39)) := (Below.refl _ w7).alloc (Nat.le_refl _) _
            have kf := Blk.new w7 39 #[.int .u64 (e : Int), .string (ba s), .slice A7 nT c7]
            have mf := Mv.below hf F7 g7
            have hoF : ¬ (F7.has w7.heap.size ∨ w7.heap.size = g7) := fun hx => by
              rcases hx with h | h
              · have := Foot.has_lt r7.disk _ h; omega
              · have := Blk.lt r7.log; omega
            have HF8 := Lib.hid (And.intro kf hoF)
            have HO8 := Lib.hid (mf.blk hob7.1 hob7.2)
            have HH8 := Lib.hid (mf.lies hhad7)
            have HC8 := Lib.hid (mf.lies hl7)
            have HB8 := Lib.hid (b7.mv mf)
            have HR8 := Lib.hid (r7.mv_below hf)
            have HD8 : Hid (F7.d = F.d) := m7.1.trans HD5.out
            have HSz := Lib.hid hf.size
            clear m7 r7 hl7 k7 f7 hob7 hhad7 b7 kf mf hoF hf HO HB5 HCr5 HLo5 HH5 HO5 HD5
            go_wp2_with fail
            generalize w7.alloc (.cells #[.int .u64 (e : Int), .string (ba s), .slice A7 nT c7] 39) = w8 at HF8 HO8 HH8 HC8 HB8 HR8 HSz ⊢
            generalize w7.heap.size = q8 at HF8 hg7 HSz ⊢
            refine (same_w _ A7 A c7 c nT nT X X hXl hXl (by omega) (by omega) ((HC8.out.mono (T := fun _ => False) (fun k _ hk => hk.elim))) ((HH8.out.mono (T := fun _ => False) (fun k _ hk => hk.elim)))).mono ?_
            rintro x w9 ⟨rfl, hb9⟩
            rw [decide_eq_true rfl]
            have m9 := Mv.below hb9 F7 g7
            have HF9 := Lib.hid (m9.blk HF8.out.1 HF8.out.2)
            have HO9 := Lib.hid (m9.blk HO8.out.1 HO8.out.2)
            have HH9 := Lib.hid (m9.lies HH8.out)
            have HC9 := Lib.hid (m9.lies HC8.out)
            have HB9 := Lib.hid (HB8.out.mv m9)
            have HR9 := Lib.hid (HR8.out.mv_below hb9)
            clear hb9 m9 HF8 HO8 HH8 HC8 HB8 HR8
            obtain ⟨A4, c4, v4, A6, c6, v6, hr4, hr6, hl6, hb6⟩ := more_row w9 A c nT X hXl (by omega) (HH9.out.mono (T := fun _ => False) (fun k _ hk => hk.elim)) t
            have HRA := Lib.hid hr4
            have HRB := Lib.hid hr6
            have m6 := Mv.below hb6 F7 g7
            have HF10 := Lib.hid (m6.blk HF9.out.1 HF9.out.2)
            have HO10 := Lib.hid (m6.blk HO9.out.1 HO9.out.2)
            have HC10 := Lib.hid (m6.lies HC9.out)
            have HM10 := Lib.hid hl6
            have HB10 := Lib.hid (HB9.out.mv m6)
            have HR10 := Lib.hid (HR9.out.mv_below hb6)
            have x0 := HF10.out.1.cell 0
            have x1 := HF10.out.1.cell 1
            have x2 := HF10.out.1.cell 2
            simp only [List.getElem?_toArray, List.getElem?_cons_zero, List.getElem?_cons_succ] at x0 x1 x2
            clear hr4 hr6 hl6 hb6 m6 HF9 HO9 HC9 HB9 HR9 HH9
            go_wp2_with first
              | (at_builtin; refine wpList_append_run rfl (.tmp 92) (.tmp 93) 30 30 rfl _ _ _ rfl rfl HRA.out ?_; clear HRA)
              | (at_builtin; refine wpList_append_run rfl (.tmp 94) (.tmp 96) 30 30 rfl _ _ _ rfl rfl HRB.out ?_)
            refine (same_w _ A7 A6 c7 c6 nT (nT + 1) X (X ++ [t]) hXl (by rw [List.length_append, hXl]; rfl) (by omega) (by omega) ((HC10.out.mono (T := fun _ => False) (fun k _ hk => hk.elim))) HM10.out).mono ?_
            rintro x w13 ⟨rfl, hb13⟩
            rw [decide_eq_false (show ¬ (X = X ++ [t]) from fun h => by have := congrArg List.length h; simp at this)]
            have m13 := Mv.below hb13 F7 g7
            have HF13 := Lib.hid (m13.blk HF10.out.1 HF10.out.2)
            have HC13 := Lib.hid (m13.lies HC10.out)
            have ho13 := m13.blk HO10.out.1 HO10.out.2
            have b13 := HB10.out.mv m13
            have r13 := HR10.out.mv_below hb13
            have HO := Lib.hid (run_open b13 (r13.cr l7) r13.ld.open_)
            unfold OpP at HO
            rw [HD8.out, HXe.out, HnT.out] at HO
            have x0 := HF13.out.1.cell 0
            have x1 := HF13.out.1.cell 1
            have x2 := HF13.out.1.cell 2
            have z0 := ho13.1.cell 0
            simp only [List.getElem?_toArray, List.getElem?_cons_zero, List.getElem?_cons_succ] at x0 x1 x2 z0
            have HB13 := Lib.hid b13
            have HR13 := Lib.hid r13
            clear hb13 m13 ho13 b13 r13 HF10 HO10 HC10 HB10 HR10 HM10
            go_wp2_with fail
            refine HO.out.mono ?_
            rintro x w14 ⟨g8, A8, c8, F8, D8, rfl, m8, hg8, r8, l8, hl8, k8, f8⟩
            have hf : Below w14.heap.size w14 (w14.alloc (.cells #[.int .u64 (e : Int), .string (ba s), .slice A8 nT c8] 39)) := (Below.refl _ w14).alloc (Nat.le_refl _) _
            have kx : LogAt w14 g7 F7.d _ _ _ false := LogAt.kept HR13.out.log k8 (LogAt.off HR13.out.log HR13.out.disk)
            have mf := Mv.below hf F8 g8
            have hfd := m8.blk HF13.out.1 HF13.out.2
            have HF15 := Lib.hid (mf.blk hfd.1 hfd.2)
            have HC15 := Lib.hid (mf.lies (m8.lies HC13.out))
            have HA15 := Lib.hid (mf.lies hl8)
            have HB15 := Lib.hid ((HB13.out.mv m8).mv mf)
            have HR15 := Lib.hid (r8.mv_below hf)
            have HX15 := Lib.hid (LogAt.kept kx (Kept.of_below (S := fun _ => False) hf) (fun h => h))
            have HD15 : Hid (F8.d = F.d) := m8.1.trans HD8.out
            have HDx : Hid (F7.d = F8.d) := m8.1.symm
            have x0 := HF15.out.1.cell 0
            have x1 := HF15.out.1.cell 1
            have x2 := HF15.out.1.cell 2
            simp only [List.getElem?_toArray, List.getElem?_cons_zero, List.getElem?_cons_succ] at x0 x1 x2
            clear m8 r8 hl8 k8 f8 hf kx mf hfd HF13 HC13 HB13 HR13 HO
            go_wp2_with fail
            generalize w14.alloc (.cells #[.int .u64 (e : Int), .string (ba s), .slice A8 nT c8] 39) = w15 at HF15 HC15 HA15 HB15 HR15 HX15 x0 x1 x2 ⊢
            refine (same_found w15 e (ba s) A7 A8 nT c7 c8 X hXl (by omega) (HC15.out.mono (T := fun _ => False) (fun k _ hk => hk.elim)) (HA15.out.mono (T := fun _ => False) (fun k _ hk => hk.elim))).mono ?_
            rintro x w16 ⟨rfl, hb16⟩
            have HRm := Lib.hid (room_any (HR15.out.mv_below hb16).disk (hf := 100) (by rw [(HR15.out.mv_below hb16).n_]) (HR15.out.mv_below hb16).log (by have := HR15.out.ld.fit; omega))
            have HB16 := Lib.hid hb16
            clear hb16
            go_wp2_with fail
            refine HRm.out.mono ?_
            rintro x w17 ⟨rfl, hb17⟩
            have HB17 := Lib.hid (HB16.out.trans (hb17.mono HB16.out.size))
            have HRx := Lib.hid (room_any (HR15.out.mv_below HB17.out).disk (hf := 100) (by rw [(HR15.out.mv_below HB17.out).n_]) (by rw [← HDx.out]; exact LogAt.kept HX15.out (Kept.of_below (S := fun _ => False) HB17.out) (fun h => h)) (by have := HR15.out.ld.fit; omega))
            clear hb17
            go_wp2_with fail
            refine HRx.out.mono ?_
            rintro x w18 ⟨rfl, hb18⟩
            have hb := HB17.out.trans (hb18.mono HB17.out.size)
            have HEy := Lib.hid (epoch_any (HR15.out.mv_below hb).log)
            have HEx := Lib.hid (epoch_any (LogAt.kept HX15.out (Kept.of_below (S := fun _ => False) hb) (fun h => h)))
            have m18 := Mv.below hb F8 g8
            have hf18 := m18.blk HF15.out.1 HF15.out.2
            have x1 := hf18.1.cell 1
            have x2 := hf18.1.cell 2
            simp only [List.getElem?_toArray, List.getElem?_cons_zero, List.getElem?_cons_succ] at x1 x2
            have HZ := Lib.hid (And.intro (m18.lies HC15.out) (And.intro (HB15.out.mv m18) (HR15.out.mv_below hb)))
            clear hb18 hb m18 hf18
            go_wp2_with fail
            refine HEy.out.mono ?_
            rintro x w' ⟨rfl, rfl⟩
            go_wp2_with fail
            refine HEx.out.mono ?_
            rintro x w' ⟨rfl, rfl⟩
            go_wp2_with fail
            go_roundw
            case rel =>
              obtain ⟨u1, u2, u3⟩ := HZ.out
              exact ⟨j + 1, F8, D8, g8, _, _, _, _, s, ts, A7, c7, by omega, by omega, by go_num, rfl, rfl, by rw [HnT.out], by rw [HXe.out]; exact u1, u2, HD15.out, l8, u3, by omega, by rw [HnT.out]; omega⟩
            case measure => simp [intOf]; omega
    · rcases (show (¬ (j < n)) ∨ (j < n ∧ ¬ (j < 20)) by omega) with h1 | ⟨h1, h2⟩
      all_goals
        have HBs := Lib.hid hb
        clear hb hr hlies
        go_wp2_with fail
        go_ret
        exact ⟨rfl, HB0.out.trans (HBs.out.bel.mono HB0.out.size)⟩

/-! ### The row -/
set_option maxRecDepth 100000 in
theorem contract (H : Type) (enc : TypeId × Value → H) (W : World) (base : Nat) (args : Array Value) (ds gs : List (DataW H)) (before : List MemPlace)
    (hval : ∀ (j : Nat) t v, Tryd.f3.params[j]? = some t → args[j]? = some v → Value.okWide Tryd.prog W .any base t v)
    (hW : DataW.Whole enc Tryd.prog Tryd.f3.params.toList Rows.halvesSafeSpec.vars false W args.toList ds gs before) (hL : laidMetH Tryd.prog Rows.halvesSafeRow.laid W) :
    Calls Tryd.prog 3 args W fun e W' => ∃ v, e = .returned v ∧ Rows.halvesSafeSpec.post enc Tryd.prog Tryd.f3 false true false false W args v W' := by
  have hW' := hW
  obtain ⟨p, q, hA0, hV, rfl, hfz, hnd⟩ := hW
  have hA : DataW.TrodAll enc Tryd.prog W 0 (fun _ => true) true Tryd.f3.params.toList args.toList ds p := hA0
  rw [Tryd.params3] at hA hval
  obtain ⟨v0, vs0, d0, ds0, p0, q0, hargs, rfl, rfl, h0, r0⟩ := trodAll_cons hA
  obtain ⟨rfl, rfl, rfl⟩ := trodAll_nil r0
  obtain rfl : args = #[v0] := by cases args; simp_all
  obtain ⟨rfl, rfl⟩ := trodVars_none hV
  refine law_contract (tb := 4) laidOut (by kernel_rfl) rfl (by kernel_rfl) Tryd.underlying4 rfl hW' ?_
  clear hA0 hW' hA
  obtain ⟨A, n, c, rfl, hn, hA⟩ := open_ops (hval 0 22 v0 rfl rfl) h0
  exact walk A n c W hn hA (tab_of_laid hL)

theorem laid_met (os : Os) : laidMet Tryd.prog Rows.halvesSafeRow.laid ((laidWorld os).forCall (fun _ _ => 0) ⟨#[], #[.slice none 0 0], []⟩).memory :=
  laidMet_of_run' 8 (by kernel_rfl) (by kernel_rfl)
theorem reads (os : Os) {H : Type} (enc : TypeId × Value → H) : ∃ places, DataW.whole enc Tryd.prog ((laidWorld os).forCall (fun _ _ => 0) ⟨#[], #[.slice none 0 0], []⟩).memory Tryd.f3.params.toList Rows.halvesSafeSpec.vars false (#[.slice none 0 0] : Array Value).toList 8 = some ([.nil], [], places) :=
  ⟨[], by kernel_rfl⟩

set_option maxRecDepth 100000 in
theorem lifted (os : Os) (started : os.Started) (H : Type) (enc : TypeId × Value → H) (F : Stop.Interp) :
    ReturnsInHanded {} Tryd.checked os 3 .any ((OpenSpec.ofChange Rows.halvesSafeSpec).preRow enc Tryd.prog Tryd.f3 Rows.halvesSafeRow.domain false Rows.halvesSafeRow.laid) (((OpenSpec.ofChange Rows.halvesSafeSpec).at F).post enc Tryd.prog Tryd.f3 false true false false) := by
  obtain ⟨places, hx⟩ := reads os enc
  refine returnsInHanded_of_row (C := Tryd.checked) (s := OpenSpec.ofChange Rows.halvesSafeSpec) own started (by kernel_rfl) Tryd.func3
    (witness_row_at (enc := enc) (C := Tryd.checked) false (laidWorld os) #[.slice none 0 0] rfl (by kernel_rfl) (by kernel_rfl) (by kernel_rfl)
      (OpenSpec.preRow_of_cond 8 hx (by kernel_rfl) (fun k hk => by cases hk) (by kernel_rfl) (laid_met os))) ?_
  intro W base args ds gs before hval hW _ _ _ hL _ _
  exact contract H enc W base args ds gs before hval hW hL

theorem said : Rows.HalvesSafeSaid :=
  OpenClaim.holds_of_cond 3 Tryd.f3 rfl rfl rfl rfl rfl rfl rfl ⟨rfl, rfl, rfl, rfl, rfl⟩ rfl rfl rfl rfl rfl (by kernel_rfl) Tryd.func3 (by kernel_rfl)
    (of_decide_eq_true (by kernel_rfl)) (by unfold Func.isWrapper; first | (rw [if_pos (by decide +kernel)]; kernel_rfl) | (rw [if_neg (by decide +kernel)]; exact ⟨rfl, rfl⟩))
    (fun os started H enc _ F => by rw [OpenClaim.pre_eq_preRow]; exact lifted os started H enc F)

theorem plain (f : FuncId) (fn : Func) (hf : Tryd.pinned.checked.prog.funcNamed "homecoming/homecominglaw05.HalvesSafe" = some f) (hfn : Tryd.pinned.checked.prog.funcs[f]? = some fn) :
    false = Tryd.pinned.checked.prog.looks [] ∧ ∀ (j : Nat) t, fn.params[j]? = some t → Tryd.pinned.checked.prog.wantsStandIn t = false := by
  obtain rfl : f = 3 := Option.some.inj ((show Tryd.prog.funcNamed "homecoming/homecominglaw05.HalvesSafe" = some 3 by kernel_rfl).symm.trans hf) |>.symm
  obtain rfl : fn = Tryd.f3 := (Option.some.inj (Tryd.func3.symm.trans hfn)).symm
  refine ⟨by kernel_rfl, fun j t ht => ?_⟩
  have hall : (Tryd.f3.params.toList.all fun u => !Tryd.prog.wantsStandIn u) = true := by kernel_rfl
  have hm : t ∈ Tryd.f3.params.toList := by simpa using Array.mem_of_getElem? ht
  exact (show Tryd.prog.wantsStandIn t = false by simpa using List.all_eq_true.1 hall t hm)

/-- THE STATEMENT. -/
theorem card : Rows.HalvesSafeCardSaid :=
  Claim7.holds_tied_plain_at .later [] _ _ _ _ said (fun _ h => by cases h) (by kernel_rfl) (fun _ h => by cases h) halvesSafe_row_tie rfl ⟨rfl, rfl⟩ (by kernel_rfl) rfl plain (by kernel_rfl)
#print axioms card
end Go.Proofs.YtggecdgomgmhmaaDoor.halvesSafe
