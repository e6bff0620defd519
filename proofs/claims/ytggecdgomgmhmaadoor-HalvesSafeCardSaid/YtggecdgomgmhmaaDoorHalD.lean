/-
  Contract of halves.newest: the half with the greatest epoch, and of two equal ones the first. Condition: the disk lies in memory as New lays it, has at most 80000 bytes and is not broken; the table of crc holds what its text says.
-/
import Derived.Test.YtggecdgomgmhmaaDoorHalC
namespace Go.Proofs.YtggecdgomgmhmaaDoor
open Go.RowKit

section
variable {w : World} {F : Foot} {n : Nat} {dur lat : List UInt8} {pend : List (Nat × ByteArray)} {left : Int}
/-- Where newest's loop stands. -/
def NewestRel (w : World) (lat : List UInt8) (h : Nat) (i : Value) (wr : World) : Prop :=
  ∃ j : Nat, j ≤ 2 ∧ i = .int .i64 (j : Int) ∧ Below w.heap.size w wr ∧ Blk wr w.heap.size 56 #[.int .u64 0, .string ⟨#[]⟩, .slice none 0 0, .int .i64 0, .int .i64 0] ∧
    ∃ (E : Nat) (S : ByteArray) (A : Option Addr) (m c st u : Nat), Blk wr (w.heap.size + 1) 56 #[.int .u64 (E : Int), .string S, .slice A m c, .int .i64 (st : Int), .int .i64 (u : Int)] ∧ CtIs (· < w.heap.size + 2) wr (bestAt lat h j) E S A m st u

def NewestPost (w : World) (lat : List UInt8) (h : Nat) (e : Ending) (w' : World) : Prop :=
  ∃ (E : Nat) (S : ByteArray) (A : Option Addr) (m c st u : Nat), e = .returned (.tuple #[.agg #[.int .u64 (E : Int), .string S, .slice A m c, .int .i64 (st : Int), .int .i64 (u : Int)], .int .i64 0]) ∧ CtIs (· < w.heap.size) w' (newestOf lat h) E S A m st u ∧ Below w.heap.size w w'

theorem Blk.five {w : World} {g : Nat} {t : TypeId} {a b c d e : Value} (h : Blk w g t #[a, b, c, d, e]) (x y z u v : Value) :
    Blk (((((w.setCell ⟨g, 0, none⟩ x).setCell ⟨g, 1, none⟩ y).setCell ⟨g, 2, none⟩ z).setCell ⟨g, 3, none⟩ u).setCell ⟨g, 4, none⟩ v) g t #[x, y, z, u, v] := by
  have := ((((h.set_ 0 x).set_ 1 y).set_ 2 z).set_ 3 u).set_ 4 v
  simpa using this
theorem below_five {B : Nat} {w0 w : World} {g : Nat} (h : Below B w0 w) (hg : B ≤ g) (x y z u v : Value) :
    Below B w0 (((((w.setCell ⟨g, 0, none⟩ x).setCell ⟨g, 1, none⟩ y).setCell ⟨g, 2, none⟩ z).setCell ⟨g, 3, none⟩ u).setCell ⟨g, 4, none⟩ v) :=
  ((((h.setCell (p := ⟨g, 0, none⟩) hg _).setCell (p := ⟨g, 1, none⟩) hg _).setCell (p := ⟨g, 2, none⟩) hg _).setCell (p := ⟨g, 3, none⟩) hg _).setCell (p := ⟨g, 4, none⟩) hg _
theorem content_size : (Tryd.prog.info? 56).map (·.size) = some 5 := by kernel_rfl
theorem results_cell_slot {P : Program} {fn : Func} {p q : Tmp} {ty : TypeId} (h : fn.results = #[.cell p ty, .tmp q]) (tmps : Array Value) (w : World) (g : Nat) (t : TypeId) (cs : Array Value) (fr : Nat × Nat) (d : TypeDesc) (v : Value)
    (hp : tmps.getD p undef = .pointer (some ⟨g, 0, none⟩)) (hv : tmps.getD q undef = v) (hg : w.heap[g]? = some (.cells cs t fr))
    (hu : P.underlying ty = some d) (hd : (match d with | .struct _ | .array _ _ => true | _ => false) = true) (hi : (P.info? ty).map (·.size) = some cs.size) :
    (results fn tmps).run P w = .ok (.tuple #[.agg cs, v]) w := by
  have hp' : tmps[p]?.getD undef = .pointer (some ⟨g, 0, none⟩) := by simpa using hp
  have hv' : tmps[q]?.getD undef = v := by simpa using hv
  simp [results, h, hp', hv', asAddr, run_loadVar_row w g t ty cs fr d hg hu hd hi]

set_option maxRecDepth 100000 in
set_option maxHeartbeats 4000000 in
theorem newest_any (h : Raw w F n dur lat pend left false) (hT : Tab w) (hn : n ≤ 80000) {hf : Nat} (hhf : n / 2 = hf) :
    Calls Tryd.prog 23 #[.pointer (some ⟨F.d, 0, none⟩)] w (NewestPost w lat hf) := by
  have HR := Lib.hid h
  have HT := Lib.hid hT
  have HLt := Lib.hid h.nlat
  clear h hT
  go_enter Tryd.func23, Tryd.ntmps23
  have b1 : Below w.heap.size w ((w.alloc (.cells #[.int .u64 0, .string ⟨#[]⟩, .slice none 0 0, .int .i64 0, .int .i64 0] 56)).alloc (.cells #[.int .u64 0, .string ⟨#[]⟩, .slice none 0 0, .int .i64 0, .int .i64 0] 56)) := ((Below.refl _ w).alloc (Nat.le_refl _) _).alloc (by simp) _
  have k0 := (Blk.new w 56 #[.int .u64 0, .string ⟨#[]⟩, .slice none 0 0, .int .i64 0, .int .i64 0]).alloc (.cells #[.int .u64 0, .string ⟨#[]⟩, .slice none 0 0, .int .i64 0, .int .i64 0] 56)
  have k1 := Blk.new (w.alloc (.cells #[.int .u64 0, .string ⟨#[]⟩, .slice none 0 0, .int .i64 0, .int .i64 0] 56)) 56 #[.int .u64 0, .string ⟨#[]⟩, .slice none 0 0, .int .i64 0, .int .i64 0]
  have HR1 := Lib.hid (Raw.keep HR.out (S := fun _ => False) (Kept.of_below b1) (fun _ _ hx => hx))
  have HH := Lib.hid (half_any HR1.out hhf)
  have HI := Lib.hid (show NewestRel w lat hf (.int .i64 0) _ from ⟨0, by omega, rfl, b1, k0, 0, ⟨#[]⟩, none, 0, 0, 0, 0, by simpa using k1, rfl⟩)
  clear b1 k0 k1
  go_wp2_with fail
  go_step3
  go_wp2_with fail
  go_step3
  go_wp2_with (go_at_call 26; refine HH.out.mono ?_; rintro e w' ⟨rfl, rfl⟩)
  go_loopw [16] (NewestRel w lat hf) (fun i _ => 2 - (intOf i).toNat)
  case atStart => exact HI.out
  case round =>
    clear HI HH HR1
    obtain ⟨j, hj, rfl, hb, kR, E, S, A, m, c, st, u, kB, hCt⟩ := hrel
    have HB := Lib.hid hb
    have HKR := Lib.hid kR
    have HKB := Lib.hid kB
    have HCt := Lib.hid hCt
    have e0 := kB.cell 0
    have e1 := kB.cell 1
    have e2 := kB.cell 2
    have e3 := kB.cell 3
    have e4 := kB.cell 4
    have f0 := kR.frozen 0
    have f1 := kR.frozen 1
    have f2 := kR.frozen 2
    have f3 := kR.frozen 3
    have f4 := kR.frozen 4
    have g0 := kR.cell 0
    have g1 := kR.cell 1
    have g2 := kR.cell 2
    have g3 := kR.cell 3
    have g4 := kR.cell 4
    simp only [List.getElem?_toArray, List.getElem?_cons_zero, List.getElem?_cons_succ] at e0 e1 e2 e3 e4 g0 g1 g2 g3 g4
    clear hb kR kB hCt
    rcases (show j = 2 ∨ j = 0 ∨ j = 1 by omega) with rfl | hj3
    · go_wp2_with fail
      rw [Exit.noGoto_ret]
      refine bodyPost_ret (results_cell_slot (P := Tryd.prog) rfl _ _ w.heap.size 56 _ (0, 0) _ _ rfl rfl (HKR.out.five _ _ _ _ _) Tryd.underlying56 rfl content_size) rfl ?_
      refine ⟨E, S, A, m, c, st, u, rfl, ?_, below_five HB.out (Nat.le_refl _) _ _ _ _ _⟩
      have hlt := HKR.out.lt
      have key : Kept (· = w.heap.size) wr (((((wr.setCell ⟨w.heap.size, 0, none⟩ (.int .u64 (E : Int))).setCell ⟨w.heap.size, 1, none⟩ (.string S)).setCell ⟨w.heap.size, 2, none⟩ (.slice A m c)).setCell ⟨w.heap.size, 3, none⟩ (.int .i64 (st : Int))).setCell ⟨w.heap.size, 4, none⟩ (.int .i64 (u : Int))) :=
        (((((Kept.refl (· = w.heap.size) wr).here 0 _).here 1 _).here 2 _).here 3 _).here 4 _
      exact (HCt.out.kept (key.mono (fun x hx => .inl (by show x < w.heap.size + 2; omega)))).mono (fun k _ hk => by show k < w.heap.size + 2; exact Nat.lt_of_lt_of_le hk (by omega))
    · have hst : ∃ (st0 : Nat) (z : Int), z = (st0 : Int) ∧ st0 + hf ≤ n ∧ bestAt lat hf (j + 1) = pickB (bestAt lat hf j) st0 (Hv.held ((lat.drop st0).take hf)) ∧ ((j = 0 ∧ z = 0) ∨ (j = 1 ∧ z = (hf : Int))) := by
        rcases hj3 with rfl | rfl
        · exact ⟨0, 0, rfl, by omega, rfl, .inl ⟨rfl, rfl⟩⟩
        · exact ⟨hf, (hf : Int), rfl, by omega, rfl, .inr ⟨rfl, rfl⟩⟩
      obtain ⟨st0, z, hz, hfit, hnext, hjz⟩ := hst
      have HRw := Lib.hid (Raw.keep HR.out (S := fun _ => False) (Kept.of_below HB.out) (fun _ _ hx => hx))
      have HTw := Lib.hid (HT.out.below HB.out HT.out.lt)
      have HH := Lib.hid (half_any HRw.out hhf)
      have HRd := Lib.hid (read_ok HRw.out st0 hf hfit)
      rw [← hz] at HRd
      obtain ⟨P, hP⟩ : ∃ P, part lat st0 hf = P := ⟨_, rfl⟩
      have hPl : P.data.toList = (lat.drop st0).take hf := by rw [← hP]; rfl
      have hPs : P.size = hf := by rw [← hP]; exact part_size lat st0 hf (by rw [HLt.out]; exact hfit)
      rw [hP] at HRd
      rw [← hPl] at hnext
      have HSc := Lib.hid (scan_own P (by omega) wr HTw.out)
      have HOk := Lib.hid (scan_ok P.data.toList.length P.data.toList (Nat.le_refl _))
      have HU := Lib.hid (Fr.scan_le P.data.toList.length P.data.toList (Nat.le_refl _))
      obtain ⟨X, hX⟩ : ∃ X, Fr.scan P.data.toList = X := ⟨_, rfl⟩
      rw [hX] at HSc HOk HU
      have HX := Lib.hid hX
      have HNx := Lib.hid hnext
      have HPl := Lib.hid hPl
      have HZ := Lib.hid hz
      clear hP hPl hnext hz HTw hX
      have i0 : ∀ w, (Instr.index 72 (.agg #[.int .i64 0, .int .i64 (hf : Int)]) (.int .i64 0)).run Tryd.prog w = .ok (.int .i64 0) w := fun _ => by kernel_rfl
      have i1 : ∀ w, (Instr.index 72 (.agg #[.int .i64 0, .int .i64 (hf : Int)]) (.int .i64 1)).run Tryd.prog w = .ok (.int .i64 (hf : Int)) w := fun _ => by kernel_rfl
      obtain ⟨L, U⟩ := X
      cases L with
      | nil =>
        have HF : Hid (bestAt lat hf (j + 1) = bestAt lat hf j) := by
          show _ = _
          rw [HNx.out, held_nil HX.out]
          rfl
        clear HNx HX HOk HU
        rcases hjz with ⟨rfl, rfl⟩ | ⟨rfl, rfl⟩
        all_goals
          go_wp2_with (first
            | (go_at_call 26; refine HH.out.mono ?_; rintro e w' ⟨rfl, rfl⟩)
            | (go_at_call 36; refine HRd.out.mono ?_; rintro e w' ⟨rfl, rfl⟩)
            | (go_at_call 37; refine HSc.out.mono ?_; rintro e w2 ⟨A2, c2, rfl, hrow, hb2⟩))
          go_roundw
          case rel =>
            have hq := HCt.out.below hb2
            rw [← HF.out] at hq
            first
              | exact ⟨0 + 1, by omega, rfl, HB.out.trans (hb2.mono HB.out.size), HKR.out.of (hb2.block _ HKR.out.lt), E, S, A, m, c, st, u, HKB.out.of (hb2.block _ HKB.out.lt), hq⟩
              | exact ⟨1 + 1, by omega, rfl, HB.out.trans (hb2.mono HB.out.size), HKR.out.of (hb2.block _ HKR.out.lt), E, S, A, m, c, st, u, HKB.out.of (hb2.block _ HKB.out.lt), hq⟩
          case measure => simp [intOf]
      | cons t ts =>
        have ht := HOk.out t (by simp)
        have hts : (ba t).size ≤ 32768 := by rw [ba_size]; exact ht.2
        have HRH := Lib.hid (fun W => readHead_any (ba t) W hts)
        rw [ba_list] at HRH
        have HU' : Hid (U ≤ P.data.toList.length) := HU.out
        have hne0 : ¬ (((ts.length + 1 : Nat) : Int) = 0) := by omega
        by_cases hle : hdE t ≤ E
        · have HF : Hid (bestAt lat hf (j + 1) = bestAt lat hf j) := by
            show _ = _
            rw [HNx.out]
            exact pick_low HX.out _ _ (by rw [← HCt.out.e]; exact hle)
          generalize hdE t = T at HRH hle
          clear HNx HX HOk HU HU' ht hts
          rcases hjz with ⟨rfl, rfl⟩ | ⟨rfl, rfl⟩
          all_goals
            go_wp2_with (first
              | (go_at_call 26; refine HH.out.mono ?_; rintro e w' ⟨rfl, rfl⟩)
              | (go_at_call 36; refine HRd.out.mono ?_; rintro e w' ⟨rfl, rfl⟩)
              | (go_at_call 37
                 refine HSc.out.mono ?_
                 rintro e w2 ⟨A2, c2, rfl, hrow, hb2⟩
                 obtain ⟨gx, rfl, hx0⟩ := own_first hrow
                 have HB2 := Lib.hid hb2
                 have HRow := Lib.hid hrow
                 clear hb2 hrow)
              | (go_at_call 38
                 refine (HRH.out _).mono ?_
                 rintro e w3 ⟨x3, rfl, hx3, hb3⟩
                 have HB3 := Lib.hid (HB2.out.trans (hb3.mono HB2.out.size))
                 have d0 := (HKB.out.of (HB3.out.block _ HKB.out.lt)).cell 0
                 simp only [List.getElem?_toArray, List.getElem?_cons_zero] at d0
                 clear hb3))
            go_roundw
            case rel =>
              have hq := HCt.out.below HB3.out
              rw [← HF.out] at hq
              first
                | exact ⟨0 + 1, by omega, rfl, HB.out.trans (HB3.out.mono HB.out.size), HKR.out.of (HB3.out.block _ HKR.out.lt), E, S, A, m, c, st, u, HKB.out.of (HB3.out.block _ HKB.out.lt), hq⟩
                | exact ⟨1 + 1, by omega, rfl, HB.out.trans (HB3.out.mono HB.out.size), HKR.out.of (HB3.out.block _ HKR.out.lt), E, S, A, m, c, st, u, HKB.out.of (HB3.out.block _ HKB.out.lt), hq⟩
            case measure => simp [intOf]
        · have hgt : E < hdE t := by omega
          obtain ⟨x, hx, hpk⟩ := pick_high HX.out (bestAt lat hf j) st0 (by rw [← HCt.out.e]; exact hgt)
          have HF : Hid (bestAt lat hf (j + 1) = some (st0, hdE t, x, ts, U)) := by
            show _ = _
            rw [HNx.out]
            exact hpk
          have HX3 := Lib.hid hx
          have hltB := HKB.out.lt
          generalize hdE t = T at HRH hgt HF HX3 hle
          clear HNx HX HOk HU HU' ht hts hx hpk
          rcases hjz with ⟨rfl, rfl⟩ | ⟨rfl, rfl⟩
          all_goals
            go_wp2_with (first
              | (go_at_call 26; refine HH.out.mono ?_; rintro e w' ⟨rfl, rfl⟩)
              | (go_at_call 36; refine HRd.out.mono ?_; rintro e w' ⟨rfl, rfl⟩)
              | (go_at_call 37
                 refine HSc.out.mono ?_
                 rintro e w2 ⟨A2, c2, rfl, hrow, hb2⟩
                 obtain ⟨A3, c3, htail, hL3⟩ := run_tail hrow (S := (· < w.heap.size + 2)) (fun g hg hl => by have hl' : g < w.heap.size + 2 := hl; omega)
                 obtain ⟨gx, rfl, hx0⟩ := own_first hrow
                 have HB2 := Lib.hid hb2
                 have HL3 := Lib.hid hL3
                 clear hb2 hrow hL3)
              | (go_at_call 38
                 refine (HRH.out _).mono ?_
                 rintro e w3 ⟨x3, rfl, hx3, hb3⟩
                 have HB3 := Lib.hid (HB2.out.trans (hb3.mono HB2.out.size))
                 have HK3 := Lib.hid (HKB.out.of (HB3.out.block _ HKB.out.lt))
                 have HL4 := Lib.hid (HL3.out.kept (Kept.of_below hb3))
                 have HX4 := Lib.hid (hx3 _ _ HX3.out)
                 have d0 := HK3.out.cell 0
                 have d1 := HK3.out.cell 1
                 have d2 := HK3.out.cell 2
                 have d3 := HK3.out.cell 3
                 have d4 := HK3.out.cell 4
                 have q0 := HK3.out.frozen 0
                 have q1 := HK3.out.frozen 1
                 have q2 := HK3.out.frozen 2
                 have q3 := HK3.out.frozen 3
                 have q4 := HK3.out.frozen 4
                 simp only [List.getElem?_toArray, List.getElem?_cons_zero, List.getElem?_cons_succ] at d0 d1 d2 d3 d4
                 clear hb3 hx3))
            go_roundw
            case rel =>
              have hk5 := HK3.out.five (.int .u64 (T : Int)) (.string x3) (.slice A3 ts.length c3) (.int .i64 (st0 : Int)) (.int .i64 (U : Int))
              have kp : ∀ a b c d e : Value, Kept (· = w.heap.size + 1) w3 (((((w3.setCell ⟨w.heap.size + 1, 0, none⟩ a).setCell ⟨w.heap.size + 1, 1, none⟩ b).setCell ⟨w.heap.size + 1, 2, none⟩ c).setCell ⟨w.heap.size + 1, 3, none⟩ d).setCell ⟨w.heap.size + 1, 4, none⟩ e) := fun _ _ _ _ _ =>
                (((((Kept.refl (· = w.heap.size + 1) w3).here 0 _).here 1 _).here 2 _).here 3 _).here 4 _
              have kq := (kp (.int .u64 (T : Int)) (.string x3) (.slice A3 ts.length c3) (.int .i64 (st0 : Int)) (.int .i64 (U : Int))).mono (T := (· < w.heap.size + 2)) (fun x hx => .inl (by show x < w.heap.size + 2; omega))
              have hq : CtIs (· < w.heap.size + 2) _ (some (st0, T, x, ts, U)) T x3 A3 ts.length st0 U := ⟨rfl, HX4.out, rfl, rfl, rfl, HL4.out.kept kq⟩
              have hbb := below_five (HB.out.trans (HB3.out.mono HB.out.size)) (g := w.heap.size + 1) (by omega) (.int .u64 (T : Int)) (.string x3) (.slice A3 ts.length c3) (.int .i64 (st0 : Int)) (.int .i64 (U : Int))
              have hkr := (HKR.out.of (HB3.out.block _ HKR.out.lt)).of ((kp (.int .u64 (T : Int)) (.string x3) (.slice A3 ts.length c3) (.int .i64 (st0 : Int)) (.int .i64 (U : Int))).block w.heap.size (by have := HB3.out.size; omega) (by omega))
              rw [← HF.out] at hq
              rw [← HZ.out] at hq hbb hkr hk5
              first
                | exact ⟨0 + 1, by omega, rfl, hbb, hkr, T, x3, A3, ts.length, c3, st0, U, by rw [← HZ.out]; exact hk5, hq⟩
                | exact ⟨1 + 1, by omega, rfl, hbb, hkr, T, x3, A3, ts.length, c3, st0, U, by rw [← HZ.out]; exact hk5, hq⟩
            case measure => simp [intOf]
end
end Go.Proofs.YtggecdgomgmhmaaDoor
