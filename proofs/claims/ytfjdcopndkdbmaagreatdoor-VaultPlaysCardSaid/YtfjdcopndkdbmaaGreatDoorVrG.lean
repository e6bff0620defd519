/-
  Contract of the document's own Present (layer 11). Condition: rows of at most 1000000 secrets, a plain text of 50000 bytes at most.
-/
import Derived.Test.YtfjdcopndkdbmaaGreatDoorVrE
import Derived.Test.YtfjdcopndkdbmaaGreatDoorMinS
import Derived.Test.YtfjdcopndkdbmaaGreatDoorMinF
import Derived.Test.YtfjdcopndkdbmaaGreatDoorAnyI
namespace Go.Proofs.YtfjdcopndkdbmaaGreatDoor
open Go.RowKit

/-- What the document's Present answers, as cells. -/
def toldC (v : Value) (o : Option Va.Sec) (n : Nat) : Array Value := match o with
  | some s => #[v, .string s.digest, .int .i64 s.account, .int .i64 s.purpose, .string s.channel, .int .i64 s.expires, .int .i64 s.tries, .int .i64 (n : Int)]
  | none => #[v, .string ⟨#[]⟩, .int .i64 0, .int .i64 0, .string ⟨#[]⟩, .int .i64 0, .int .i64 0, .int .i64 (n : Int)]
theorem told_size : (Tryz.prog.info? 73).map (·.size) = some 8 := by kernel_rfl
theorem present_at {D : ByteArray} {l : List Va.Sec} {k : Va.Key} {now : Int} {i : Nat} {s : Va.Sec} (hp : Rw.place Va.Sec.key l k = some i) (hi : i < l.length) (hs : l[i] = s) :
    Va.present D l k now = if s.expires ≤ now then (l.eraseIdx i, none, 19) else if s.digest = D then (l.eraseIdx i, some s, 0) else if s.tries ≤ 1 then (l.eraseIdx i, none, 21) else (l.set i { s with tries := s.tries - 1 }, none, 21) := by
  unfold Va.present
  rw [hp]
  simp only [List.getElem?_eq_getElem hi, hs]
theorem present_no {D : ByteArray} {l : List Va.Sec} {k : Va.Key} {now : Int} (hp : Rw.place Va.Sec.key l k = none) : Va.present D l k now = (l, none, 12) := by
  unfold Va.present
  rw [hp]
theorem kept_eight {T : Nat → Prop} {W : World} {g : Nat} (hg : T g) (u v x y z q r s : Value) :
    Kept T W ((((((((W.setCell ⟨g, 0, none⟩ u).setCell ⟨g, 1, none⟩ v).setCell ⟨g, 2, none⟩ x).setCell ⟨g, 3, none⟩ y).setCell ⟨g, 4, none⟩ z).setCell ⟨g, 5, none⟩ q).setCell ⟨g, 6, none⟩ r).setCell ⟨g, 7, none⟩ s) :=
  (((((((((Kept.refl T W).setCell (p := ⟨g, 0, none⟩) (.inl hg) _).setCell (p := ⟨g, 1, none⟩) (.inl hg) _).setCell (p := ⟨g, 2, none⟩) (.inl hg) _).setCell (p := ⟨g, 3, none⟩) (.inl hg) _).setCell (p := ⟨g, 4, none⟩) (.inl hg) _).setCell (p := ⟨g, 5, none⟩) (.inl hg) _).setCell (p := ⟨g, 6, none⟩) (.inl hg) _).setCell (p := ⟨g, 7, none⟩) (.inl hg) _)
theorem Row.kept {T : Nat → Prop} {m : List Va.Sec} {v : Value} {W W' : World} (h : Row T m v W) (hk : Kept T W W') : Row T m v W' := by
  obtain ⟨A, c, e, hc, hA⟩ := h
  exact ⟨A, c, e, hc, hA.kept hk⟩
/-- What each operation of the drawn statement leaves. -/
def Vp7 (b0 : Nat) (b2 : Nat) (p : Int) (sd : ByteArray) (PL : ByteArray) (D : ByteArray) (bq : Bool) : Nat → Value → Prop
  | 0, v => v = .pointer (some ⟨b2, 0, none⟩)
  | 1, v => v = .string sd
  | 2, v => v = .pointer (some ⟨b0, 1, none⟩)
  | 3, v => v = .int .i64 p
  | 4, v => v = .pointer (some ⟨b0, 3, none⟩)
  | 5, v => v = .string PL
  | 6, v => v = .string D
  | 7, v => v = .bool bq
  | _, _ => True
set_option maxRecDepth 100000 in
set_option maxHeartbeats 8000000 in
theorem rpresent_any {S : Nat → Prop} (A : Option Addr) (cp : Nat) (l : List Va.Sec) (hl : l.length ≤ 1000000) (hcp : l.length ≤ cp) (a p : Int) (c : ByteArray) (d : List UInt8) (hd : d.length ≤ 50000) (now : Int) (ht : ∀ s ∈ l, s.tries ≤ 9223372036854775807) (w : World) (hS : ∀ b, S b → b < w.heap.size) (hA : Lies S w A (secs l)) :
    Calls Tryz.prog 27 #[.slice A l.length cp, .agg #[.int .i64 a, .int .i64 p, .string c, .string (ba d)], .int .i64 now] w fun e w' => (∃ v, e = .returned (.agg (toldC v (Va.present (ba (digL p d)) l (a, p, c) now).2.1 (Va.present (ba (digL p d)) l (a, p, c) now).2.2)) ∧ Row S (Va.present (ba (digL p d)) l (a, p, c) now).1 v w') ∧ Below w.heap.size w w' := by
  have HD := Lib.hid (fun W => rdigest_any p d hd W)
  generalize ba (digL p d) = D at HD ⊢
  have hrow : ∀ W, Below w.heap.size w W → Row S l (.slice A l.length cp) W := fun W hW => ⟨A, cp, rfl, hcp, hA.below hW⟩
  have HROW := Lib.hid hrow
  have HS := Lib.hid hS
  have hp := fun W h => rat_any A cp l hl a p c W (hA.below (w' := W) h)
  clear hrow hS
  cases hpl : Rw.place Va.Sec.key l (a, p, c) with
  | none =>
    rw [present_no hpl]
    unfold atI at hp
    rw [hpl] at hp
    have HP := Lib.hid hp
    clear hp hpl hA
    go_enter Tryz.func27, Tryz.ntmps27
    go_upto_region 1 with fail
    generalize hW0 : World.alloc _ (.cells #[.slice none 0 0, .string ⟨#[]⟩, .int .i64 0, .int .i64 0, .string ⟨#[]⟩, .int .i64 0, .int .i64 0, .int .i64 0] 73) = W0
    have HX0 := Lib.hid (show Blk W0 w.heap.size 37 #[.int .i64 a, .int .i64 p, .string c, .string (ba d)] by rw [← hW0]; exact (Blk.new w _ _).alloc _)
    have HY0 := Lib.hid (show Blk W0 (w.heap.size + 1) 73 #[.slice none 0 0, .string ⟨#[]⟩, .int .i64 0, .int .i64 0, .string ⟨#[]⟩, .int .i64 0, .int .i64 0, .int .i64 0] by rw [← hW0]; exact Blk.new2 w _ _ _)
    have HB0 := Lib.hid (show Below w.heap.size w W0 by rw [← hW0]; exact ((Below.refl _ w).alloc (Nat.le_refl _) _).alloc (by simp) _)
    clear hW0
    have x0 : W0.cell? ⟨w.heap.size, 0, none⟩ = some (.int .i64 a) := (HX0.out.cell 0).trans rfl
    have x1 : W0.cell? ⟨w.heap.size, 1, none⟩ = some (.int .i64 p) := (HX0.out.cell 1).trans rfl
    have x2 : W0.cell? ⟨w.heap.size, 2, none⟩ = some (.string c) := (HX0.out.cell 2).trans rfl
    have HB6 : Hid (w.heap.size ≤ w.heap.size + 1) := Lib.hid (Nat.le_succ _)
    generalize hb1 : w.heap.size + 1 = b1 at *
    go_wp2_with fail
    refine (HP.out W0 HB0.out).mono ?_
    rintro e wq ⟨rfl, rfl⟩
    have f0 := HY0.out.frozen 0
    have g0 := (HY0.out.cell 0).trans rfl
    have f1 := HY0.out.frozen 1
    have g1 := (HY0.out.cell 1).trans rfl
    have f2 := HY0.out.frozen 2
    have g2 := (HY0.out.cell 2).trans rfl
    have f3 := HY0.out.frozen 3
    have g3 := (HY0.out.cell 3).trans rfl
    have f4 := HY0.out.frozen 4
    have g4 := (HY0.out.cell 4).trans rfl
    have f5 := HY0.out.frozen 5
    have g5 := (HY0.out.cell 5).trans rfl
    have f6 := HY0.out.frozen 6
    have g6 := (HY0.out.cell 6).trans rfl
    have f7 := HY0.out.frozen 7
    have g7 := (HY0.out.cell 7).trans rfl
    go_wp2_with fail
    (try simp only [Exit.inBlock, Exit.then])
    refine bodyPost_ret (results_cell_row (P := Tryz.prog) rfl _ _ b1 73 _ (0, 0) _ rfl (HY0.out.eight _ _ _ _ _ _ _ _) Tryz.underlying73 rfl told_size) rfl ?_
    exact ⟨⟨_, rfl, HROW.out _ (below_eight HB0.out HB6.out _ _ _ _ _ _ _ _)⟩, below_eight HB0.out HB6.out _ _ _ _ _ _ _ _⟩
  | some i =>
    obtain ⟨hi, _⟩ := Rw.place_some hpl
    unfold atI at hp
    rw [hpl] at hp
    have HP := Lib.hid hp
    have HWO := Lib.hid (fun W h => rwithout_any A cp l hl hcp i hi W (hA.below (w' := W) h))
    have HWI := Lib.hid (fun s W h => rwith_any A cp l hl i hi s W (hA.below (w' := W) h))
    obtain ⟨ad, hAe, sa⟩ := lies_sec hA i hi
    subst hAe
    obtain ⟨q, hq⟩ : ∃ q, ad.add (i * 6) = q := ⟨_, rfl⟩
    rw [hq] at sa
    have hpr := fun s hs => present_at (D := D) (now := now) (s := s) hpl hi hs
    have htr := ht _ (List.getElem_mem hi)
    obtain ⟨s, hs⟩ : ∃ s, l[i] = s := ⟨_, rfl⟩
    rw [hs] at htr
    have HT := Lib.hid htr
    clear htr
    have hR := hpr s hs
    generalize Va.present D l (a, p, c) now = R at hR ⊢
    have HR := Lib.hid hR
    clear hR
    rw [hs] at sa
    have HSA := Lib.hid sa
    have hili : (i : Int) < (l.length : Int) := by omega
    have hi0 : ¬ ((i : Int) < 0) := by omega
    clear hp hpl hA sa hs hpr hl hcp
    go_enter Tryz.func27, Tryz.ntmps27
    go_upto_region 1 with fail
    generalize hW0 : World.alloc _ (.cells #[.slice none 0 0, .string ⟨#[]⟩, .int .i64 0, .int .i64 0, .string ⟨#[]⟩, .int .i64 0, .int .i64 0, .int .i64 0] 73) = W0
    have HX0 := Lib.hid (show Blk W0 w.heap.size 37 #[.int .i64 a, .int .i64 p, .string c, .string (ba d)] by rw [← hW0]; exact (Blk.new w _ _).alloc _)
    have HY0 := Lib.hid (show Blk W0 (w.heap.size + 1) 73 #[.slice none 0 0, .string ⟨#[]⟩, .int .i64 0, .int .i64 0, .string ⟨#[]⟩, .int .i64 0, .int .i64 0, .int .i64 0] by rw [← hW0]; exact Blk.new2 w _ _ _)
    have HB0 := Lib.hid (show Below w.heap.size w W0 by rw [← hW0]; exact ((Below.refl _ w).alloc (Nat.le_refl _) _).alloc (by simp) _)
    clear hW0
    have x0 : W0.cell? ⟨w.heap.size, 0, none⟩ = some (.int .i64 a) := (HX0.out.cell 0).trans rfl
    have x1 : W0.cell? ⟨w.heap.size, 1, none⟩ = some (.int .i64 p) := (HX0.out.cell 1).trans rfl
    have x2 : W0.cell? ⟨w.heap.size, 2, none⟩ = some (.string c) := (HX0.out.cell 2).trans rfl
    have HB6 : Hid (w.heap.size ≤ w.heap.size + 1) := Lib.hid (Nat.le_succ _)
    generalize hb1 : w.heap.size + 1 = b1 at *
    go_wp2_with fail
    refine (HP.out W0 HB0.out).mono ?_
    rintro e wq ⟨rfl, rfl⟩
    obtain ⟨c0, c1, c2, c3, c4, c5, _⟩ := HSA.out.below HB0.out
    clear HP HSA
    go_upto_region 5 with fail
    generalize hW2 : World.alloc wq (.cells #[.string s.digest, .int .i64 s.account, .int .i64 s.purpose, .string s.channel, .int .i64 s.expires, .int .i64 s.tries] 26) = W2
    have HX2 := Lib.hid (show Blk W2 w.heap.size 37 #[.int .i64 a, .int .i64 p, .string c, .string (ba d)] by rw [← hW2]; exact HX0.out.alloc _)
    have HY2 := Lib.hid (show Blk W2 b1 73 #[.slice none 0 0, .string ⟨#[]⟩, .int .i64 0, .int .i64 0, .string ⟨#[]⟩, .int .i64 0, .int .i64 0, .int .i64 0] by rw [← hW2]; exact HY0.out.alloc _)
    have HS2 := Lib.hid (show Blk W2 wq.heap.size 26 #[.string s.digest, .int .i64 s.account, .int .i64 s.purpose, .string s.channel, .int .i64 s.expires, .int .i64 s.tries] by rw [← hW2]; exact Blk.new wq _ _)
    have HB2 := Lib.hid (show Below w.heap.size w W2 by rw [← hW2]; exact HB0.out.alloc HB0.out.size _)
    have HNE := Lib.hid (show b1 < wq.heap.size from HY0.out.lt)
    clear hW2 HX0 HY0 x0 x1 x2 c0 c1 c2 c3 c4 c5
    have HB2s := Lib.hid HB0.out.size
    generalize wq.heap.size = b2 at HS2 HNE HB2s ⊢
    clear HB0
    have y0 : W2.cell? ⟨b2, 0, none⟩ = some (.string s.digest) := (HS2.out.cell 0).trans rfl
    have y1 : W2.cell? ⟨b2, 1, none⟩ = some (.int .i64 s.account) := (HS2.out.cell 1).trans rfl
    have y2 : W2.cell? ⟨b2, 2, none⟩ = some (.int .i64 s.purpose) := (HS2.out.cell 2).trans rfl
    have y3 : W2.cell? ⟨b2, 3, none⟩ = some (.string s.channel) := (HS2.out.cell 3).trans rfl
    have y4 : W2.cell? ⟨b2, 4, none⟩ = some (.int .i64 s.expires) := (HS2.out.cell 4).trans rfl
    have y5 : W2.cell? ⟨b2, 5, none⟩ = some (.int .i64 s.tries) := (HS2.out.cell 5).trans rfl
    by_cases h1 : s.expires ≤ now
    · have hr := HR.out
      rw [if_pos h1] at hr
      subst hr
      go_wp2_with fail
      refine (HWO.out _ HB2.out).mono ?_
      rintro e wc ⟨⟨v, rfl, hv⟩, hbc⟩
      have HV := Lib.hid hv
      have HYC := Lib.hid (HY2.out.of (hbc.block _ HY2.out.lt))
      have HBC := Lib.hid (HB2.out.trans (hbc.mono HB2.out.size))
      have HSZ := Lib.hid (show w.heap.size ≤ W2.heap.size from HB2.out.size)
      have HTT := Lib.hid (show b1 < W2.heap.size from HY2.out.lt)
      obtain ⟨A4, c4, rfl, _, _⟩ := hv
      clear hbc
      have f0 := HYC.out.frozen 0
      have g0 := (HYC.out.cell 0).trans rfl
      have f1 := HYC.out.frozen 1
      have g1 := (HYC.out.cell 1).trans rfl
      have f2 := HYC.out.frozen 2
      have g2 := (HYC.out.cell 2).trans rfl
      have f3 := HYC.out.frozen 3
      have g3 := (HYC.out.cell 3).trans rfl
      have f4 := HYC.out.frozen 4
      have g4 := (HYC.out.cell 4).trans rfl
      have f5 := HYC.out.frozen 5
      have g5 := (HYC.out.cell 5).trans rfl
      have f6 := HYC.out.frozen 6
      have g6 := (HYC.out.cell 6).trans rfl
      have f7 := HYC.out.frozen 7
      have g7 := (HYC.out.cell 7).trans rfl
      go_wp2_with fail
      (try simp only [Exit.inBlock, Exit.then])
      refine bodyPost_ret (results_cell_row (P := Tryz.prog) rfl _ _ b1 73 _ (0, 0) _ rfl (HYC.out.eight _ _ _ _ _ _ _ _) Tryz.underlying73 rfl told_size) rfl ?_
      exact ⟨⟨_, rfl, (HV.out.kept (kept_eight (T := fun b => b < W2.heap.size) (g := b1) HTT.out _ _ _ _ _ _ _ _)).weak (fun b hb => Nat.lt_of_lt_of_le (HS.out b hb) HSZ.out)⟩, below_eight HBC.out HB6.out _ _ _ _ _ _ _ _⟩
    · obtain ⟨bq, hbq⟩ : ∃ bq, (s.digest.toList == D.toList) = bq := ⟨_, rfl⟩
      have HBQ := Lib.hid hbq
      go_upto_region 7 with fail
      clear y0 y1 y2 y3 y4 y5
      refine wp_region_some (by kernel_rfl) (fun i v _ => Vp7 (w.heap.size) b2 p (s.digest) (ba d) D bq i v) (fun _ _ W => Gc W2 W) (fun w w' => Below w.heap.size w w') (by kernel_rfl) (by kernel_rfl) 62 rfl (by kernel_rfl) (fun _ _ _ _ h _ => by exact h) (fun _ => (Below.refl _ _)) (Gc.start W2) ?_ ?_
      · intro i o ho listed x W hs hdep hun hg hk
        match i, ho with
        | 0, ho =>
          cases ho
          have q8 : x.tmps[8]?.getD undef = .pointer (some ⟨b2, 0, none⟩) := hk.fix 8 (by kernel_rfl)
          refine .inl ⟨wanted_plain rfl, ?_⟩
          refine wp_value (v := .pointer (some ⟨b2, 0, none⟩)) (w' := W) ?_ ⟨_, rfl, rfl, (Below.refl _ _), hg⟩
          go_simp
        | 1, ho =>
          cases ho
          have q33 : x.tmps[33]?.getD undef = .pointer (some ⟨b2, 0, none⟩) := hk.dep 0 33 (by kernel_rfl) (by kernel_rfl)
          refine .inl ⟨wanted_plain rfl, ?_⟩
          have cf : W.cell? ⟨b2, 0, none⟩ = some (.string (s.digest)) := ((HS2.out.of (hg.below.block _ HS2.out.lt)).cell 0).trans rfl
          refine wp_value (v := .string (s.digest)) (w' := W) ?_ ⟨_, rfl, rfl, (Below.refl _ _), hg⟩
          go_simp
        | 2, ho =>
          cases ho
          have q4 : x.tmps[4]?.getD undef = .pointer (some ⟨(w.heap.size), 0, none⟩) := hk.fix 4 (by kernel_rfl)
          refine .inl ⟨wanted_plain rfl, ?_⟩
          refine wp_value (v := .pointer (some ⟨(w.heap.size), 1, none⟩)) (w' := W) ?_ ⟨_, rfl, rfl, (Below.refl _ _), hg⟩
          go_simp
        | 3, ho =>
          cases ho
          have q35 : x.tmps[35]?.getD undef = .pointer (some ⟨(w.heap.size), 1, none⟩) := hk.dep 2 35 (by kernel_rfl) (by kernel_rfl)
          refine .inl ⟨wanted_plain rfl, ?_⟩
          have cf : W.cell? ⟨(w.heap.size), 1, none⟩ = some (.int .i64 p) := ((HX2.out.of (hg.below.block _ HX2.out.lt)).cell 1).trans rfl
          refine wp_value (v := .int .i64 p) (w' := W) ?_ ⟨_, rfl, rfl, (Below.refl _ _), hg⟩
          go_simp
        | 4, ho =>
          cases ho
          have q4 : x.tmps[4]?.getD undef = .pointer (some ⟨(w.heap.size), 0, none⟩) := hk.fix 4 (by kernel_rfl)
          refine .inl ⟨wanted_plain rfl, ?_⟩
          refine wp_value (v := .pointer (some ⟨(w.heap.size), 3, none⟩)) (w' := W) ?_ ⟨_, rfl, rfl, (Below.refl _ _), hg⟩
          go_simp
        | 5, ho =>
          cases ho
          have q37 : x.tmps[37]?.getD undef = .pointer (some ⟨(w.heap.size), 3, none⟩) := hk.dep 4 37 (by kernel_rfl) (by kernel_rfl)
          refine .inl ⟨wanted_plain rfl, ?_⟩
          have cf : W.cell? ⟨(w.heap.size), 3, none⟩ = some (.string (ba d)) := ((HX2.out.of (hg.below.block _ HX2.out.lt)).cell 3).trans rfl
          refine wp_value (v := .string (ba d)) (w' := W) ?_ ⟨_, rfl, rfl, (Below.refl _ _), hg⟩
          go_simp
        | 6, ho =>
          cases ho
          have q36 : x.tmps[36]?.getD undef = .int .i64 p := hk.dep 3 36 (by kernel_rfl) (by kernel_rfl)
          have q38 : x.tmps[38]?.getD undef = .string (ba d) := hk.dep 5 38 (by kernel_rfl) (by kernel_rfl)
          refine .inl ⟨wanted_plain rfl, ?_⟩
          refine wp_enter (f := 19) (args := #[.int .i64 p, .string (ba d)]) (w' := W) (S := fun v w1 => v = .string D ∧ Below W.heap.size W w1) ?_ ((HD.out W).mono fun e w' h => ⟨_, h.1, rfl, h.2⟩) ?_
          · go_simp
          · rintro v W' ⟨rfl, hb⟩
            exact ⟨_, rfl, rfl, hb, hg.calls hb⟩
        | 7, ho =>
          cases ho
          have q34 : x.tmps[34]?.getD undef = .string (s.digest) := hk.dep 1 34 (by kernel_rfl) (by kernel_rfl)
          have q39 : x.tmps[39]?.getD undef = .string D := hk.dep 6 39 (by kernel_rfl) (by kernel_rfl)
          refine .inl ⟨wanted_plain rfl, ?_⟩
          refine wp_value (v := .bool bq) (w' := W) ?_ ⟨_, rfl, rfl, (Below.refl _ _), hg⟩
          go_simp
        | _ + 8, ho => cases ho
      intro listed x w3 hall hg hk
      have e33 : x.tmps[33]?.getD undef = .pointer (some ⟨b2, 0, none⟩) := hk.last 0 33 (by decide) (by kernel_rfl)
      have e34 : x.tmps[34]?.getD undef = .string (s.digest) := hk.last 1 34 (by decide) (by kernel_rfl)
      have e35 : x.tmps[35]?.getD undef = .pointer (some ⟨(w.heap.size), 1, none⟩) := hk.last 2 35 (by decide) (by kernel_rfl)
      have e36 : x.tmps[36]?.getD undef = .int .i64 p := hk.last 3 36 (by decide) (by kernel_rfl)
      have e37 : x.tmps[37]?.getD undef = .pointer (some ⟨(w.heap.size), 3, none⟩) := hk.last 4 37 (by decide) (by kernel_rfl)
      have e38 : x.tmps[38]?.getD undef = .string (ba d) := hk.last 5 38 (by decide) (by kernel_rfl)
      have e39 : x.tmps[39]?.getD undef = .string D := hk.last 6 39 (by decide) (by kernel_rfl)
      have e40 : x.tmps[40]?.getD undef = .bool bq := hk.last 7 40 (by decide) (by kernel_rfl)
      have hB := Lib.hid hg.below
      have hx := hk.act [33, 34, 35, 36, 37, 38, 39, 40] (by kernel_rfl)
      clear hk hg hall
      simp only [List.foldl_cons, List.foldl_nil, e33, e34, e35, e36, e37, e38, e39, e40] at hx
      clear e33 e34 e35 e36 e37 e38 e39 e40
      subst hx
      simp only [Act.put, List.setIfInBounds_toArray, List.set_cons_succ, List.set_cons_zero]
      have HX3 := Lib.hid (HX2.out.of (hB.out.block _ HX2.out.lt))
      have HY3 := Lib.hid (HY2.out.of (hB.out.block _ HY2.out.lt))
      have HS3 := Lib.hid (HS2.out.of (hB.out.block _ HS2.out.lt))
      have HB3 := Lib.hid (HB2.out.trans (hB.out.mono HB2.out.size))
      clear hB HX2 HY2 HS2 HB2
      have y0 : w3.cell? ⟨b2, 0, none⟩ = some (.string s.digest) := (HS3.out.cell 0).trans rfl
      have y1 : w3.cell? ⟨b2, 1, none⟩ = some (.int .i64 s.account) := (HS3.out.cell 1).trans rfl
      have y2 : w3.cell? ⟨b2, 2, none⟩ = some (.int .i64 s.purpose) := (HS3.out.cell 2).trans rfl
      have y3 : w3.cell? ⟨b2, 3, none⟩ = some (.string s.channel) := (HS3.out.cell 3).trans rfl
      have y4 : w3.cell? ⟨b2, 4, none⟩ = some (.int .i64 s.expires) := (HS3.out.cell 4).trans rfl
      have y5 : w3.cell? ⟨b2, 5, none⟩ = some (.int .i64 s.tries) := (HS3.out.cell 5).trans rfl
      rw [str_beq] at hbq
      by_cases h2 : s.digest = D
      · rw [decide_eq_true h2] at hbq
        subst hbq
        have hr := HR.out
        rw [if_neg h1, if_pos h2] at hr
        subst hr
        have H2 := Lib.hid h2
        clear h2
        go_upto_region 8 with fail
        clear y0 y1 y2 y3 y4 y5
        have z0 : w3.cell? ⟨b2, 0, none⟩ = some (.string s.digest) := (HS3.out.cell 0).trans rfl
        have z1 : w3.cell? ⟨b2, 1, none⟩ = some (.int .i64 s.account) := (HS3.out.cell 1).trans rfl
        have z2 : w3.cell? ⟨b2, 2, none⟩ = some (.int .i64 s.purpose) := (HS3.out.cell 2).trans rfl
        have z3 : w3.cell? ⟨b2, 3, none⟩ = some (.string s.channel) := (HS3.out.cell 3).trans rfl
        have z4 : w3.cell? ⟨b2, 4, none⟩ = some (.int .i64 s.expires) := (HS3.out.cell 4).trans rfl
        have z5 : w3.cell? ⟨b2, 5, none⟩ = some (.int .i64 s.tries) := (HS3.out.cell 5).trans rfl
        go_region_with
          (go_at_call 54
           refine (HWO.out _ (by first | exact HB3.out | exact HB3.out.drew)).mono ?_
           rintro e wc ⟨⟨v, rfl, hv⟩, hbc⟩
           have HV := Lib.hid hv
           have HYC := Lib.hid (HY3.out.of (hbc.block _ HY3.out.lt))
           have hsc := HS3.out.of (hbc.block _ HS3.out.lt)
           have HBC := Lib.hid (HB3.out.drew.trans (hbc.mono HB3.out.size))
           have HSZ := Lib.hid (show w.heap.size ≤ w3.heap.size from HB3.out.size)
           have HTT := Lib.hid (show b1 < w3.heap.size from HY3.out.lt)
           obtain ⟨A4, c4, rfl, _, _⟩ := hv
           clear hbc
           have f0 := HYC.out.frozen 0
           have g0 := (HYC.out.cell 0).trans rfl
           have f1 := HYC.out.frozen 1
           have g1 := (HYC.out.cell 1).trans rfl
           have f2 := HYC.out.frozen 2
           have g2 := (HYC.out.cell 2).trans rfl
           have f3 := HYC.out.frozen 3
           have g3 := (HYC.out.cell 3).trans rfl
           have f4 := HYC.out.frozen 4
           have g4 := (HYC.out.cell 4).trans rfl
           have f5 := HYC.out.frozen 5
           have g5 := (HYC.out.cell 5).trans rfl
           have f6 := HYC.out.frozen 6
           have g6 := (HYC.out.cell 6).trans rfl
           have f7 := HYC.out.frozen 7
           have g7 := (HYC.out.cell 7).trans rfl
           have y0 : wc.cell? ⟨b2, 0, none⟩ = some (.string s.digest) := (hsc.cell 0).trans rfl
           have y1 : wc.cell? ⟨b2, 1, none⟩ = some (.int .i64 s.account) := (hsc.cell 1).trans rfl
           have y2 : wc.cell? ⟨b2, 2, none⟩ = some (.int .i64 s.purpose) := (hsc.cell 2).trans rfl
           have y3 : wc.cell? ⟨b2, 3, none⟩ = some (.string s.channel) := (hsc.cell 3).trans rfl
           have y4 : wc.cell? ⟨b2, 4, none⟩ = some (.int .i64 s.expires) := (hsc.cell 4).trans rfl
           have y5 : wc.cell? ⟨b2, 5, none⟩ = some (.int .i64 s.tries) := (hsc.cell 5).trans rfl
           clear hsc)
        all_goals go_wp2_with fail
        all_goals ((try simp only [Exit.inBlock, Exit.then])
                   refine bodyPost_ret (results_cell_row (P := Tryz.prog) rfl _ _ b1 73 _ (0, 0) _ rfl (HYC.out.eight _ _ _ _ _ _ _ _) Tryz.underlying73 rfl told_size) rfl ?_)
        all_goals exact ⟨⟨_, rfl, (HV.out.kept (kept_eight (T := fun b => b < w3.heap.size) (g := b1) HTT.out _ _ _ _ _ _ _ _)).weak (fun b hb => Nat.lt_of_lt_of_le (HS.out b hb) HSZ.out)⟩, below_eight HBC.out HB6.out _ _ _ _ _ _ _ _⟩
      · rw [decide_eq_false h2] at hbq
        subst hbq
        by_cases h3 : s.tries ≤ 1
        · have hr := HR.out
          rw [if_neg h1, if_neg h2, if_pos h3] at hr
          subst hr
          go_wp2_with fail
          refine (HWO.out _ HB3.out).mono ?_
          rintro e wc ⟨⟨v, rfl, hv⟩, hbc⟩
          have HV := Lib.hid hv
          have HYC := Lib.hid (HY3.out.of (hbc.block _ HY3.out.lt))
          have HBC := Lib.hid (HB3.out.trans (hbc.mono HB3.out.size))
          have HSZ := Lib.hid (show w.heap.size ≤ w3.heap.size from HB3.out.size)
          have HTT := Lib.hid (show b1 < w3.heap.size from HY3.out.lt)
          obtain ⟨A4, c4, rfl, _, _⟩ := hv
          clear hbc
          have f0 := HYC.out.frozen 0
          have g0 := (HYC.out.cell 0).trans rfl
          have f1 := HYC.out.frozen 1
          have g1 := (HYC.out.cell 1).trans rfl
          have f2 := HYC.out.frozen 2
          have g2 := (HYC.out.cell 2).trans rfl
          have f3 := HYC.out.frozen 3
          have g3 := (HYC.out.cell 3).trans rfl
          have f4 := HYC.out.frozen 4
          have g4 := (HYC.out.cell 4).trans rfl
          have f5 := HYC.out.frozen 5
          have g5 := (HYC.out.cell 5).trans rfl
          have f6 := HYC.out.frozen 6
          have g6 := (HYC.out.cell 6).trans rfl
          have f7 := HYC.out.frozen 7
          have g7 := (HYC.out.cell 7).trans rfl
          go_wp2_with fail
          (try simp only [Exit.inBlock, Exit.then])
          refine bodyPost_ret (results_cell_row (P := Tryz.prog) rfl _ _ b1 73 _ (0, 0) _ rfl (HYC.out.eight _ _ _ _ _ _ _ _) Tryz.underlying73 rfl told_size) rfl ?_
          exact ⟨⟨_, rfl, (HV.out.kept (kept_eight (T := fun b => b < w3.heap.size) (g := b1) HTT.out _ _ _ _ _ _ _ _)).weak (fun b hb => Nat.lt_of_lt_of_le (HS.out b hb) HSZ.out)⟩, below_eight HBC.out HB6.out _ _ _ _ _ _ _ _⟩
        · have hr := HR.out
          rw [if_neg h1, if_neg h2, if_neg h3] at hr
          subst hr
          have hwr : IntKind.i64.wrap (s.tries - 1) = s.tries - 1 := by rw [IntKind.wrap_i64]; have := HT.out; omega
          have HWJ : Hid (∀ W (_ : Below w.heap.size w W), Calls Tryz.prog 55 #[.slice (some ad) l.length cp, .int .i64 (i : Int), .agg #[.string s.digest, .int .i64 s.account, .int .i64 s.purpose, .string s.channel, .int .i64 s.expires, .int .i64 (s.tries - 1)]] W fun e w' => (∃ v, e = .returned v ∧ Row (fun b => b < W.heap.size) (l.set i { s with tries := s.tries - 1 }) v w') ∧ Below W.heap.size W w') := Lib.hid (fun W h => HWI.out { s with tries := s.tries - 1 } W h)
          have q5 := HS3.out.frozen 5
          go_upto_region 12 with fail
          generalize hW5 : World.setCell w3 ⟨b2, 5, none⟩ (.int .i64 (s.tries - 1)) = w5
          have HS5 := Lib.hid (show Blk w5 b2 26 #[.string s.digest, .int .i64 s.account, .int .i64 s.purpose, .string s.channel, .int .i64 s.expires, .int .i64 (s.tries - 1)] by rw [← hW5]; have h := HS3.out.set_ 5 (.int .i64 (s.tries - 1)); simpa using h)
          have HY5 := Lib.hid (show Blk w5 b1 73 #[.slice none 0 0, .string ⟨#[]⟩, .int .i64 0, .int .i64 0, .string ⟨#[]⟩, .int .i64 0, .int .i64 0, .int .i64 0] by rw [← hW5]; exact HY3.out.far (p := ⟨b2, 5, none⟩) (by have h := HNE.out; show b1 ≠ b2; omega) _)
          have HB5 := Lib.hid (show Below w.heap.size w w5 by rw [← hW5]; exact HB3.out.setCell (p := ⟨b2, 5, none⟩) (by have h := HNE.out; have h' := HB6.out; show w.heap.size ≤ b2; omega) _)
          clear hW5 y0 y1 y2 y3 y4 y5
          have y0 : w5.cell? ⟨b2, 0, none⟩ = some (.string s.digest) := (HS5.out.cell 0).trans rfl
          have y1 : w5.cell? ⟨b2, 1, none⟩ = some (.int .i64 s.account) := (HS5.out.cell 1).trans rfl
          have y2 : w5.cell? ⟨b2, 2, none⟩ = some (.int .i64 s.purpose) := (HS5.out.cell 2).trans rfl
          have y3 : w5.cell? ⟨b2, 3, none⟩ = some (.string s.channel) := (HS5.out.cell 3).trans rfl
          have y4 : w5.cell? ⟨b2, 4, none⟩ = some (.int .i64 s.expires) := (HS5.out.cell 4).trans rfl
          have y5 : w5.cell? ⟨b2, 5, none⟩ = some (.int .i64 (s.tries - 1)) := (HS5.out.cell 5).trans rfl
          go_wp2_with fail
          refine (HWJ.out _ HB5.out).mono ?_
          rintro e wc ⟨⟨v, rfl, hv⟩, hbc⟩
          have HV := Lib.hid hv
          have HYC := Lib.hid (HY5.out.of (hbc.block _ HY5.out.lt))
          have HBC := Lib.hid (HB5.out.trans (hbc.mono HB5.out.size))
          have HSZ := Lib.hid (show w.heap.size ≤ w5.heap.size from HB5.out.size)
          have HTT := Lib.hid (show b1 < w5.heap.size from HY5.out.lt)
          obtain ⟨A4, c4, rfl, _, _⟩ := hv
          clear hbc
          rw [List.length_set] at HV
          have f0 := HYC.out.frozen 0
          have g0 := (HYC.out.cell 0).trans rfl
          have f1 := HYC.out.frozen 1
          have g1 := (HYC.out.cell 1).trans rfl
          have f2 := HYC.out.frozen 2
          have g2 := (HYC.out.cell 2).trans rfl
          have f3 := HYC.out.frozen 3
          have g3 := (HYC.out.cell 3).trans rfl
          have f4 := HYC.out.frozen 4
          have g4 := (HYC.out.cell 4).trans rfl
          have f5 := HYC.out.frozen 5
          have g5 := (HYC.out.cell 5).trans rfl
          have f6 := HYC.out.frozen 6
          have g6 := (HYC.out.cell 6).trans rfl
          have f7 := HYC.out.frozen 7
          have g7 := (HYC.out.cell 7).trans rfl
          go_wp2_with fail
          (try simp only [Exit.inBlock, Exit.then])
          refine bodyPost_ret (results_cell_row (P := Tryz.prog) rfl _ _ b1 73 _ (0, 0) _ rfl (HYC.out.eight _ _ _ _ _ _ _ _) Tryz.underlying73 rfl told_size) rfl ?_
          exact ⟨⟨_, rfl, (HV.out.kept (kept_eight (T := fun b => b < w5.heap.size) (g := b1) HTT.out _ _ _ _ _ _ _ _)).weak (fun b hb => Nat.lt_of_lt_of_le (HS.out b hb) HSZ.out)⟩, below_eight HBC.out HB6.out _ _ _ _ _ _ _ _⟩
end Go.Proofs.YtfjdcopndkdbmaaGreatDoor
