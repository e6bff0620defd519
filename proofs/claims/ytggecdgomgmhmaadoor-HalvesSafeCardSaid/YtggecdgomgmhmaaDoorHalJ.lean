/-
  Contract of a log's Snap. Condition: the disk lies in memory as New lays it and is not broken, the log as its calls lay it; fewer than 900 writes are pending; the next epoch has 64 bits; the table of crc holds what its text says.
-/
import Derived.Test.YtggecdgomgmhmaaDoorHalI
namespace Go.Proofs.YtggecdgomgmhmaaDoor
open Go.RowKit

section
variable {w : World} {F : Foot} {D : Dsk}
theorem snap_nil (s : ByteArray) (w : World) :
    Calls Tryd.prog 12 #[.pointer none, .string s] w fun x w' => x = .returned (.int .i64 13) ∧ w = w' := by
  go_enter Tryd.func12, Tryd.ntmps12
  go_wp2_with fail
  go_ret
  exact ⟨rfl, rfl⟩

def pickN (b : Bool) (u k : Nat) : Nat := if b then u else k
def SnapP (w : World) (F : Foot) (g : Nat) (D : Dsk) (st u e ot hf : Nat) (R : ByteArray) (x : Ending) (w' : World) : Prop :=
  x = .returned (.int .i64 (errOf (runD (beg ot hf R) D).broken)) ∧ LNext w F g (runD (beg ot hf R) D) (pickN (runD (beg ot hf R) D).broken st ot) (pickN (runD (beg ot hf R) D).broken u R.size) (pickN (runD (beg ot hf R) D).broken e (e + 1)) (runD (beg ot hf R) D).broken w'
/-- Where the log is, told anew. -/
theorem LNext.moved {w w' : World} {F : Foot} {g : Nat} {D : Dsk} {st u e : Nat} {br : Bool} (h : LNext w F g D st u e br w') (st' u' e' : Nat) : LNext w F g D st' u' e' br (((w'.setCell ⟨g, 1, none⟩ (.int .i64 (st' : Int))).setCell ⟨g, 2, none⟩ (.int .i64 (u' : Int))).setCell ⟨g, 3, none⟩ (.int .u64 (e' : Int))) := by
  obtain ⟨F', h1, h2, h3, h4, h5⟩ := h
  have hk : Kept (· = g) w' (((w'.setCell ⟨g, 1, none⟩ (.int .i64 (st' : Int))).setCell ⟨g, 2, none⟩ (.int .i64 (u' : Int))).setCell ⟨g, 3, none⟩ (.int .u64 (e' : Int))) := (((Kept.refl (· = g) w').here 1 _).here 2 _).here 3 _
  have hof : ¬ F'.has g := LogAt.off (w := w') h3 h2
  exact ⟨F', h1, Raw.keep h2 hk (fun x hx he => by have he' : x = g := he; subst he'; exact hof hx), Blk.set_ (Blk.set_ (Blk.set_ h3 1 _) 2 _) 3 _, h4.trans hk (fun x hx => .inl (.inr hx)), h5⟩
theorem beg_fits {n ot hf : Nat} {R : ByteArray} (h : ot + hf ≤ n) (hR : R.size ≤ hf) : ∀ σ ∈ beg ot hf R, σ.fits n := by
  intro σ hσ
  simp only [beg, List.mem_cons, List.not_mem_nil, or_false] at hσ
  rcases hσ with rfl | rfl | rfl | rfl
  · exact h
  · trivial
  · show ot + R.size ≤ n
    omega
  · trivial
theorem str_empty (R : ByteArray) (h : R.size ≠ 0) : R.toList.isEmpty = false := by
  rw [ByteArray.toList_eq]
  cases hR : R.data.toList with
  | nil => exact absurd (by rw [← size_list, hR]; rfl) h
  | cons a r => rfl

set_option maxHeartbeats 2000000 in
theorem snap_go (h : DiskAt w F D) (hbr : D.broken = false) (hT : Tab w) {hf : Nat} (hhf : D.n / 2 = hf) {g st u e ot : Nat} (hL : LogAt w g F.d st u e false) (hot : (st = 0 ∧ ot = hf) ∨ (st = hf ∧ ot = 0)) (he : e + 1 ≤ 18446744073709551615) (s : ByteArray) (hs : s.size ≤ 39000) (R : ByteArray) (hR : ba (hrec hf (e + 1) s.data.toList) = R) (hR0 : R.size ≠ 0) (hp : D.pend.length < 900) :
    Calls Tryd.prog 12 #[.pointer (some ⟨g, 0, none⟩), .string s] w (SnapP w F g D st u e ot hf R) := by
  have hsm := h.small
  have hRs : R.size ≤ hf := by rw [← hR, ba_size]; exact hrec_le _ _ _
  have HR := Lib.hid (headRecord_any h hT hhf (e + 1) he s hs)
  rw [hR] at HR
  have hew : IntKind.u64.wrap ((e : Int) + 1) = ((e + 1 : Nat) : Int) := by rw [IntKind.wrap_u64]; omega
  have how : IntKind.i64.wrap ((hf : Int) - (st : Int)) = (ot : Int) := by rw [IntKind.wrap_i64]; omega
  have hneb := str_empty R hR0
  have HD := Lib.hid h
  have HT := Lib.hid hT
  have HL := Lib.hid hL
  have hlt := Foot.has_lt h
  have e0 := Blk.cell hL 0
  have e3 := Blk.cell hL 3
  have e4 := Blk.cell hL 4
  simp only [List.getElem?_toArray, List.getElem?_cons_zero, List.getElem?_cons_succ] at e0 e3 e4
  have hfits : ot + hf ≤ D.n := by omega
  unfold SnapP
  obtain ⟨D', hD'⟩ : ∃ D', runD (beg ot hf R) D = D' := ⟨_, rfl⟩
  have HD' := Lib.hid hD'
  rw [hD']
  clear h hT hL hD' hR
  obtain ⟨e1, he1⟩ : ∃ e1, e + 1 = e1 := ⟨_, rfl⟩
  rw [he1] at HR hew ⊢
  have HE1 := Lib.hid he1
  clear he1
  have hE : (D'.broken = true ∧ errOf D'.broken = 18) ∨ (D'.broken = false ∧ errOf D'.broken = 0) := by
    cases D'.broken
    · exact .inr ⟨rfl, rfl⟩
    · exact .inl ⟨rfl, rfl⟩
  rcases hE with ⟨hb, he'⟩ | ⟨hb, he'⟩
  · have HE := Lib.hid he'
    have HBr := Lib.hid hb
    clear hb he'
    go_enter Tryd.func12, Tryd.ntmps12
    go_wp2_with first | (go_at_call 24; refine HR.out.mono ?_; rintro x w1 ⟨rfl, hb1⟩)
    have HB1 := Lib.hid hb1
    have hg1 := hb1.size
    have hL1 := LogAt.kept HL.out (Kept.of_below (S := fun _ => False) hb1) (fun hx => hx)
    have HL1 := Lib.hid hL1
    have HD1 := Lib.hid (show DiskAt w1.drew F D from Raw.keep HD.out (S := fun _ => False) (Kept.of_below hb1).drew (fun _ _ hx => hx))
    have HH := Lib.hid (half_any HD1.out hhf)
    have g0 := Blk.cell hL1 0
    have g1 := Blk.cell hL1 1
    have HBg := Lib.hid (begin_any HD1.out hhf ot R)
    simp only [List.getElem?_toArray, List.getElem?_cons_zero, List.getElem?_cons_succ] at g0 g1
    clear hb1 hL1 HR
    go_region_held3 (fun w' => w'.cell? ⟨g, 0, none⟩ = some (.pointer (some ⟨F.d, 0, none⟩)) ∧ w'.cell? ⟨g, 1, none⟩ = some (.int .i64 (st : Int)))
      (first | go_keep)
      (first
        | (go_at_call 26
           refine HH.out.mono ?_
           rintro e w' ⟨rfl, rfl⟩))
    have g0' : w1.drew.cell? ⟨g, 0, none⟩ = some (.pointer (some ⟨F.d, 0, none⟩)) := g0
    go_wp2_with first
      | (go_at_call 28
         refine HBg.out.mono ?_
         rintro x w2 ⟨gq, fs, rfl, hblk, hlen, hge, hst, hb2⟩
         have hb2' := undrew hb2
         have HB2 := Lib.hid hb2'
         have hL2 := LogAt.kept HL1.out (Kept.of_below (S := fun _ => False) hb2') (fun hx => hx)
         have hD2 : DiskAt w2 F D := Raw.keep HD1.out (S := fun _ => False) (Kept.of_below hb2) (fun _ _ hx => hx)
         have hlt1 : ∀ x, F.has x → x < w1.heap.size := fun x hx => Nat.lt_of_lt_of_le (hlt x hx) hg1
         have hSt : Steps F.has w2 F.d (some ⟨gq, 0, none⟩) (beg ot hf R) := (hst.go (S' := F.has) (Kept.refl _ _) (fun x hx => .inl (.inl (hlt1 x hx)))).lies hblk (fun hx => by have := hlt1 _ hx; have hge' : w1.heap.size ≤ gq := hge; omega)
         have HQ := Lib.hid (lperf_any hD2 hbr hL2 (n := 4) rfl 4 hSt (beg_fits hfits hRs) (by simp [beg]; omega))
         unfold LPerf at HQ
         rw [HD'.out, HE.out] at HQ
         clear hblk hst hb2 hb2' hL2 hD2 hSt HBg)
      | (go_at_call 30
         refine HQ.out.mono ?_
         rintro x w5 ⟨rfl, F5, q1, q2, q3, q4, q5⟩
         have HX5 := Lib.hid (And.intro q1 (And.intro q2 (And.intro q3 (And.intro q4 q5))))
         have q3' := q3
         have c1 := Blk.cell q3 1
         have c2 := Blk.cell q3 2
         have c3 := Blk.cell q3 3
         have f1 := Blk.frozen q3 1
         have f2 := Blk.frozen q3 2
         have f3 := Blk.frozen q3 3
         simp only [List.getElem?_toArray, List.getElem?_cons_zero, List.getElem?_cons_succ] at c1 c2 c3
         clear q1 q2 q3 q4 q5 q3')
    go_ret
    have hx : LNext w2 F g D' st u e D'.broken w5 := ⟨F5, HX5.out⟩
    rw [HBr.out] at hx ⊢
    refine ⟨rfl, ?_⟩
    show LNext w F g D' st u e true w5
    exact (hx.after HB2.out).after HB1.out
  · have HE := Lib.hid he'
    have HBr := Lib.hid hb
    clear hb he'
    go_enter Tryd.func12, Tryd.ntmps12
    go_wp2_with first | (go_at_call 24; refine HR.out.mono ?_; rintro x w1 ⟨rfl, hb1⟩)
    have HB1 := Lib.hid hb1
    have hg1 := hb1.size
    have hL1 := LogAt.kept HL.out (Kept.of_below (S := fun _ => False) hb1) (fun hx => hx)
    have HL1 := Lib.hid hL1
    have HD1 := Lib.hid (show DiskAt w1.drew F D from Raw.keep HD.out (S := fun _ => False) (Kept.of_below hb1).drew (fun _ _ hx => hx))
    have HH := Lib.hid (half_any HD1.out hhf)
    have g0 := Blk.cell hL1 0
    have g1 := Blk.cell hL1 1
    have HBg := Lib.hid (begin_any HD1.out hhf ot R)
    simp only [List.getElem?_toArray, List.getElem?_cons_zero, List.getElem?_cons_succ] at g0 g1
    clear hb1 hL1 HR
    go_region_held3 (fun w' => w'.cell? ⟨g, 0, none⟩ = some (.pointer (some ⟨F.d, 0, none⟩)) ∧ w'.cell? ⟨g, 1, none⟩ = some (.int .i64 (st : Int)))
      (first | go_keep)
      (first
        | (go_at_call 26
           refine HH.out.mono ?_
           rintro e w' ⟨rfl, rfl⟩))
    have g0' : w1.drew.cell? ⟨g, 0, none⟩ = some (.pointer (some ⟨F.d, 0, none⟩)) := g0
    go_wp2_with first
      | (go_at_call 28
         refine HBg.out.mono ?_
         rintro x w2 ⟨gq, fs, rfl, hblk, hlen, hge, hst, hb2⟩
         have hb2' := undrew hb2
         have HB2 := Lib.hid hb2'
         have hL2 := LogAt.kept HL1.out (Kept.of_below (S := fun _ => False) hb2') (fun hx => hx)
         have hD2 : DiskAt w2 F D := Raw.keep HD1.out (S := fun _ => False) (Kept.of_below hb2) (fun _ _ hx => hx)
         have hlt1 : ∀ x, F.has x → x < w1.heap.size := fun x hx => Nat.lt_of_lt_of_le (hlt x hx) hg1
         have hSt : Steps F.has w2 F.d (some ⟨gq, 0, none⟩) (beg ot hf R) := (hst.go (S' := F.has) (Kept.refl _ _) (fun x hx => .inl (.inl (hlt1 x hx)))).lies hblk (fun hx => by have := hlt1 _ hx; have hge' : w1.heap.size ≤ gq := hge; omega)
         have HQ := Lib.hid (lperf_any hD2 hbr hL2 (n := 4) rfl 4 hSt (beg_fits hfits hRs) (by simp [beg]; omega))
         unfold LPerf at HQ
         rw [HD'.out, HE.out] at HQ
         clear hblk hst hb2 hb2' hL2 hD2 hSt HBg)
      | (go_at_call 30
         refine HQ.out.mono ?_
         rintro x w5 ⟨rfl, F5, q1, q2, q3, q4, q5⟩
         have HX5 := Lib.hid (And.intro q1 (And.intro q2 (And.intro q3 (And.intro q4 q5))))
         have q3' := q3
         have c1 := Blk.cell q3 1
         have c2 := Blk.cell q3 2
         have c3 := Blk.cell q3 3
         have f1 := Blk.frozen q3 1
         have f2 := Blk.frozen q3 2
         have f3 := Blk.frozen q3 3
         simp only [List.getElem?_toArray, List.getElem?_cons_zero, List.getElem?_cons_succ] at c1 c2 c3
         clear q1 q2 q3 q4 q5 q3')
    go_ret
    have hx : LNext w2 F g D' st u e D'.broken w5 := ⟨F5, HX5.out⟩
    rw [HBr.out] at hx ⊢
    refine ⟨rfl, ?_⟩
    exact ((hx.after HB2.out).after HB1.out).moved _ _ _
end
end Go.Proofs.YtggecdgomgmhmaaDoor
