/-
  Contract of a log's Append. Condition: the disk lies in memory as New lays it and is not broken, the log as its calls lay it; fewer than 900 writes are pending; the table of crc holds what its text says.
-/
import Derived.Test.YtggecdgomgmhmaaDoorHalH
namespace Go.Proofs.YtggecdgomgmhmaaDoor
open Go.RowKit

section
variable {w : World} {F : Foot} {D : Dsk}
/-- Two steps, a write or a wipe and a sync, in a block of their own. -/
theorem steps2 {S : Nat → Prop} {w : World} {d : Nat} {f : Value} {σ : St} (h : StepIs S w d f σ) (h1 : f.oneCell' = true) (hS : ∀ x, S x → x < w.heap.size) :
    Steps S (w.alloc (.cells #[f, .func (.func 29) #[.pointer (some ⟨d, 0, none⟩)] #[]] 61)) d (some ⟨w.heap.size, 0, none⟩) [σ, .sync] := by
  have hb : Below w.heap.size w (w.alloc (.cells #[f, .func (.func 29) #[.pointer (some ⟨d, 0, none⟩)] #[]] 61)) := (Below.refl _ w).alloc (Nat.le_refl _) _
  have hc : StepsL S (w.alloc (.cells #[f, .func (.func 29) #[.pointer (some ⟨d, 0, none⟩)] #[]] 61)) d [f, .func (.func 29) #[.pointer (some ⟨d, 0, none⟩)] #[]] [σ, .sync] :=
    StepsL.cons (h.go (Kept.of_below hb) (fun x hx => .inl hx)) h1 (StepsL.cons rfl rfl (StepsL.nil _ _ _))
  exact hc.lies (Blk.new w _ _) (fun hs => by have := hS _ hs; omega)

/-- How many bytes of the half are in use, told anew. -/
theorem LNext.used {w w' : World} {F : Foot} {g : Nat} {D : Dsk} {st u e : Nat} {br : Bool} (h : LNext w F g D st u e br w') (u' : Nat) : LNext w F g D st u' e br (w'.setCell ⟨g, 2, none⟩ (.int .i64 (u' : Int))) := by
  obtain ⟨F', h1, h2, h3, h4, h5⟩ := h
  have hk : Kept (· = g) w' (w'.setCell ⟨g, 2, none⟩ (.int .i64 (u' : Int))) := (Kept.refl (· = g) w').here 2 _
  have hof : ¬ F'.has g := LogAt.off (w := w') h3 h2
  exact ⟨F', h1, Raw.keep h2 hk (fun x hx he => by have he' : x = g := he; subst he'; exact hof hx), Blk.set_ h3 2 _, h4.trans hk (fun x hx => .inl (.inr hx)), h5⟩
theorem append_nil (s : ByteArray) (w : World) :
    Calls Tryd.prog 13 #[.pointer none, .string s] w fun x w' => x = .returned (.int .i64 13) ∧ w = w' := by
  go_enter Tryd.func13, Tryd.ntmps13
  go_wp2_with fail
  go_ret
  exact ⟨rfl, rfl⟩
/-- A text that has no record. -/
theorem append_arg {g d st u e : Nat} (hL : LogAt w g d st u e false) (s : ByteArray) (_hs : s.size ≤ 1000000) (hz : ¬ (1 ≤ s.size ∧ s.size ≤ 32768)) :
    Calls Tryd.prog 13 #[.pointer (some ⟨g, 0, none⟩), .string s] w fun x w' => x = .returned (.int .i64 1) ∧ w = w' := by
  have HS := Lib.hid (sz_no (n := (s.size : Int)) (by omega))
  have e4 := Blk.cell hL 4
  simp only [List.getElem?_toArray, List.getElem?_cons_zero, List.getElem?_cons_succ] at e4
  go_enter Tryd.func13, Tryd.ntmps13
  go_wp2_with (go_at_call 31; refine (size_any _ _).mono ?_; rintro e w' ⟨rfl, rfl⟩; rw [HS.out])
  go_ret
  exact ⟨rfl, rfl⟩
/-- A text whose record has no room. -/
theorem append_full (h : DiskAt w F D) {hf : Nat} (hhf : D.n / 2 = hf) {g st u e : Nat} (hL : LogAt w g F.d st u e false) (hu : u ≤ 1000000) (s : ByteArray) (hz : 1 ≤ s.size ∧ s.size ≤ 32768) (hr : ¬ (u + (s.size + 8) ≤ hf)) :
    Calls Tryd.prog 13 #[.pointer (some ⟨g, 0, none⟩), .string s] w fun x w' => x = .returned (.int .i64 15) ∧ Below w.heap.size w w' := by
  have HS := Lib.hid (sz_ok (n := (s.size : Int)) (by omega) (by omega))
  have HR := Lib.hid (room_any h hhf hL hu)
  rw [show roomN hf u false = (hf : Int) - (u : Int) from rfl] at HR
  have e4 := Blk.cell hL 4
  simp only [List.getElem?_toArray, List.getElem?_cons_zero, List.getElem?_cons_succ] at e4
  have hne : ¬ ((s.size : Int) + 8 = 0) := by omega
  have hgt : (hf : Int) - (u : Int) < (s.size : Int) + 8 := by omega
  clear h
  go_enter Tryd.func13, Tryd.ntmps13
  go_wp2_with first | (go_at_call 31; refine (size_any _ _).mono ?_; rintro e w' ⟨rfl, rfl⟩; rw [HS.out]) | (go_at_call 18; refine HR.out.mono ?_; rintro e w1 ⟨rfl, hb⟩)
  go_ret
  exact ⟨rfl, hb⟩

def uOf (b : Bool) (u k : Nat) : Nat := if b then u else k
def appS (st u : Nat) (s : ByteArray) : List St := [.write (st + u) (ba (Fr.wrap s.data.toList)), .sync]
def AppendP (w : World) (F : Foot) (g : Nat) (D : Dsk) (st u e : Nat) (s : ByteArray) (x : Ending) (w' : World) : Prop :=
  x = .returned (.int .i64 (errOf (runD (appS st u s) D).broken)) ∧ LNext w F g (runD (appS st u s) D) st (uOf (runD (appS st u s) D).broken u (u + (s.size + 8))) e (runD (appS st u s) D).broken w'
set_option maxHeartbeats 2000000 in
theorem append_go (h : DiskAt w F D) (hbr : D.broken = false) (hT : Tab w) {hf : Nat} (hhf : D.n / 2 = hf) {g st u e : Nat} (hL : LogAt w g F.d st u e false) (hst : st + hf ≤ D.n) (s : ByteArray) (hz : 1 ≤ s.size ∧ s.size ≤ 32768) (hr : u + (s.size + 8) ≤ hf) (hp : D.pend.length < 900) :
    Calls Tryd.prog 13 #[.pointer (some ⟨g, 0, none⟩), .string s] w (AppendP w F g D st u e s) := by
  have hsm := h.small
  have HS := Lib.hid (sz_ok (n := (s.size : Int)) (by omega) (by omega))
  have HR := Lib.hid (room_any h hhf hL (by omega))
  rw [show roomN hf u false = (hf : Int) - (u : Int) from rfl] at HR
  have HW := Lib.hid (fun W hW => wrap_any s W hW (by omega))
  have hwl : (ba (Fr.wrap s.data.toList)).size = s.size + 8 := by rw [ba_size, Fr.wrap_ok (by rw [size_list]; exact hz), Fr.rec_length, size_list]
  have HD := Lib.hid h
  have HT := Lib.hid hT
  have HL := Lib.hid hL
  have hlt := Foot.has_lt h
  have hne : ¬ ((s.size : Int) + 8 = 0) := by omega
  have hgt : ¬ ((hf : Int) - (u : Int) < (s.size : Int) + 8) := by omega
  have e4 := Blk.cell hL 4
  simp only [List.getElem?_toArray, List.getElem?_cons_zero, List.getElem?_cons_succ] at e4
  unfold AppendP appS
  generalize ba (Fr.wrap s.data.toList) = R at HW hwl ⊢
  obtain ⟨k, hk⟩ : ∃ k, st + u = k := ⟨_, rfl⟩
  have hkw : IntKind.i64.wrap ((st : Int) + (u : Int)) = (k : Int) := by rw [IntKind.wrap_i64]; omega
  rw [hk]
  have HK := Lib.hid hk
  have hfit : k + R.size ≤ D.n := by omega
  have huw : IntKind.i64.wrap ((u : Int) + ((s.size : Int) + 8)) = ((u + (s.size + 8) : Nat) : Int) := by rw [IntKind.wrap_i64]; omega
  obtain ⟨D', hD'⟩ : ∃ D', runD [.write k R, .sync] D = D' := ⟨_, rfl⟩
  have HD' := Lib.hid hD'
  rw [hD']
  clear h hT hL hk hD' HK
  have hmf : ∀ (fn : Fn) (first cap : Array Value) (w : World), (Instr.makeFunc fn first cap).run Tryd.prog w = .ok (.func fn first cap) w := fun _ _ _ _ => rfl
  have hE : (D'.broken = true ∧ errOf D'.broken = 18) ∨ (D'.broken = false ∧ errOf D'.broken = 0) := by
    cases D'.broken
    · exact .inr ⟨rfl, rfl⟩
    · exact .inl ⟨rfl, rfl⟩
  go_enter Tryd.func13, Tryd.ntmps13
  go_wp2_with first | (go_at_call 31; refine (size_any _ _).mono ?_; rintro e w' ⟨rfl, rfl⟩; rw [HS.out]) | (go_at_call 18; refine HR.out.mono ?_; rintro e w1 ⟨rfl, hb1⟩)
  have HB1 := Lib.hid hb1
  have hg1 := hb1.size
  have HL1 := Lib.hid (LogAt.kept HL.out (Kept.of_below (S := fun _ => False) hb1) (fun hx => hx))
  have HT1 := Lib.hid (HT.out.below hb1 HT.out.lt)
  have HD1 := Lib.hid (show DiskAt w1 F D from Raw.keep HD.out (S := fun _ => False) (Kept.of_below hb1) (fun _ _ hx => hx))
  have g0 := Blk.cell HL1.out 0
  have g1 := Blk.cell HL1.out 1
  have g2 := Blk.cell HL1.out 2
  simp only [List.getElem?_toArray, List.getElem?_cons_zero, List.getElem?_cons_succ] at g0 g1 g2
  clear hb1 HR
  have keep : ∀ W, LogAt W g F.d st u e false → (W.cell? ⟨g, 0, none⟩ = some (.pointer (some ⟨F.d, 0, none⟩)) ∧ W.cell? ⟨g, 1, none⟩ = some (.int .i64 (st : Int)) ∧ W.cell? ⟨g, 2, none⟩ = some (.int .i64 (u : Int))) := fun W h => ⟨Blk.cell h 0, Blk.cell h 1, Blk.cell h 2⟩
  have HKp := Lib.hid keep
  clear keep
  rcases hE with ⟨hb, he⟩ | ⟨hb, he⟩
  · have HE := Lib.hid he
    have HBr := Lib.hid hb
    clear hb he
    go_region_held3 (fun w' => w'.cell? ⟨g, 0, none⟩ = some (.pointer (some ⟨F.d, 0, none⟩)) ∧ w'.cell? ⟨g, 1, none⟩ = some (.int .i64 (st : Int)) ∧ w'.cell? ⟨g, 2, none⟩ = some (.int .i64 (u : Int)))
      (first | go_keep | (exact S2) | (exact S3) | (exact S4) | (exact S5))
      (first
        | (go_at_call 33
           refine (HW.out _ (by exact HT1.out)).mono ?_
           rintro x w2 ⟨rfl, hb2⟩
           have hb2' := undrew hb2
           have HB2 := Lib.hid hb2'
           have HL2 := Lib.hid (LogAt.kept HL1.out (Kept.of_below (S := fun _ => False) hb2') (fun hx => hx))
           have HP := Lib.hid (put_any w2 F.d k R)
           have S2 := HKp.out _ HL2.out
           clear hb2 hb2')
        | (go_at_call 32
           refine HP.out.mono ?_
           rintro x w3 ⟨a3, b3, c3, rfl, hs3, hb3⟩
           have HB3 := Lib.hid (HB2.out.trans (hb3.mono HB2.out.size))
           have hz3 := HB3.out.size
           have hL3 := LogAt.kept HL1.out (Kept.of_below (S := fun _ => False) HB3.out) (fun hx => hx)
           have HL3 := Lib.hid hL3
           have hD3 : DiskAt w3 F D := Raw.keep HD1.out (S := fun _ => False) (Kept.of_below HB3.out) (fun _ _ hx => hx)
           have hs3' : StepIs F.has w3 F.d (.func (.func 48) #[] #[.pointer (some ⟨a3, 0, none⟩), .pointer (some ⟨b3, 0, none⟩), .pointer (some ⟨c3, 0, none⟩)]) (.write k R) := hs3.go (Kept.refl _ _) (fun x hx => .inl (by have := hlt x hx; have := HB2.out.size; show x < w2.heap.size; omega))
           have hst3 := steps2 hs3' rfl (fun x hx => by have := hlt x hx; omega)
           have hb4 : Below w3.heap.size w3 (w3.alloc (.cells #[.func (.func 48) #[] #[.pointer (some ⟨a3, 0, none⟩), .pointer (some ⟨b3, 0, none⟩), .pointer (some ⟨c3, 0, none⟩)], .func (.func 29) #[.pointer (some ⟨F.d, 0, none⟩)] #[]] 61)) := (Below.refl _ w3).alloc (Nat.le_refl _) _
           have hL4 := LogAt.kept hL3 (Kept.of_below (S := fun _ => False) hb4) (fun hx => hx)
           have S3 := HKp.out _ hL3
           have S4 := HKp.out _ hL4
           have HQ := Lib.hid (lperf_any (show DiskAt _ F D from Raw.keep hD3 (S := fun _ => False) (Kept.of_below hb4) (fun _ _ hx => hx)) hbr hL4 (n := 2) rfl 2 hst3 (by intro σ hσ; simp at hσ; rcases hσ with rfl | rfl; exact hfit; trivial) (by simp; omega))
           unfold LPerf at HQ
           rw [HD'.out, HE.out] at HQ
           clear hs3 hb3 hL3 hD3 hs3' hst3 hL4)
        | (go_at_call 30
           refine HQ.out.mono ?_
           rintro x w5 ⟨rfl, F5, q1, q2, q3, q4, q5⟩
           have HX5 := Lib.hid (And.intro q1 (And.intro q2 (And.intro q3 (And.intro q4 q5))))
           have f2 := Blk.frozen q3 2
           have S5 : w5.cell? ⟨g, 0, none⟩ = some (.pointer (some ⟨F.d, 0, none⟩)) ∧ w5.cell? ⟨g, 1, none⟩ = some (.int .i64 (st : Int)) ∧ w5.cell? ⟨g, 2, none⟩ = some (.int .i64 (u : Int)) := ⟨Blk.cell q3 0, Blk.cell q3 1, Blk.cell q3 2⟩
           clear q1 q2 q3 q4 q5))
    all_goals
      go_wp2_with fail
      go_ret
      have hx : LNext (w3.alloc (.cells #[.func (.func 48) #[] #[.pointer (some ⟨a3, 0, none⟩), .pointer (some ⟨b3, 0, none⟩), .pointer (some ⟨c3, 0, none⟩)], .func (.func 29) #[.pointer (some ⟨F.d, 0, none⟩)] #[]] 61)) F g D' st u e D'.broken w5 := ⟨F5, HX5.out⟩
      rw [HBr.out] at hx ⊢
      refine ⟨rfl, ?_⟩
      show LNext w F g D' st u e true w5
      exact (hx.after (HB3.out.trans (hb4.mono HB3.out.size))).after HB1.out
  · have HE := Lib.hid he
    have HBr := Lib.hid hb
    clear hb he
    go_region_held3 (fun w' => w'.cell? ⟨g, 0, none⟩ = some (.pointer (some ⟨F.d, 0, none⟩)) ∧ w'.cell? ⟨g, 1, none⟩ = some (.int .i64 (st : Int)) ∧ w'.cell? ⟨g, 2, none⟩ = some (.int .i64 (u : Int)))
      (first | go_keep | (exact S2) | (exact S3) | (exact S4) | (exact S5))
      (first
        | (go_at_call 33
           refine (HW.out _ (by exact HT1.out)).mono ?_
           rintro x w2 ⟨rfl, hb2⟩
           have hb2' := undrew hb2
           have HB2 := Lib.hid hb2'
           have HL2 := Lib.hid (LogAt.kept HL1.out (Kept.of_below (S := fun _ => False) hb2') (fun hx => hx))
           have HP := Lib.hid (put_any w2 F.d k R)
           have S2 := HKp.out _ HL2.out
           clear hb2 hb2')
        | (go_at_call 32
           refine HP.out.mono ?_
           rintro x w3 ⟨a3, b3, c3, rfl, hs3, hb3⟩
           have HB3 := Lib.hid (HB2.out.trans (hb3.mono HB2.out.size))
           have hz3 := HB3.out.size
           have hL3 := LogAt.kept HL1.out (Kept.of_below (S := fun _ => False) HB3.out) (fun hx => hx)
           have HL3 := Lib.hid hL3
           have hD3 : DiskAt w3 F D := Raw.keep HD1.out (S := fun _ => False) (Kept.of_below HB3.out) (fun _ _ hx => hx)
           have hs3' : StepIs F.has w3 F.d (.func (.func 48) #[] #[.pointer (some ⟨a3, 0, none⟩), .pointer (some ⟨b3, 0, none⟩), .pointer (some ⟨c3, 0, none⟩)]) (.write k R) := hs3.go (Kept.refl _ _) (fun x hx => .inl (by have := hlt x hx; have := HB2.out.size; show x < w2.heap.size; omega))
           have hst3 := steps2 hs3' rfl (fun x hx => by have := hlt x hx; omega)
           have hb4 : Below w3.heap.size w3 (w3.alloc (.cells #[.func (.func 48) #[] #[.pointer (some ⟨a3, 0, none⟩), .pointer (some ⟨b3, 0, none⟩), .pointer (some ⟨c3, 0, none⟩)], .func (.func 29) #[.pointer (some ⟨F.d, 0, none⟩)] #[]] 61)) := (Below.refl _ w3).alloc (Nat.le_refl _) _
           have hL4 := LogAt.kept hL3 (Kept.of_below (S := fun _ => False) hb4) (fun hx => hx)
           have S3 := HKp.out _ hL3
           have S4 := HKp.out _ hL4
           have HQ := Lib.hid (lperf_any (show DiskAt _ F D from Raw.keep hD3 (S := fun _ => False) (Kept.of_below hb4) (fun _ _ hx => hx)) hbr hL4 (n := 2) rfl 2 hst3 (by intro σ hσ; simp at hσ; rcases hσ with rfl | rfl; exact hfit; trivial) (by simp; omega))
           unfold LPerf at HQ
           rw [HD'.out, HE.out] at HQ
           clear hs3 hb3 hL3 hD3 hs3' hst3 hL4)
        | (go_at_call 30
           refine HQ.out.mono ?_
           rintro x w5 ⟨rfl, F5, q1, q2, q3, q4, q5⟩
           have HX5 := Lib.hid (And.intro q1 (And.intro q2 (And.intro q3 (And.intro q4 q5))))
           have f2 := Blk.frozen q3 2
           have S5 : w5.cell? ⟨g, 0, none⟩ = some (.pointer (some ⟨F.d, 0, none⟩)) ∧ w5.cell? ⟨g, 1, none⟩ = some (.int .i64 (st : Int)) ∧ w5.cell? ⟨g, 2, none⟩ = some (.int .i64 (u : Int)) := ⟨Blk.cell q3 0, Blk.cell q3 1, Blk.cell q3 2⟩
           clear q1 q2 q3 q4 q5))
    all_goals
      go_wp2_with fail
      go_ret
      have hx : LNext (w3.alloc (.cells #[.func (.func 48) #[] #[.pointer (some ⟨a3, 0, none⟩), .pointer (some ⟨b3, 0, none⟩), .pointer (some ⟨c3, 0, none⟩)], .func (.func 29) #[.pointer (some ⟨F.d, 0, none⟩)] #[]] 61)) F g D' st u e D'.broken w5 := ⟨F5, HX5.out⟩
      rw [HBr.out] at hx ⊢
      refine ⟨rfl, ?_⟩
      have hy := (hx.after (HB3.out.trans (hb4.mono HB3.out.size))).after HB1.out
      exact hy.used _
end
end Go.Proofs.YtggecdgomgmhmaaDoor
