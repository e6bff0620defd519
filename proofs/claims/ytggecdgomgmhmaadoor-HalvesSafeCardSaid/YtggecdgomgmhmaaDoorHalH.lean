/-
  Contracts of package halves: a log's perform, Append. Condition: the disk lies in memory as New lays it and is not broken, the log as its calls lay it; fewer than 900 writes are pending; the table of crc holds what its text says.
-/
import Derived.Test.YtggecdgomgmhmaaDoorHalG
namespace Go.Proofs.YtggecdgomgmhmaaDoor
open Go.RowKit

/-- What a call on a log leaves. -/
def LNext (w : World) (F : Foot) (g : Nat) (D : Dsk) (st u e : Nat) (br : Bool) (w' : World) : Prop :=
  ∃ F' : Foot, F'.d = F.d ∧ DiskAt w' F' D ∧ LogAt w' g F.d st u e br ∧ Kept (fun x => F.has x ∨ x = g) w w' ∧ ∀ x, F'.has x → F.has x ∨ w.heap.size ≤ x

theorem LNext.after {w w1 w' : World} {F : Foot} {g : Nat} {D : Dsk} {st u e : Nat} {br : Bool} (h : LNext w1 F g D st u e br w') (hb : Below w.heap.size w w1) : LNext w F g D st u e br w' := by
  obtain ⟨F', h1, h2, h3, h4, h5⟩ := h
  refine ⟨F', h1, h2, h3, (Kept.of_below (S := fun x => F.has x ∨ x = g) hb).trans h4 (fun x hx => .inl hx), fun x hx => ?_⟩
  rcases h5 x hx with e | e
  · exact .inl e
  · have := hb.size; exact .inr (by omega)
theorem LogAt.kept {S : Nat → Prop} {w w' : World} {g d st u e : Nat} {br : Bool} (h : LogAt w g d st u e br) (hk : Kept S w w') (hS : ¬ S g) : LogAt w' g d st u e br := Blk.of h (hk.block _ (Blk.lt h) hS)
theorem Steps.go {S S' : Nat → Prop} {w w' : World} {d : Nat} {A : Option Addr} {σs : List St} (h : Steps S w d A σs) (hk : Kept S w w') (hS' : ∀ x, S' x → S x ∨ w.heap.size ≤ x) : Steps S' w' d A σs := by
  obtain ⟨fs, h1, h2, h3⟩ := h
  refine ⟨fs, h1, fun i u hi => ?_, fun j f σ hf hσ => (h3 j f σ hf hσ).go hk hS'⟩
  obtain ⟨a, e1, e2, e3, e4⟩ := h2 i u hi
  refine ⟨a, e1, Nat.lt_of_lt_of_le e2 hk.size, fun hs => ?_, ?_⟩
  · rcases hS' _ hs with e | e
    · exact e3 e
    · omega
  · rw [← e4]
    exact World.cell?_of_block (by rw [add_block]; exact hk.block _ e2 e3)

section
variable {w : World} {F : Foot} {D : Dsk}
def LPerf (w : World) (F : Foot) (g : Nat) (σs : List St) (D : Dsk) (st u e : Nat) (x : Ending) (w' : World) : Prop :=
  x = .returned (.int .i64 (errOf (runD σs D).broken)) ∧ LNext w F g (runD σs D) st u e (runD σs D).broken w'
theorem lperf_any (h : DiskAt w F D) (hbr : D.broken = false) {g st u e : Nat} (hL : LogAt w g F.d st u e false) {A : Option Addr} {σs : List St} {n : Nat} (hn : σs.length = n) (c : Nat) (hS : Steps F.has w F.d A σs) (hfit : ∀ σ ∈ σs, σ.fits D.n) (hp : D.pend.length + σs.length < 1000) :
    Calls Tryd.prog 30 #[.pointer (some ⟨g, 0, none⟩), .slice A n c] w (LPerf w F g σs D st u e) := by
  subst hn
  have HP := Lib.hid (perform_any h hbr c hS hfit hp)
  have hoff : ¬ F.has g := LogAt.off hL h
  have HL := Lib.hid hL
  unfold LPerf
  unfold PerfPost at HP
  generalize runD σs D = D' at HP ⊢
  obtain ⟨n', dur', pend', left', br'⟩ := D'
  clear h hS hfit hL
  simp only at HP ⊢
  cases br' with
  | true =>
    rw [show errOf true = 18 from rfl] at HP ⊢
    go_enter Tryd.func30, Tryd.ntmps30
    go_wp2_with (go_at_call 27
                 refine HP.out.mono ?_
                 rintro x w1 ⟨rfl, hn⟩
                 obtain ⟨F1, g1, g2, g3, g4⟩ := hn.out
                 have hL1 := HL.out.kept g3 hoff
                 have e4 := Blk.cell hL1 4
                 have f4 := Blk.frozen hL1 4
                 simp only [List.getElem?_toArray, List.getElem?_cons_zero, List.getElem?_cons_succ] at e4
                 have HL1 := Lib.hid hL1
                 have HX := Lib.hid (And.intro g1 (And.intro g2 (And.intro g3 g4)))
                 clear hL1 g1 g2 g3 g4 hn)
    go_ret
    obtain ⟨g1, g2, g3, g4⟩ := HX.out
    have hk : Kept (· = g) w1 (w1.setCell ⟨g, 4, none⟩ (.bool true)) := (Kept.refl (· = g) w1).here 4 _
    have hof1 : ¬ F1.has g := LogAt.off (w := w1) HL1.out g2
    exact ⟨rfl, F1, g1, Raw.keep g2 hk (fun x hx he => by have he' : x = g := he; subst he'; exact hof1 hx), Blk.set_ HL1.out 4 _, (g3.mono (T := fun x => F.has x ∨ x = g) (fun x hx => .inl (.inl hx))).trans hk (fun x hx => .inl (.inr hx)), g4⟩
  | false =>
    rw [show errOf false = 0 from rfl] at HP ⊢
    go_enter Tryd.func30, Tryd.ntmps30
    go_wp2_with (go_at_call 27
                 refine HP.out.mono ?_
                 rintro x w1 ⟨rfl, hn⟩
                 obtain ⟨F1, g1, g2, g3, g4⟩ := hn.out
                 have hL1 := HL.out.kept g3 hoff
                 have e4 := Blk.cell hL1 4
                 have f4 := Blk.frozen hL1 4
                 simp only [List.getElem?_toArray, List.getElem?_cons_zero, List.getElem?_cons_succ] at e4
                 have HL1 := Lib.hid hL1
                 have HX := Lib.hid (And.intro g1 (And.intro g2 (And.intro g3 g4)))
                 clear hL1 g1 g2 g3 g4 hn)
    go_ret
    obtain ⟨g1, g2, g3, g4⟩ := HX.out
    have hk : Kept (· = g) w1 (w1.setCell ⟨g, 4, none⟩ (.bool false)) := (Kept.refl (· = g) w1).here 4 _
    have hof1 : ¬ F1.has g := LogAt.off (w := w1) HL1.out g2
    exact ⟨rfl, F1, g1, Raw.keep g2 hk (fun x hx he => by have he' : x = g := he; subst he'; exact hof1 hx), Blk.set_ HL1.out 4 _, (g3.mono (T := fun x => F.has x ∨ x = g) (fun x hx => .inl (.inl hx))).trans hk (fun x hx => .inl (.inr hx)), g4⟩
end
end Go.Proofs.YtggecdgomgmhmaaDoor
