/-
  Contracts of package pack, the writer: number, text, String. What a writer is in memory; how a text is appended to it. Condition: the writer lies in memory as its calls lay it.
-/
import Derived.Test.YtggecdgomgmhmaaDoorWords
import Derived.Test.YtggecdgomgmhmaaDoorPk
namespace Go.Proofs.YtggecdgomgmhmaaDoor
open Go.RowKit

section
variable {P : Program}
end

/-- A writer in memory. -/
structure WrAt (w : World) (d : Nat) (v : Value) (l : List UInt8) : Prop where
  blk : Blk w d 83 #[v]
  own : w.ownsRow 0 5 1 v l.length (cb l)
def foot (d : Nat) (v : Value) (k : Nat) : Prop := k = d ∨ v.ownBlock = some k
section
variable {w w0 w1 w' : World} {d : Nat} {v v' : Value} {l m : List UInt8}
theorem WrAt.lt (h : WrAt w d v l) : ∀ k, foot d v k → k < w.heap.size := by
  rintro k (rfl | hk)
  · exact h.blk.lt
  · exact own_lt h.own hk
theorem WrAt.of (h : WrAt w d v l) (hk : ∀ k, foot d v k → w'.heap[k]? = w.heap[k]?) : WrAt w' d v l :=
  ⟨h.blk.of (hk _ (.inl rfl)), own_of h.own (fun _ hb => hk _ (.inr hb))⟩
theorem WrAt.below (h : WrAt w d v l) (hb : Below w.heap.size w w') : WrAt w' d v l := h.of (fun k hk => hb.block k (h.lt k hk))
theorem WrAt.kept {S : Nat → Prop} (h : WrAt w d v l) (hb : Kept S w w') (hS : ∀ k, foot d v k → ¬ S k) : WrAt w' d v l := h.of (fun k hk => hb.block k (h.lt k hk) (hS k hk))
theorem WrAt.form (h : WrAt w d v l) : ∃ A c, v = .slice A l.length c := by
  rcases h.own.2 with ⟨rfl, h0⟩ | ⟨g, cap, cur, rfl, _⟩
  · exact ⟨none, 0, by rw [h0]⟩
  · exact ⟨_, _, rfl⟩
theorem WrAt.ne_ (h : WrAt w d v l) : v.ownBlock ≠ some d := own_blk_ne h.own h.blk (by decide)

/-- What a call leaves that writes. -/
def Wrote (w : World) (d : Nat) (v : Value) (l : List UInt8) (w' : World) : Prop :=
  ∃ v', WrAt w' d v' l ∧ Kept (foot d v) w w' ∧ ∀ k, foot d v' k → foot d v k ∨ w.heap.size ≤ k
theorem Wrote.trans {v1 : Value} (hk : Kept (foot d v) w w1) (hf : ∀ k, foot d v1 k → foot d v k ∨ w.heap.size ≤ k) (h : Wrote w1 d v1 l w') : Wrote w d v l w' := by
  obtain ⟨v2, h1, h2, h3⟩ := h
  refine ⟨v2, h1, hk.trans h2 hf, fun k hk2 => ?_⟩
  rcases h3 k hk2 with h | h
  · exact hf k h
  · have := hk.size
    exact .inr (by omega)
theorem WrAt.wrote (h : WrAt w d v l) : Wrote w d v l w := ⟨v, h, Kept.refl _ _, fun _ hk => .inl hk⟩

/-- The step: memory is made, bytes are appended, the writer's cell is stored. -/
theorem WrAt.push (h : WrAt w d v l) (hb : Below w.heap.size w w0) {n : Nat} (hn : n = l.length + m.length) (hown : w1.ownsRow 0 5 1 v' n (cb l ++ cb m)) (hgrow : w0.grownBy w1 v.ownBlock)
    (hat : ∀ k, v'.ownBlock = some k → v.ownBlock = some k ∨ w0.heap.size ≤ k) : Wrote w d v (l ++ m) (w1.setCell ⟨d, 0, none⟩ v') := by
  have h0 := h.below hb
  have hd1 : Blk w1 d 83 #[v] := h0.blk.of (hgrow.block _ h0.blk.lt (fun e => h.ne_ e.symm))
  have k0 : Kept (foot d v) w w0 := Kept.of_below hb
  refine ⟨v', ⟨hd1.set_ 0 v', ?_⟩, ?_, ?_⟩
  · have e1 : cb l ++ cb m = cb (l ++ m) := by simp [cb]
    have e2 : (l ++ m).length = n := by simp [hn]
    rw [e1] at hown
    rw [e2]
    exact own_of hown (fun _ e => Below.heap_setCell _ _ _ _ (fun e' => own_blk_ne hown hd1 (by decide) (by rw [e, e'])))
  · exact (k0.grown hgrow (fun x hx => .inl (.inr hx))).setCell (p := ⟨d, 0, none⟩) (.inl (.inl rfl)) _
  · rintro k (rfl | hk)
    · exact .inl (.inl rfl)
    · rcases hat k hk with e | e
      · exact .inl (.inr e)
      · have := hb.size
        exact .inr (by omega)
end
end Go.Proofs.YtggecdgomgmhmaaDoor
