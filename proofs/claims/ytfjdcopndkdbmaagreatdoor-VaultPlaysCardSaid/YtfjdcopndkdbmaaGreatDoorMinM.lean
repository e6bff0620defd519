/-
  A meter, or none, in one word: what Sum of it tells and counts. Condition: the tables hold what their text says.
-/
import Derived.Test.YtfjdcopndkdbmaaGreatDoorShb
namespace Go.Proofs.YtfjdcopndkdbmaaGreatDoor
open Go.RowKit

theorem Tab.kept {S : Nat → Prop} {w w' : World} (h : Tab w) (hk : Kept S w w') (h1 : ¬ S 1) (h2 : ¬ S 0) : Tab w' :=
  ⟨fun i hi => (World.cell?_of_block (hk.block _ h.ltK h1)).trans (h.K i hi), fun i hi => (World.cell?_of_block (hk.block _ h.ltH h2)).trans (h.H i hi)⟩
/-- A meter, or none: its value, its blocks, how much it counted. -/
structure Mt (mp : Option Addr) (S : Nat → Prop) (st : World → Nat → Prop) : Prop where
  sum : ∀ (l : List ByteArray) (A : Option Addr) (c k : Nat) (W : World), l.length ≤ 1000 → len l ≤ 100000 → k ≤ 1000000 → Lies S W A (cs l) → st W k → Tab W →
    Calls Tryz.prog 68 #[.pointer mp, .slice A l.length c] W fun e W' => e = .returned (.string (ba (dig (tx l).flatten))) ∧ st W' (k + 1) ∧ Kept S W W'
  stay : ∀ (W W' : World) (k : Nat), st W k → (∀ b, S b → W'.heap[b]? = W.heap[b]?) → st W' k
  low : ∀ (W : World) (k : Nat), st W k → ∀ b, S b → b < W.heap.size
  apart : ¬ S 1 ∧ ¬ S 0
theorem Mt.nil : Mt none (fun _ => False) (fun _ _ => True) :=
  ⟨fun l A c _ W h1 h2 _ hA _ hT => (msum_nil l h1 h2 A c W hA hT).mono fun _ _ h => ⟨h.1, trivial, Kept.of_below h.2⟩, fun _ _ _ _ _ => trivial, fun _ _ _ _ h => h.elim, ⟨fun h => h, fun h => h⟩⟩
theorem Mt.below {mp : Option Addr} {S : Nat → Prop} {st : World → Nat → Prop} (M : Mt mp S st) {W W' : World} {k : Nat} (h : st W k) (hb : Below W.heap.size W W') : st W' k := M.stay W W' k h fun b hS => hb.block b (M.low W k h b hS)
theorem Mt.tab {mp : Option Addr} {S : Nat → Prop} {st : World → Nat → Prop} (M : Mt mp S st) {W W' : World} (h : Tab W) (hk : Kept S W W') : Tab W' := h.kept hk M.apart.1 M.apart.2
/-- Two parts that a slice literal lays, a while behind w. -/
theorem Mt.two {mp : Option Addr} {S : Nat → Prop} {st : World → Nat → Prop} (M : Mt mp S st) (X Y : ByteArray) (hs : X.size + Y.size ≤ 100000) (k : Nat) (hk : k ≤ 1000000) (w : World) (hst : st w k) (hT : Tab w) (W : World) (hb : Below w.heap.size w W) :
    Calls Tryz.prog 68 #[.pointer mp, .slice (some ⟨W.heap.size, 0, none⟩) 2 2] (W.alloc (.cells #[.string X, .string Y] 9)) fun e w' =>
      e = .returned (.string (ba (dig (X.data.toList ++ Y.data.toList)))) ∧ st w' (k + 1) ∧ Kept S w w' := by
  have hstW := M.below hst hb
  have hlow : ¬ S W.heap.size := fun h => Nat.lt_irrefl _ (M.low W k hstW _ h)
  have hb2 : Below w.heap.size w (W.alloc (.cells #[.string X, .string Y] 9)) := hb.alloc hb.size _
  refine (M.sum [X, Y] _ 2 k _ (by simp) (by simpa [len] using hs) hk (lies_lit S [X, Y] W hlow) (M.below hst hb2) (hT.next hb2)).mono ?_
  rintro e w' ⟨he, h1, h2⟩
  refine ⟨by rw [he]; simp [tx], h1, (Kept.of_below hb2).trans h2 (fun _ h => .inl h)⟩
end Go.Proofs.YtfjdcopndkdbmaaGreatDoor
