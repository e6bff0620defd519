/-
  Parts that a slice literal lays, for statements whose order is open; what Sum tells of them; a place in a text. Condition: the tables hold what their text says.
-/
import Derived.Test.YthaejfbbefpojaaDoorAnyOrder
import Derived.Test.YthaejfbbefpojaaDoorShS
import Derived.Lib.MinMax
namespace Go.Proofs.YthaejfbbefpojaaDoor
open Go.RowKit

def LaidL (l : List ByteArray) (v : Value) (w : World) : Prop := ∃ g, v = .slice (some ⟨g, 0, none⟩) l.length l.length ∧ Blk w g 9 (cs l).toArray
theorem LaidL.below {l : List ByteArray} {v : Value} {w w' : World} (h : LaidL l v w) (hb : Below w.heap.size w w') : LaidL l v w' := by
  obtain ⟨g, rfl, hg⟩ := h
  exact ⟨g, rfl, hg.of (hb.block g hg.lt)⟩
theorem LaidL.new (l : List ByteArray) (w : World) : LaidL l (.slice (some ⟨w.heap.size, 0, none⟩) l.length l.length) (w.alloc (.cells (cs l).toArray 9)) := ⟨w.heap.size, rfl, Blk.new _ _ _⟩
theorem LaidL.sum {l : List ByteArray} (hl : l.length ≤ 1000) (hs : len l ≤ 100000) (D : ByteArray) (hD : ba (dig (tx l).flatten) = D) (w : World) (v : Value) (h : LaidL l v w) (ht : Tab w) :
    Calls Tryd.prog 16 #[v] w fun e w' => ∃ u, e = .returned u ∧ (u = .string D ∧ Below w.heap.size w w') := by
  subst hD
  obtain ⟨g, rfl, hg⟩ := h
  refine (sum_any l hl hs (some ⟨g, 0, none⟩) l.length w (fun i u hi => ?_) ht).mono fun e w' h => ⟨_, h.1, rfl, h.2⟩
  have hadd : (⟨g, 0, none⟩ : Addr).add i = ⟨g, i, none⟩ := by unfold Addr.add; split <;> simp_all
  exact ⟨_, rfl, hg.lt, fun h => h, by rw [hadd, hg.cell]; simpa using hi⟩
theorem sum_none (D : ByteArray) (hD : ba (dig []) = D) (w : World) (ht : Tab w) :
    Calls Tryd.prog 16 #[.slice none 0 0] w fun e w' => ∃ u, e = .returned u ∧ (u = .string D ∧ Below w.heap.size w w') := by
  subst hD
  exact (sum_any [] (by decide) (by decide) none 0 w (Lies.none w none) ht).mono fun e w' h => ⟨_, h.1, rfl, h.2⟩
theorem same_str (D : ByteArray) : (D.toList == D.toList) = true := by rw [str_beq]; simp
end Go.Proofs.YthaejfbbefpojaaDoor
