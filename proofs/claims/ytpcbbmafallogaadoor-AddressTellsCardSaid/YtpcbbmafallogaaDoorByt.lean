/-
  Bytes that lie in a block of their own: made from a text, turned one by one, made a text again. No condition.
-/
import Derived.Lib.ConvBytes
import Derived.Test.YtpcbbmafallogaaDoorWords
namespace Go.Proofs.YtpcbbmafallogaaDoor
open Go.RowKit

/-- The bytes l lie in block b. -/
def BL (w : World) (b : Nat) (l : List UInt8) : Prop := ∀ j (h : j < l.length), w.cell? ⟨b, j, none⟩ = some (.int .u8 (l[j].toNat : Int)) ∧ w.frozen? ⟨b, j, none⟩ = false
theorem BL.set {w : World} {b : Nat} {l : List UInt8} (h : BL w b l) (k : Nat) (hk : k < l.length) (x : UInt8) : BL (w.setCell ⟨b, k, none⟩ (.int .u8 (x.toNat : Int))) b (l.set k x) := by
  intro j hj
  have hj' : j < l.length := by simpa using hj
  refine ⟨?_, (World.frozen?_setCell _ _ _ _).trans (h j hj').2⟩
  by_cases e : j = k
  · subst e
    rw [World.cell?_setCell_same _ _ _ (h j hj').1]
    simp
  · have hne : (⟨b, k, none⟩ : Addr) ≠ ⟨b, j, none⟩ := by intro he; exact e (congrArg Addr.off he).symm
    rw [World.cell?_setCell_other _ _ _ _ hne, (h j hj').1, List.getElem_set_ne (by omega)]
theorem BL.new (w : World) (s : ByteArray) : BL (Lib.bytesWorld w 5 s) w.heap.size s.data.toList := by
  intro j hj
  have hj' : j < s.size := by simpa using hj
  constructor
  · rw [Lib.bytesWorld_cell w 5 s j hj', List.getD_eq_getElem?_getD, List.getElem?_eq_getElem hj]
    rfl
  · have h1 : j < (Lib.bytesCells w 5 s).size := by simp [Lib.bytesCells]; omega
    simp [World.frozen?, Lib.bytesWorld_at_new]
    omega
theorem BL.below {w w' : World} {b B : Nat} {l : List UInt8} (h : BL w b l) (hb : Below B w w') (hB : b < B) : BL w' b l := fun j hj =>
  ⟨(hb.cell (p := ⟨b, j, none⟩) hB).trans (h j hj).1, (World.frozen?_of_block (a := ⟨b, j, none⟩) (hb.block b hB)).trans (h j hj).2⟩
theorem below_bytes (w : World) (s : ByteArray) : Below w.heap.size w (Lib.bytesWorld w 5 s) :=
  ⟨rfl, rfl, rfl, by rw [Lib.bytesWorld_size]; omega, fun k hk => Lib.bytesWorld_at_old w _ s k hk⟩
theorem run_bytes_of (W : World) (s : ByteArray) : (convert 9 31 (.string s)).run Tryd.prog W = .ok (.slice (some ⟨W.heap.size, 0, none⟩) s.size (grownCap W s.size 0 5)) (Lib.bytesWorld W 5 s) :=
  Lib.run_convert_string_bytes (P := Tryd.prog) W 9 31 5 s Tryd.underlying9 Tryd.underlying31 Tryd.underlying5
theorem BL.text {w : World} {b : Nat} {l : List UInt8} (h : BL w b l) (n cap : Nat) (hn : l.length = n) :
    (convert 31 9 (.slice (some ⟨b, 0, none⟩) n cap)).run Tryd.prog w = .ok (.string (ba l)) w := by
  have e : strOfNums (l.map fun x => (x.toNat : Int)) = ba l := by
    unfold strOfNums ba
    rw [List.map_map]
    congr 2
    conv => rhs; rw [← List.map_id l]
    apply List.map_congr_left
    intro x _
    simp
  rw [← e]
  refine run_convert_bytes_arg (P := Tryd.prog) w 31 5 Tryd.underlying31 Tryd.underlying5 b 0 n cap _ (by simpa using hn) ?_ 9 Tryd.underlying9
  intro i hi
  rw [Nat.zero_add, (h i (by omega)).1, List.getD_eq_getElem?_getD, List.getElem?_map, List.getElem?_eq_getElem (by omega)]
  rfl
end Go.Proofs.YtpcbbmafallogaaDoor
