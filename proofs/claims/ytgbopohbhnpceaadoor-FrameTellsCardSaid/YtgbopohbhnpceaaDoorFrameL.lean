/-
  Contracts of the statements' helper awake (layer 4), and rows of bytes 0 that are made and turned into texts. Condition of awake: the table of crc holds what its text says.
-/
import Derived.Test.YtgbopohbhnpceaaDoorFrameA
import Derived.Test.YtgbopohbhnpceaaDoorShort04
namespace Go.Proofs.YtgbopohbhnpceaaDoor
open Go.RowKit

theorem awake_wrap : ((ba (Fr.wrap [97])).toList == ([165, 1, 0, 67, 190, 183, 232, 97, 90] : List UInt8)) = true := by
  rw [ByteArray.toList_eq, ba_list]
  decide +kernel

theorem awake_any (w : World) (ht : Tab w) :
    Calls Tryd.prog 9 #[] w fun e w' => e = .returned (.bool true) ∧ Below w.heap.size w w' := by
  have HP := Lib.hid (wrap_any ⟨#[97]⟩ w ht (by decide))
  have hx := awake_wrap
  have hl : (⟨#[97]⟩ : ByteArray).data.toList = [97] := rfl
  rw [hl] at HP
  generalize ba (Fr.wrap [97]) = Z at HP hx
  go_enter Tryd.func9, Tryd.ntmps9
  go_wp2_with (go_at_call 19; refine HP.out.mono ?_; rintro e w' ⟨rfl, hb⟩)
  go_ret
  exact ⟨rfl, hb⟩

theorem zeros_made (n : Nat) : madeCells (Value.int .u8 0).cells n = (cb (List.replicate n 0)).toArray := by
  apply Array.ext
  · simp [madeCells, cb]
  · intro i h1 h2
    simp [madeCells, cb, Value.cells, Nat.mod_one]
theorem make_bytes (n : Nat) (h : n ≤ 131072) : ∀ W : World, (Instr.makeSlice 26 (.int .i64 (n : Int)) (.int .i64 (n : Int))).run Tryd.prog W = .ok (.slice (some ⟨W.heap.size, 0, none⟩) n n) (W.alloc (.cells (cb (List.replicate n 0)).toArray 5)) := by
  intro W
  obtain ⟨i, hi, hz, hs, hb⟩ := info_u8
  have hr := run_make (P := Tryd.prog) W 26 5 i (.int .u8 0) Tryd.underlying26 hi hz .i64 .i64 n n (by omega) (by omega) (by rw [hb]; omega) (by omega)
  rw [hr, hs]
  simp only [Int.toNat_natCast, Nat.mul_one, zeros_made]
/-- A row of bytes, as a text. -/
theorem run_blk_text {W : World} {g : Nat} {l : List UInt8} {n : Nat} (hn : l.length = n) (c : Nat) (h : Blk W g 5 (cb l).toArray) :
    (convert 26 9 (.slice (some ⟨g, 0, none⟩) n c)).run Tryd.prog W = .ok (.string (ba l)) W := by
  subst hn
  exact run_convert_bytes_back (P := Tryd.prog) W 26 9 5 ⟨g, 0, none⟩ c l Tryd.underlying26 Tryd.underlying5 Tryd.underlying9 (by
    intro i hi
    have e : (⟨g, 0, none⟩ : Addr).add i = ⟨g, i, none⟩ := by cases i <;> simp [Addr.add]
    first | (rw [e]; rw [h.cell]; simpa using cb_get l i hi) | (rw [h.cell]; simpa using cb_get l i hi))
theorem Blk.below {w w' : World} {g B : Nat} {t : TypeId} {cs : Array Value} (h : Blk w g t cs) (hb : Below B w w') (hg : g < B) : Blk w' g t cs := h.of (hb.block g hg)
end Go.Proofs.YtgbopohbhnpceaaDoor
