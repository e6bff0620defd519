/-
  Words for four bytes of a sum, and for texts as lists. No condition.
-/
import Derived.Test.YtgbopohbhnpceaaDoorCrcSumA
import Derived.Deep.RegionWith
namespace Go.Proofs.YtgbopohbhnpceaaDoor
open Go.RowKit

def bytes4 (x0 x1 x2 x3 : Int) : ByteArray := ⟨#[UInt8.ofNat x0.toNat, UInt8.ofNat x1.toNat, UInt8.ofNat x2.toNat, UInt8.ofNat x3.toNat]⟩
theorem run_bytes4 (W : World) (x0 x1 x2 x3 : Int) :
    (convert 26 9 (.slice (some ⟨W.heap.size, 0, none⟩) 4 4)).run Tryd.prog (W.alloc (.cells #[.int .u8 x0, .int .u8 x1, .int .u8 x2, .int .u8 x3] 5)) = .ok (.string (bytes4 x0 x1 x2 x3)) (W.alloc (.cells #[.int .u8 x0, .int .u8 x1, .int .u8 x2, .int .u8 x3] 5)) := by
  rw [run_convert_bytes_string _ _ _ 5 _ _ _ Tryd.underlying26 Tryd.underlying5 Tryd.underlying9]
  rw [run_bytesToString _ _ 4 4 [x0, x1, x2, x3]]
  · rfl
  · refine (run_loadCells_list _ _ ([.int .u8 x0, .int .u8 x1, .int .u8 x2, .int .u8 x3] : List Value) ?_).trans rfl
    intro j v hj
    have : (⟨W.heap.size, 0, none⟩ : Addr).add j = ⟨W.heap.size, j, none⟩ := by cases j <;> simp [Addr.add]
    rw [this, World.cell?_alloc_at _ _ _ _ rfl]
    simpa using hj

theorem ofNat_mod (n : Nat) : UInt8.ofNat (n % 256) = UInt8.ofNat n := by
  apply UInt8.toNat_inj.1
  simp
theorem bytes4_le4 (q : BitVec 32) : bytes4 (R q % 256) (R q / 256 % 256) (R q / 65536 % 256) (R q / 16777216 % 256) = ⟨(Crc.le4 q).toArray⟩ := by
  unfold bytes4 Crc.le4
  have e : ∀ d : Nat, (((q.toNat : Int) / (d : Int)) % 256).toNat = (q.toNat / d) % 256 := by intro d; omega
  have e1 : (R q % 256).toNat = q.toNat % 256 := by unfold R; omega
  have e2 : (R q / 256 % 256).toNat = q.toNat / 256 % 256 := e 256
  have e3 : (R q / 65536 % 256).toNat = q.toNat / 65536 % 256 := e 65536
  have e4 : (R q / 16777216 % 256).toNat = q.toNat / 16777216 % 256 := e 16777216
  rw [e1, e2, e3, e4, ofNat_mod, ofNat_mod, ofNat_mod, ofNat_mod]

theorem ret_string {a b : ByteArray} (h : a = b) : Ending.returned (.string a) = .returned (.string b) := by rw [h]

/-- The four bytes of a seal. -/
def sealOf (l : List UInt8) : ByteArray := ⟨(Crc.le4 (Crc.sum l)).toArray⟩
theorem sealOf_size (l : List UInt8) : (sealOf l).size = 4 := rfl
theorem undrew {B : Nat} {w w' : World} (h : Below B w.drew w') : Below B w w' := ⟨h.os, h.tape, h.output, h.size, h.block⟩
theorem data_append (a b : ByteArray) : (a ++ b).data.toList = a.data.toList ++ b.data.toList := by
  rw [ByteArray.data_append, Array.toList_append]
theorem size_list (a : ByteArray) : a.data.toList.length = a.size := by simp
theorem eq_of_list {a b : ByteArray} (h : a.data.toList = b.data.toList) : a = b := by
  apply ByteArray.ext
  exact Array.toList_inj.1 h
theorem extract_list (s : ByteArray) (i j : Nat) : (s.extract i j).data.toList = (s.data.toList.drop i).take (j - i) := by
  simp [List.extract_eq_take_drop]
end Go.Proofs.YtgbopohbhnpceaaDoor
