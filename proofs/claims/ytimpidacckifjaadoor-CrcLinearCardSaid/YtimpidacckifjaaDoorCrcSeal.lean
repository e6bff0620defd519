/-
  Contracts of crc.seal, crc.Seal and crc.Open at texts of at most 1000 bytes: what they return, in terms of the checksum; they write nothing that was there. Condition: the table holds what its text says.
-/
import Derived.Test.YtimpidacckifjaaDoorCrcSum
import Derived.Deep.RegionWith
namespace Go.Proofs.YtimpidacckifjaaDoor
open Go.RowKit

def bytes4 (x0 x1 x2 x3 : Int) : ByteArray := ⟨#[UInt8.ofNat x0.toNat, UInt8.ofNat x1.toNat, UInt8.ofNat x2.toNat, UInt8.ofNat x3.toNat]⟩
theorem run_bytes4 (W : World) (x0 x1 x2 x3 : Int) :
    (convert 37 9 (.slice (some ⟨W.heap.size, 0, none⟩) 4 4)).run Tryd.prog (W.alloc (.cells #[.int .u8 x0, .int .u8 x1, .int .u8 x2, .int .u8 x3] 5)) = .ok (.string (bytes4 x0 x1 x2 x3)) (W.alloc (.cells #[.int .u8 x0, .int .u8 x1, .int .u8 x2, .int .u8 x3] 5)) := by
  rw [run_convert_bytes_string _ _ _ 5 _ _ _ Tryd.underlying37 Tryd.underlying5 Tryd.underlying9]
  rw [run_bytesToString _ _ 4 4 [x0, x1, x2, x3]]
  · rfl
  · refine (run_loadCells_list _ _ ([.int .u8 x0, .int .u8 x1, .int .u8 x2, .int .u8 x3] : List Value) ?_).trans rfl
    intro j v hj
    have : (⟨W.heap.size, 0, none⟩ : Addr).add j = ⟨W.heap.size, j, none⟩ := by cases j <;> simp [Addr.add]
    rw [this, World.cell?_alloc_at _ _ _ _ rfl]
    simpa using hj

theorem ofNat_mod (n : Nat) : UInt8.ofNat (n % 256) = UInt8.ofNat n := by
  apply UInt8.toNat_inj.1
  simp
theorem bytes4_le4 (q : BitVec 32) : bytes4 (R q % 256) (R q / 256 % 256) (R q / 65536 % 256) (R q / 16777216 % 256) = ⟨(Crc.le4 q).toArray⟩ := by
  unfold bytes4 Crc.le4
  have e : ∀ d : Nat, (((q.toNat : Int) / (d : Int)) % 256).toNat = (q.toNat / d) % 256 := by intro d; omega
  have e1 : (R q % 256).toNat = q.toNat % 256 := by unfold R; omega
  have e2 : (R q / 256 % 256).toNat = q.toNat / 256 % 256 := e 256
  have e3 : (R q / 65536 % 256).toNat = q.toNat / 65536 % 256 := e 65536
  have e4 : (R q / 16777216 % 256).toNat = q.toNat / 16777216 % 256 := e 16777216
  rw [e1, e2, e3, e4, ofNat_mod, ofNat_mod, ofNat_mod, ofNat_mod]

theorem ret_string {a b : ByteArray} (h : a = b) : Ending.returned (.string a) = .returned (.string b) := by rw [h]

/-- The four bytes of a seal. -/
def sealOf (l : List UInt8) : ByteArray := ⟨(Crc.le4 (Crc.sum l)).toArray⟩

theorem seal_any (s : ByteArray) (w : World) (ht : Tab w) (hs : s.size ≤ 1000) :
    Calls Tryd.prog 21 #[.string s] w fun e w' => e = .returned (.string (sealOf s.data.toList)) ∧ Below w.heap.size w w' := by
  have HP := Lib.hid (sum_one s w ht (by unfold maxLen; omega))
  have hcv := run_bytes4
  have HB := Lib.hid (bytes4_le4 (Crc.sum s.data.toList))
  go_enter Tryd.func21, Tryd.ntmps21
  go_wp2_with (go_at_call 13; refine HP.out.mono ?_; rintro e w' ⟨rfl, hb⟩)
  go_ret
  exact ⟨ret_string HB.out, hb.alloc hb.size _⟩

theorem sealOf_size (l : List UInt8) : (sealOf l).size = 4 := rfl

theorem Seal_any (s : ByteArray) (w : World) (ht : Tab w) (hs : s.size ≤ 1000) :
    Calls Tryd.prog 19 #[.string s] w fun e w' => e = .returned (.string (s ++ sealOf s.data.toList)) ∧ Below w.heap.size w w' := by
  have HP := Lib.hid (seal_any s w ht hs)
  have hz : (sealOf s.data.toList).size ≤ 4 := Nat.le_refl _
  go_enter Tryd.func19, Tryd.ntmps19
  go_wp2_with (go_at_call 21; refine HP.out.mono ?_; rintro e w' ⟨rfl, hb⟩)
  go_ret
  exact ⟨rfl, hb⟩

theorem open_short (s : ByteArray) (w : World) (hs : s.size < 4) :
    Calls Tryd.prog 11 #[.string s] w fun e w' => e = .returned (.tuple #[.string ⟨#[]⟩, .bool false]) ∧ w = w' := by
  go_enter Tryd.func11, Tryd.ntmps11
  go_wp2
  go_ret2
  exact ⟨rfl, rfl⟩

theorem undrew {B : Nat} {w w' : World} (h : Below B w.drew w') : Below B w w' := ⟨h.os, h.tape, h.output, h.size, h.block⟩

set_option maxHeartbeats 400000 in
theorem open_yes (s : ByteArray) (w : World) (ht : Tab w) (hs : 4 ≤ s.size) (hs' : s.size ≤ 1000) (h : ((s.extract (s.size - 4) s.size).toList == (sealOf (s.data.toList.take (s.size - 4))).toList) = true) :
    Calls Tryd.prog 11 #[.string s] w fun e w' => e = .returned (.tuple #[.string (s.extract 0 (s.size - 4)), .bool true]) ∧ Below w.heap.size w w' := by
  have HZ : Hid ((s.extract 0 (s.size - 4)).size ≤ 1000) := by show (s.extract 0 (s.size - 4)).size ≤ 1000; simp; omega
  have hsub : ((s.size : Int) - 4).toNat = s.size - 4 := by omega
  go_enter Tryd.func11, Tryd.ntmps11
  go_wp2
  go_region_with (go_at_call 21; refine (seal_any _ _ (by exact ht) (by exact HZ.out)).mono ?_; rintro e w' ⟨rfl, hb⟩)
  all_goals go_wp2
  all_goals go_ret2
  all_goals exact ⟨rfl, undrew hb⟩

set_option maxHeartbeats 400000 in
theorem open_no (s : ByteArray) (w : World) (ht : Tab w) (hs : 4 ≤ s.size) (hs' : s.size ≤ 1000) (h : ((s.extract (s.size - 4) s.size).toList == (sealOf (s.data.toList.take (s.size - 4))).toList) = false) :
    Calls Tryd.prog 11 #[.string s] w fun e w' => e = .returned (.tuple #[.string ⟨#[]⟩, .bool false]) ∧ Below w.heap.size w w' := by
  have HZ : Hid ((s.extract 0 (s.size - 4)).size ≤ 1000) := by show (s.extract 0 (s.size - 4)).size ≤ 1000; simp; omega
  have hsub : ((s.size : Int) - 4).toNat = s.size - 4 := by omega
  go_enter Tryd.func11, Tryd.ntmps11
  go_wp2
  go_region_with (go_at_call 21; refine (seal_any _ _ (by exact ht) (by exact HZ.out)).mono ?_; rintro e w' ⟨rfl, hb⟩)
  all_goals go_wp2
  all_goals go_ret2
  all_goals exact ⟨rfl, undrew hb⟩

/-- A text and its seal. -/
theorem data_append (a b : ByteArray) : (a ++ b).data.toList = a.data.toList ++ b.data.toList := by
  rw [ByteArray.data_append, Array.toList_append]
theorem size_list (a : ByteArray) : a.data.toList.length = a.size := by simp
theorem eq_of_list {a b : ByteArray} (h : a.data.toList = b.data.toList) : a = b := by
  apply ByteArray.ext
  exact Array.toList_inj.1 h
theorem extract_list (s : ByteArray) (i j : Nat) : (s.extract i j).data.toList = (s.data.toList.drop i).take (j - i) := by
  simp [List.extract_eq_take_drop]

/-- Whether a text of at least four bytes is sealed: as lists say it. -/
def okL (l : List UInt8) : Bool := l.drop (l.length - 4) == Crc.le4 (Crc.sum (l.take (l.length - 4)))
theorem ok_eq (s : ByteArray) : ((s.extract (s.size - 4) s.size).toList == (sealOf (s.data.toList.take (s.size - 4))).toList) = okL s.data.toList := by
  unfold okL
  rw [ByteArray.toList_eq, ByteArray.toList_eq, extract_list, size_list]
  congr 1
  exact List.take_of_length_le (by simp)

theorem open_sealed (c : ByteArray) (w : World) (ht : Tab w) (hs : c.size ≤ 900) :
    Calls Tryd.prog 11 #[.string (c ++ sealOf c.data.toList)] w fun e w' => e = .returned (.tuple #[.string c, .bool true]) ∧ Below w.heap.size w w' := by
  have hz : (c ++ sealOf c.data.toList).size = c.size + 4 := by rw [ByteArray.size_append, sealOf_size]
  have e1 : (c ++ sealOf c.data.toList).extract 0 ((c ++ sealOf c.data.toList).size - 4) = c := by
    apply eq_of_list
    rw [extract_list, hz, data_append]
    simp
  have hok : okL (c ++ sealOf c.data.toList).data.toList = true := by
    unfold okL
    rw [size_list, hz, data_append, show c.size + 4 - 4 = c.data.toList.length by simp, List.drop_left, List.take_left]
    simp [sealOf]
  have h := open_yes (c ++ sealOf c.data.toList) w ht (by omega) (by omega) (by rw [ok_eq]; exact hok)
  rw [e1] at h
  exact h
end Go.Proofs.YtimpidacckifjaaDoor
