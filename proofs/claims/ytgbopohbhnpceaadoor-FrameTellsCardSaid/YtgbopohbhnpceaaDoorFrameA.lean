/-
  Contracts of package frame: Size, head, Wrap. Condition: the table of crc holds what its text says.
-/
import Derived.Test.YtgbopohbhnpceaaDoorCrcBy
import Derived.Test.YtgbopohbhnpceaaDoorWords
import Derived.Test.YtgbopohbhnpceaaDoorFr
namespace Go.Proofs.YtgbopohbhnpceaaDoor
open Go.RowKit

/-- How long a record is. -/
def sz (n : Int) : Int := if 1 ≤ n ∧ n ≤ 32768 then n + 8 else 0
theorem sz_ok {n : Int} (h : 1 ≤ n) (h' : n ≤ 32768) : sz n = n + 8 := by unfold sz; rw [if_pos ⟨h, h'⟩]
theorem sz_no {n : Int} (h : ¬ (1 ≤ n ∧ n ≤ 32768)) : sz n = 0 := by unfold sz; rw [if_neg h]
theorem size_any (n : Int) (w : World) : Calls Tryd.prog 14 #[.int .i64 n] w fun e w' => e = .returned (.int .i64 (sz n)) ∧ w = w' := by
  by_cases h1 : 1 ≤ n
  · by_cases h2 : n ≤ 32768
    · have HS := Lib.hid (sz_ok h1 h2)
      have HC : Hid (7 + n + 1 = n + 8) := by show 7 + n + 1 = n + 8; omega
      have h3 : ¬ n < 1 := by omega
      have h4 : ¬ 32768 < n := by omega
      go_enter Tryd.func14, Tryd.ntmps14
      go_wp2
      go_ret
      refine ⟨?_, rfl⟩
      rw [HS.out, ← HC.out]
      rfl
    · have HS := Lib.hid (sz_no (n := n) (by omega))
      have h3 : ¬ n < 1 := by omega
      have h4 : 32768 < n := by omega
      go_enter Tryd.func14, Tryd.ntmps14
      go_wp2
      go_ret
      refine ⟨?_, rfl⟩
      rw [HS.out]
      rfl
  · have HS := Lib.hid (sz_no (n := n) (by omega))
    have h3 : n < 1 := by omega
    go_enter Tryd.func14, Tryd.ntmps14
    go_wp2
    go_ret
    refine ⟨?_, rfl⟩
    rw [HS.out]
    rfl

/-- What stands ahead of a record's text. -/
def headL (t : List UInt8) : List UInt8 := 0xa5 :: UInt8.ofNat t.length :: UInt8.ofNat (t.length / 256) :: Crc.le4 (Crc.sum t)
theorem headL_length (t : List UInt8) : (headL t).length = 7 := by simp [headL, Crc.le4_length]
theorem rec_head (t : List UInt8) : Fr.rec_ t = headL t ++ (t ++ [0x5a]) := by simp [Fr.rec_, headL]

def bytes6 (x0 x1 x2 x3 x4 x5 : Int) : ByteArray := ⟨#[UInt8.ofNat x0.toNat, UInt8.ofNat x1.toNat, UInt8.ofNat x2.toNat, UInt8.ofNat x3.toNat, UInt8.ofNat x4.toNat, UInt8.ofNat x5.toNat]⟩
theorem run_bytes6 (W : World) (x0 x1 x2 x3 x4 x5 : Int) :
    (convert 26 9 (.slice (some ⟨W.heap.size, 0, none⟩) 6 6)).run Tryd.prog (W.alloc (.cells #[.int .u8 x0, .int .u8 x1, .int .u8 x2, .int .u8 x3, .int .u8 x4, .int .u8 x5] 5)) = .ok (.string (bytes6 x0 x1 x2 x3 x4 x5)) (W.alloc (.cells #[.int .u8 x0, .int .u8 x1, .int .u8 x2, .int .u8 x3, .int .u8 x4, .int .u8 x5] 5)) := by
  rw [run_convert_bytes_string _ _ _ 5 _ _ _ Tryd.underlying26 Tryd.underlying5 Tryd.underlying9]
  rw [run_bytesToString _ _ 6 6 [x0, x1, x2, x3, x4, x5]]
  · rfl
  · refine (run_loadCells_list _ _ ([.int .u8 x0, .int .u8 x1, .int .u8 x2, .int .u8 x3, .int .u8 x4, .int .u8 x5] : List Value) ?_).trans rfl
    intro j v hj
    have : (⟨W.heap.size, 0, none⟩ : Addr).add j = ⟨W.heap.size, j, none⟩ := by cases j <;> simp [Addr.add]
    rw [this, World.cell?_alloc_at _ _ _ _ rfl]
    simpa using hj
theorem bytes6_head (t : List UInt8) (q : BitVec 32) (_hq : q = Crc.sum t) (m : Nat) (hm : t.length = m) (hm' : m ≤ 40000) : (⟨#[165]⟩ : ByteArray) ++ bytes6 ((m : Int) % 256) ((m : Int) / 256) (R q % 256) (R q / 256 % 256) (R q / 65536 % 256) (R q / 16777216 % 256) = ba (headL t) := by
  subst _hq
  subst hm
  have e4 := congrArg (fun s : ByteArray => s.data.toList) (bytes4_le4 (Crc.sum t))
  simp only [bytes4] at e4
  unfold bytes6 headL ba
  apply ByteArray.ext
  rw [ByteArray.data_append]
  apply Array.toList_inj.1
  rw [Array.toList_append, ← e4]
  have e1 : ((t.length : Int) % 256).toNat = t.length % 256 := by omega
  have e2 : ((t.length : Int) / 256).toNat = t.length / 256 := by omega
  rw [e1, e2, ofNat_mod]
  rfl

theorem head_any (s : ByteArray) (w : World) (ht : Tab w) (hs : s.size ≤ 40000) :
    Calls Tryd.prog 29 #[.string s] w fun e w' => e = .returned (.string (ba (headL s.data.toList))) ∧ Below w.heap.size w w' := by
  have HP := Lib.hid (sum_one s w ht (by unfold maxLen; omega))
  have hcv := run_bytes6
  have HB := Lib.hid (bytes6_head s.data.toList _ rfl s.size (size_list s) hs)
  go_enter Tryd.func29, Tryd.ntmps29
  go_wp2_with (go_at_call 33; refine HP.out.mono ?_; rintro e w' ⟨rfl, hb⟩)
  go_ret
  refine ⟨?_, hb.alloc hb.size _⟩
  rw [← HB.out]
  rfl

theorem wrap_any (s : ByteArray) (w : World) (ht : Tab w) (hs : s.size ≤ 40000) :
    Calls Tryd.prog 19 #[.string s] w fun e w' => e = .returned (.string (ba (Fr.wrap s.data.toList))) ∧ Below w.heap.size w w' := by
  by_cases hk : Fr.ok s.data.toList.length
  · have hk' : 1 ≤ s.size ∧ s.size ≤ 32768 := by rw [size_list] at hk; exact hk
    have HS := Lib.hid (sz_ok (n := (s.size : Int)) (by omega) (by omega))
    have HP := Lib.hid (head_any s w ht hs)
    have hz : (ba (headL s.data.toList)).size = 7 := by rw [ba_size, headL_length]
    have hne : ¬ ((s.size : Int) + 8 = 0) := by omega
    go_enter Tryd.func19, Tryd.ntmps19
    go_wp2_with first | (go_at_call 14; refine (size_any _ _).mono ?_; rintro e w' ⟨rfl, rfl⟩; rw [HS.out]) | (go_at_call 29; refine HP.out.mono ?_; rintro e w' ⟨rfl, hb⟩)
    go_ret
    refine ⟨?_, hb⟩
    rw [Fr.wrap_ok hk, rec_head, ← ba_append, ← ba_append, ba_back]
    first | rfl | (congr 2; apply ByteArray.ext; simp [ba])
  · have hk' : ¬ (1 ≤ (s.size : Int) ∧ (s.size : Int) ≤ 32768) := by
      intro h
      apply hk
      rw [size_list]
      exact ⟨by omega, by omega⟩
    have HS := Lib.hid (sz_no hk')
    go_enter Tryd.func19, Tryd.ntmps19
    go_wp2_with (go_at_call 14; refine (size_any _ _).mono ?_; rintro e w' ⟨rfl, rfl⟩; rw [HS.out])
    go_ret
    refine ⟨?_, Below.refl _ _⟩
    rw [Fr.wrap_no hk]
    rfl
end Go.Proofs.YtgbopohbhnpceaaDoor
