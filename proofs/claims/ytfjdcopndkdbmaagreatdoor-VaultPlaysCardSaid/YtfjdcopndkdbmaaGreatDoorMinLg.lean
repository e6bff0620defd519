/-
  What masks leave of a number; rows of ten bytes, made and filled (layers 10 and 11). No condition.
-/
import Derived.Test.YtfjdcopndkdbmaaGreatDoorMi
import Derived.Test.YtfjdcopndkdbmaaGreatDoorBas
namespace Go.Proofs.YtfjdcopndkdbmaaGreatDoor
open Go.RowKit

theorem and_mask (x : Int) (k : Nat) (z : Int) (hk : k ≤ 62) (hz : (BitVec.ofInt 64 z).toNat = 2 ^ k - 1) : ∃ m : Nat, m < 2 ^ k ∧ bits .and .i64 x z = (m : Int) := by
  have key : (BitVec.ofInt 64 x &&& BitVec.ofInt 64 z).toNat = (x % ((2 ^ 64 : Nat) : Int)).toNat % 2 ^ k := by
    rw [BitVec.toNat_and, BitVec.toNat_ofInt, hz, Nat.and_two_pow_sub_one_eq_mod]
  have h1 : (x % ((2 ^ 64 : Nat) : Int)).toNat % 2 ^ k < 2 ^ k := Nat.mod_lt _ (Nat.two_pow_pos k)
  refine ⟨(x % ((2 ^ 64 : Nat) : Int)).toNat % 2 ^ k, h1, ?_⟩
  show IntKind.i64.wrap ((BitVec.ofInt 64 x &&& BitVec.ofInt 64 z).toNat : Nat) = _
  have h2 : 2 ^ k ≤ 2 ^ 62 := Nat.pow_le_pow_right (by decide) hk
  have h3 : (2 : Nat) ^ 62 = 4611686018427387904 := by decide
  rw [key, IntKind.wrap_i64]
  generalize (x % ((2 ^ 64 : Nat) : Int)).toNat % 2 ^ k = m at *
  omega

section
variable {P : Program}
/-- A text copied over a row of bytes, as much of it as there is room for. -/
theorem run_copy_room (w : World) (dT sT ty elem : TypeId) (hu : P.underlying dT = some (.slice elem)) (hsz : (P.info? elem).map (·.size) = some 1)
    (s : ByteArray) (g n cap : Nat) (l : List UInt8) (hl : l.length = n) (t : TypeId) (hg : Blk w g t (cb l).toArray) :
    (Builtin.copy_ #[dT, sT] ty #[.slice (some ⟨g, 0, none⟩) n cap, .string s]).run P w = .ok (goInt (Nat.min s.size n)) (w.setRow g (cb (s.data.toList.take n ++ l.drop s.size)).toArray) := by
  have hx : List.take (Nat.min s.size n) (List.map (fun b => Value.int .u8 (b.toNat : Int)) s.data.toList) = cb (s.data.toList.take n) := by
    rw [← List.map_take]
    unfold cb
    congr 1
    rcases Nat.le_total s.size n with h | h
    · rw [show Nat.min s.size n = s.size from Nat.min_eq_left h, List.take_of_length_le (by simp), List.take_of_length_le (by simpa using h)]
    · rw [show Nat.min s.size n = n from Nat.min_eq_right h]
  cases hq : P.info? elem with
  | none => simp [hq] at hsz
  | some i =>
    by_cases h0 : s.size = 0
    · have he : s.data.toList = [] := List.eq_nil_of_length_eq_zero (by simpa using h0)
      have hself : w.setRow g (cb (s.data.toList.take n ++ l.drop s.size)).toArray = w := by
        rw [he, h0]
        simp only [List.take_nil, List.nil_append, List.drop_zero]
        exact setRow_self w g _ t _ hg
      rw [hself]
      simp [Builtin.copy_, run_underlying hu, Builtin.lenOf, Builtin.firstCells, sizeOf, typeInfo, hq, h0, storeCells]
    · have hst := run_storeCells_at P g 0 t (cb (s.data.toList.take n)) 0 (cb l).toArray w hg (by simp [cb_length]; omega) (cb_one _)
      simp only [Nat.add_zero] at hst
      have hput : (((cb l).toArray.toList.take 0 ++ cb (s.data.toList.take n) ++ (cb l).toArray.toList.drop (0 + (cb (s.data.toList.take n)).length))).toArray = (cb (s.data.toList.take n ++ l.drop s.size)).toArray := by
        congr 1
        simp only [List.take_zero, List.nil_append, Nat.zero_add, cb_length, List.length_take]
        unfold cb
        rw [List.map_append, List.map_drop]
        congr 1
        have hsl : s.data.toList.length = s.size := by simp
        rw [hsl]
        rcases Nat.le_total s.size n with h | h
        · rw [Nat.min_eq_right h]
        · rw [Nat.min_eq_left h, List.drop_eq_nil_of_le (by simp; omega), List.drop_eq_nil_of_le (by simp; omega)]
      rw [hput] at hst
      simp [Builtin.copy_, run_underlying hu, Builtin.lenOf, Builtin.firstCells, sizeOf, typeInfo, hq, hx, hst]
end
theorem zeros_any (n : Nat) : madeCells (Value.int .u8 0).cells n = (cb (List.replicate n 0)).toArray := by
  apply Array.ext
  · simp [madeCells, cb]
  · intro i h1 h2
    simp [madeCells, cb, Value.cells, Nat.mod_one]
theorem zeros_ten : madeCells (Value.int .u8 0).cells 10 = (cb (List.replicate 10 0)).toArray := zeros_any 10
theorem make_ten (W : World) : (Instr.makeSlice 98 (.int .i64 10) (.int .i64 10)).run Tryz.prog W = .ok (.slice (some ⟨W.heap.size, 0, none⟩) 10 10) (W.alloc (.cells (cb (List.replicate 10 0)).toArray 5)) := by
  obtain ⟨i, hi, hz, hs, hb⟩ := info_u8
  have hr := run_make (P := Tryz.prog) W 98 5 i (.int .u8 0) Tryz.underlying98 hi hz .i64 .i64 10 10 (by decide) (by decide) (by rw [hb]; decide) (by decide)
  rw [hr, hs]
  show Result.ok _ (W.alloc (Obj.cells (madeCells (Value.int IntKind.u8 0).cells 10) 5)) = _
  rw [zeros_ten]
  rfl
theorem run_row_text {W : World} {g : Nat} {l : List UInt8} {n : Nat} (hn : l.length = n) (c : Nat) (h : Blk W g 5 (cb l).toArray) :
    (convert 98 9 (.slice (some ⟨g, 0, none⟩) n c)).run Tryz.prog W = .ok (.string (ba l)) W := by
  subst hn
  exact run_convert_bytes_back (P := Tryz.prog) W 98 9 5 ⟨g, 0, none⟩ c l Tryz.underlying98 Tryz.underlying5 Tryz.underlying9 (by
    intro i hi
    have e : (⟨g, 0, none⟩ : Addr).add i = ⟨g, i, none⟩ := by cases i <;> simp [Addr.add]
    first | (rw [e]; rw [h.cell]; simpa using cb_get l i hi) | (rw [h.cell]; simpa using cb_get l i hi))
end Go.Proofs.YtfjdcopndkdbmaaGreatDoor
