/-
  What the walks of layer 4 share: Scan told by a list; a row compared with itself; sums of sizes; appended texts. Condition: the table of crc holds what its text says.
-/
import Derived.Test.YtgbopohbhnpceaaDoorFrameU
import Derived.Test.YtgbopohbhnpceaaDoorFrameV
import Derived.Test.YtgbopohbhnpceaaDoorSame
namespace Go.Proofs.YtgbopohbhnpceaaDoor
open Go.RowKit Go.Shelf

theorem cellsStr : Tryd.prog.cellsOf 9 = 1 := by kernel_rfl
theorem tx_length (m : List ByteArray) : (tx m).length = m.length := by simp [tx]
theorem scan_at (s : ByteArray) (hs : s.size ≤ 40000) (m : List ByteArray) (k : Nat) (hm : Fr.scan s.data.toList = (tx m, k)) (w : World) (hT : Tab w) :
    Calls Tryd.prog 17 #[.string s] w fun e w' => ∃ A c, e = .returned (.tuple #[.slice A m.length c, .int .i64 (k : Int)]) ∧ Lies (fun _ => False) w' A (cs m) ∧ Below w.heap.size w w' := by
  have h := scan_any s hs w hT
  rw [hm] at h
  simp only [tx_ba, tx_length] at h
  exact h
theorem same_self (w : World) (A1 A2 : Option Addr) (c1 c2 : Nat) (m : List ByteArray) (hl : m.length ≤ 1000000) (hA : Lies (fun _ => False) w A1 (cs m)) (hB : Lies (fun _ => False) w A2 (cs m)) :
    Calls Tryd.prog 18 #[.slice A1 m.length c1, .slice A2 m.length c2] w fun e w' => e = .returned (.bool true) ∧ Below w.heap.size w w' := by
  have h := same_any w A1 A2 c1 c2 m m hl hl hA hB
  rw [decide_eq_true rfl] at h
  exact h
theorem list_append (a b : ByteArray) : (a ++ b).data.toList = a.data.toList ++ b.data.toList := by rw [ByteArray.data_append, Array.toList_append]
theorem size_append (a b : ByteArray) : (a ++ b).size = a.size + b.size := by rw [← size_list, list_append, List.length_append, size_list, size_list]
theorem fw_size (l : List ByteArray) : ∀ s ∈ fw l, s.size ≤ 40000 := fun s hs => by have := fw_ok l s hs; omega
/-- Records of short texts are short. -/
theorem all_len : ∀ (m : List ByteArray), (∀ s ∈ m, s.size ≤ 80) → (Fr.all (tx m)).length ≤ 88 * m.length
  | [], _ => Nat.le_refl _
  | s :: m, h => by
    have h1 := all_len m (fun t ht => h t (by simp [ht]))
    have h2 := h s (by simp)
    have h3 : (Fr.wrap s.data.toList).length ≤ 88 := by
      unfold Fr.wrap
      split
      · rw [Fr.rec_length, size_list]; omega
      · simp
    rw [show tx (s :: m) = s.data.toList :: tx m from rfl, Fr.all_cons, List.length_append, List.length_cons]
    omega
theorem all_fw (l : List ByteArray) : (ba (Fr.all (tx (fw l)))).size ≤ 600 := by
  rw [ba_size]
  have h1 := all_len (fw l) (fun s hs => (fw_ok l s hs).2)
  have h2 := fw_len l
  omega
theorem few_one (s : ByteArray) (hs : s.size ≤ maxLen) (w : World) :
    Calls Tryd.prog 12 #[.slice (some ⟨w.heap.size, 0, none⟩) 1 1] (w.alloc (.cells #[.string s] 9)) fun e w' => ∃ g c, e = .returned (.slice (some ⟨g, 0, none⟩) 1 c) ∧ w'.cell? ⟨g, 0, none⟩ = some (.string (fx s)) ∧ Below w.heap.size w w' := by
  have h := few_any (w.alloc (.cells #[.string s] 9)) (some ⟨w.heap.size, 0, none⟩) 1 [s] (by unfold maxLen; simp) (by simpa using hs) (Lies.one w 9 (.string s) (fun k hk => hk.elim))
  refine h.mono ?_
  rintro e w' ⟨A, c, rfl, hown, hb⟩
  rw [fw_one] at hown ⊢
  obtain ⟨g, cap, hv⟩ := ownsRow_succ hown
  injection hv with h1 h2 h3
  subst h1
  refine ⟨g, c, rfl, hown.cells (g := g) rfl 0 _ rfl, ((Below.refl _ w).alloc (Nat.le_refl _) _).trans (hb.mono (by simp))⟩
theorem mod_nat (q : Int) (M : Nat) (h0 : 0 < M) (hM : M ≤ 1000000) : ∃ m : Nat, m < M ∧ (wrap64 (q.tmod (M : Int) + (M : Int))).tmod (M : Int) = (m : Int) := by
  have h1 := Int.tmod_lt_of_pos q (show (0 : Int) < (M : Int) by omega)
  have h2 : -(M : Int) < q.tmod (M : Int) := by
    have := Int.tmod_lt_of_pos (-q) (show (0 : Int) < (M : Int) by omega)
    rw [Int.neg_tmod] at this
    omega
  have h3 : wrap64 (q.tmod (M : Int) + (M : Int)) = q.tmod (M : Int) + (M : Int) := by
    generalize q.tmod (M : Int) = t at h1 h2 ⊢
    simp only [wrap64]
    omega
  rw [h3, Int.tmod_eq_emod_of_nonneg (by omega)]
  have h4 := Int.emod_nonneg (q.tmod (M : Int) + (M : Int)) (show (M : Int) ≠ 0 by omega)
  have h5 := Int.emod_lt_of_pos (q.tmod (M : Int) + (M : Int)) (show (0 : Int) < (M : Int) by omega)
  exact ⟨((q.tmod (M : Int) + (M : Int)) % (M : Int)).toNat, by omega, by omega⟩
end Go.Proofs.YtgbopohbhnpceaaDoor
