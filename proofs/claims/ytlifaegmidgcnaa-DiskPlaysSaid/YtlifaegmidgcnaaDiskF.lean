/-
  Numbers of the laws of layer 2: a rest by a number, made not negative; the walk's own words for it. No condition.
-/
import Derived.Test.YtlifaegmidgcnaaDiskE
namespace Go.Proofs.Ytlifaegmidgcnaa
open Go.RowKit
theorem mod_nat (q : Int) (M : Nat) (h0 : 0 < M) (hM : M ≤ 1000000) : ∃ m : Nat, m < M ∧ (wrap64 (q.tmod (M : Int) + (M : Int))).tmod (M : Int) = (m : Int) := by
  have h1 := Int.tmod_lt_of_pos q (show (0 : Int) < (M : Int) by omega)
  have h2 : -(M : Int) < q.tmod (M : Int) := by
    have := Int.tmod_lt_of_pos (-q) (show (0 : Int) < (M : Int) by omega)
    rw [Int.neg_tmod] at this
    omega
  have h3 : wrap64 (q.tmod (M : Int) + (M : Int)) = q.tmod (M : Int) + (M : Int) := by
    generalize q.tmod (M : Int) = t at h1 h2 ⊢
    simp only [wrap64]
    omega
  rw [h3, Int.tmod_eq_emod_of_nonneg (by omega)]
  have h4 := Int.emod_nonneg (q.tmod (M : Int) + (M : Int)) (show (M : Int) ≠ 0 by omega)
  have h5 := Int.emod_lt_of_pos (q.tmod (M : Int) + (M : Int)) (show (0 : Int) < (M : Int) by omega)
  exact ⟨((q.tmod (M : Int) + (M : Int)) % (M : Int)).toNat, by omega, by omega⟩
section
variable {B : Nat} {W w : World} {d : Nat} {D : Dsk}
/-- A disk that does not break. -/
theorem write_on0 (h : On B W w d D) (hbr : D.broken = false) (hl : D.left = 0) (k : Nat) (s : ByteArray) (hk : k + s.size ≤ D.n) (hp : D.pend.length < 1000) :
    Calls Try.prog 21 #[.pointer (some ⟨d, 0, none⟩), .int .i64 (k : Int), .string s] w fun e w' => e = .returned (.int .i64 0) ∧ On B W w' d (D.write k s) := by
  refine (write_on h hbr k s hk hp).mono ?_
  rintro e w' ⟨he, ho⟩
  rw [hl] at he
  exact ⟨he, ho⟩
theorem sync_on0 (h : On B W w d D) (hbr : D.broken = false) (hl : D.left = 0) :
    Calls Try.prog 15 #[.pointer (some ⟨d, 0, none⟩)] w fun e w' => e = .returned (.int .i64 0) ∧ On B W w' d D.sync :=
  sync_on h (by rw [hbr, hl]; rfl)
end
theorem bytes_get (s : ByteArray) (i : Nat) (h : i < s.size) : s.data.toList[i]? = some s[i] := by
  rw [List.getElem?_eq_getElem (by simpa using h)]
  rfl
theorem part_get (l : List UInt8) (k m i : Nat) (hi : i < m) (hp : i < (part l k m).size) : some (part l k m)[i] = l[k + i]? := by
  rw [← bytes_get _ _ hp]
  show ((l.drop k).take m).toArray.toList[i]? = _
  rw [List.toList_toArray, List.getElem?_take, if_pos hi, List.getElem?_drop]
theorem extract_get (s : ByteArray) (m i : Nat) (h : i < m) (hs : i < s.size) : (s.extract 0 m).data.toList[i]? = some s[i] := by
  have h1 : i < (s.extract 0 m).size := by simp; omega
  rw [bytes_get _ _ h1]
  congr 1
  rw [ByteArray.getElem_extract]
  congr 1
  omega
end Go.Proofs.Ytlifaegmidgcnaa
