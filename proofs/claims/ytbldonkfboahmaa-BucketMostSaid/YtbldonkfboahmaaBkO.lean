/-
  Keys are in the order of Go's comparison of texts, byte by byte; which buckets may be, and what lies in memory for them; buckets compared as Go compares structs. No condition.
-/
import Derived.Laws.Cover1
import Derived.Test.YtbldonkfboahmaaBk
import Derived.Test.YtbldonkfboahmaaBc
import Derived.Test.YtbldonkfboahmaaGen
namespace Go.Proofs.Ytbldonkfboahmaa
open Go.RowKit

theorem less_irrefl : ∀ a : List UInt8, Op.bytesLess a a = false
  | [] => rfl
  | x :: a => by
    have h : ¬ x < x := by rw [UInt8.lt_iff_toNat_lt]; omega
    simp [Op.bytesLess, less_irrefl a, h]
theorem less_trans : ∀ a b c : List UInt8, Op.bytesLess a b = true → Op.bytesLess b c = true → Op.bytesLess a c = true
  | _, [], _, h, _ => by
    rename_i a _
    cases a <;> simp [Op.bytesLess] at h
  | _, _ :: _, [], _, h => by simp [Op.bytesLess] at h
  | [], _ :: _, _ :: _, _, _ => rfl
  | x :: a, y :: b, z :: c, h1, h2 => by
    have ih := less_trans a b c
    simp only [Op.bytesLess, Bool.or_eq_true, Bool.and_eq_true, decide_eq_true_eq, beq_iff_eq] at h1 h2 ⊢
    rcases h1 with h1 | ⟨rfl, h1⟩
    · rcases h2 with h2 | ⟨rfl, h2⟩
      · refine .inl ?_
        rw [UInt8.lt_iff_toNat_lt] at h1 h2 ⊢
        omega
      · exact .inl h1
    · rcases h2 with h2 | ⟨rfl, h2⟩
      · exact .inl h2
      · exact .inr ⟨rfl, ih h1 h2⟩
theorem less_tri : ∀ a b : List UInt8, Op.bytesLess a b = true ∨ a = b ∨ Op.bytesLess b a = true
  | [], [] => .inr (.inl rfl)
  | [], _ :: _ => .inl rfl
  | _ :: _, [] => .inr (.inr rfl)
  | x :: a, y :: b => by
    have ih := less_tri a b
    simp only [Op.bytesLess, Bool.or_eq_true, Bool.and_eq_true, decide_eq_true_eq, beq_iff_eq, UInt8.lt_iff_toNat_lt, List.cons.injEq]
    rcases Nat.lt_trichotomy x.toNat y.toNat with h | h | h
    · exact .inl (.inl h)
    · have e : x = y := UInt8.toNat_inj.1 h
      subst e
      rcases ih with h | h | h
      · exact .inl (.inr ⟨rfl, h⟩)
      · exact .inr (.inl ⟨rfl, h⟩)
      · exact .inr (.inr (.inr ⟨rfl, h⟩))
    · exact .inr (.inr (.inl h))
/-- Go's order of keys. -/
def kl (a b : ByteArray) : Bool := Op.bytesLess a.toList b.toList
theorem toList_inj {a b : ByteArray} (h : a.toList = b.toList) : a = b := by
  have := str_beq a b
  rw [h] at this
  simpa using this.symm
theorem ordK : Bk.Ord kl where
  irrefl a := less_irrefl _
  trans a b c := less_trans _ _ _
  tri a b := by
    rcases less_tri a.toList b.toList with h | h | h
    · exact .inl h
    · exact .inr (.inl (toList_inj h))
    · exact .inr (.inr h)
abbrev Bb := Bk.B ByteArray
/-- What lies in memory. -/
def up (b : Bb) : Bu := ⟨b.key, (b.left : Int), (b.at_ : Int)⟩
/-- A bucket that a list may have, and time enough ahead. -/
structure Ok (b : Bb) : Prop where
  left : b.left ≤ 4
  at_ : b.at_ ≤ 1000000000000
theorem up_get (L : List Bb) (i : Nat) (h : i < L.length) : (L.map up)[i]'(by simpa using h) = up L[i] := by simp
def M (L : List Bb) : List Bu := L.map up
theorem M_length (L : List Bb) : (M L).length = L.length := by simp [M]
theorem M_get (L : List Bb) (i : Nat) (h : i < L.length) : (M L)[i]'(by rw [M_length]; exact h) = up L[i] := by simp [M]
theorem up_inj {a b : Bb} (h : up a = up b) : a = b := by
  obtain ⟨k, l, t⟩ := a
  obtain ⟨k', l', t'⟩ := b
  simp only [up, Bu.mk.injEq] at h
  obtain ⟨h1, h2, h3⟩ := h
  rw [h1, show l = l' by omega, show t = t' by omega]
theorem lies_ups {S : Nat → Prop} {w : World} {A : Option Addr} {L : List Bb} (h : Lies S w A (bus (M L))) (i : Nat) (hi : i < L.length) : ∃ a, A = some a ∧ BuAt w (a.add (i * 3)) (up L[i]) := by
  obtain ⟨a, e, h2⟩ := lies_bu h i (by rw [M_length]; exact hi)
  rw [M_get L i hi] at h2
  exact ⟨a, e, h2⟩

theorem bu_same (x : Bu) (W : World) :
    (binOp .neq 54 (.agg #[.string x.key, .int .i64 x.left, .int .i64 x.at_]) (.agg #[.string x.key, .int .i64 x.left, .int .i64 x.at_])).run Try.prog W = .ok (.bool false) W := by
  obtain ⟨d, a, p⟩ := x
  simp only
  go_simp
theorem bu_diff (x y : Bu) (h : x ≠ y) (W : World) :
    (binOp .neq 54 (.agg #[.string x.key, .int .i64 x.left, .int .i64 x.at_]) (.agg #[.string y.key, .int .i64 y.left, .int .i64 y.at_])).run Try.prog W = .ok (.bool true) W := by
  obtain ⟨d, a, p⟩ := x
  obtain ⟨d', a', p'⟩ := y
  simp only
  by_cases h0 : d = d'
  · have b0 : (d.toList == d'.toList) = true := by rw [h0]; simp
    by_cases h1 : a = a'
    · have b1 : (a == a') = true := by simpa using h1
      by_cases h2 : p = p'
      · exact absurd (by rw [h0, h1, h2]) h
      · have b2 : (p == p') = false := by simpa using h2
        clear h h0 h1 h2
        go_simp
    · have b1 : (a == a') = false := by simpa using h1
      clear h h0 h1
      go_simp
  · have b0 : (d.toList == d'.toList) = false := str_ne h0
    clear h h0
    go_simp
instance : DecidableEq Bu := fun a b => by
  obtain ⟨d, x, p⟩ := a
  obtain ⟨d', x', p'⟩ := b
  rw [Bu.mk.injEq]
  exact inferInstance
theorem bu_neq (x y : Bu) (W : World) :
    (binOp .neq 54 (.agg #[.string x.key, .int .i64 x.left, .int .i64 x.at_]) (.agg #[.string y.key, .int .i64 y.left, .int .i64 y.at_])).run Try.prog W = .ok (.bool (decide (x ≠ y))) W := by
  by_cases h : x = y
  · subst h
    rw [bu_same]
    simp
  · rw [bu_diff x y h]
    simp [h]
end Go.Proofs.Ytbldonkfboahmaa
