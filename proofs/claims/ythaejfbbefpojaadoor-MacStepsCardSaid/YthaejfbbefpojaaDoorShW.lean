/-
  More of the mathematics of layer 6: a block's words told by their places; bytes as words of 32 bits; a row that is filled place by place. No condition.
-/
import Derived.Test.YthaejfbbefpojaaDoorReg
import Derived.Test.YthaejfbbefpojaaDoorMem
namespace Go.Proofs.YthaejfbbefpojaaDoor
open Go.RowKit

/-- A byte as a word. -/
def zw (b : UInt8) : BitVec 32 := BitVec.ofNat 32 b.toNat
theorem zw_toNat (b : UInt8) : (zw b).toNat = b.toNat := by
  unfold zw
  rw [BitVec.toNat_ofNat]
  have := b.toNat_lt
  omega
theorem R_zw (b : UInt8) : R (zw b) = (b.toNat : Int) := by unfold R; rw [zw_toNat]
theorem shl_or {a b k : Nat} (h : b < 2 ^ k) : a * 2 ^ k ||| b = a * 2 ^ k + b := by
  have := Nat.shiftLeft_add_eq_or_of_lt h a
  rw [Nat.shiftLeft_eq] at this
  exact this.symm
theorem be4_or (l : List UInt8) (i : Nat) : Sh.be4 l i = zw (l.getD (4 * i) 0) <<< 24 ||| zw (l.getD (4 * i + 1) 0) <<< 16 ||| zw (l.getD (4 * i + 2) 0) <<< 8 ||| zw (l.getD (4 * i + 3) 0) := by
  unfold Sh.be4
  generalize l.getD (4 * i) 0 = a
  generalize l.getD (4 * i + 1) 0 = b
  generalize l.getD (4 * i + 2) 0 = c
  generalize l.getD (4 * i + 3) 0 = d
  have ha := a.toNat_lt
  have hb := b.toNat_lt
  have hc := c.toNat_lt
  have hd := d.toNat_lt
  apply BitVec.eq_of_toNat_eq
  simp only [BitVec.toNat_or, BitVec.toNat_shiftLeft, zw_toNat, Nat.shiftLeft_eq, BitVec.toNat_ofNat]
  rw [Nat.mod_eq_of_lt (a := a.toNat * 2 ^ 24) (by omega), Nat.mod_eq_of_lt (a := b.toNat * 2 ^ 16) (by omega), Nat.mod_eq_of_lt (a := c.toNat * 2 ^ 8) (by omega)]
  rw [shl_or (a := a.toNat) (b := b.toNat * 2 ^ 16) (k := 24) (by omega)]
  rw [show a.toNat * 2 ^ 24 + b.toNat * 2 ^ 16 = (a.toNat * 256 + b.toNat) * 2 ^ 16 by omega, shl_or (b := c.toNat * 2 ^ 8) (k := 16) (by omega)]
  rw [show (a.toNat * 256 + b.toNat) * 2 ^ 16 + c.toNat * 2 ^ 8 = (a.toNat * 65536 + b.toNat * 256 + c.toNat) * 2 ^ 8 by omega, shl_or (b := d.toNat) (k := 8) (by omega)]
  omega
theorem be4_add (l : List UInt8) (i : Nat) : Sh.be4 l i = zw (l.getD (4 * i) 0) <<< 24 + zw (l.getD (4 * i + 1) 0) <<< 16 + zw (l.getD (4 * i + 2) 0) <<< 8 + zw (l.getD (4 * i + 3) 0) := by
  unfold Sh.be4
  generalize l.getD (4 * i) 0 = a
  generalize l.getD (4 * i + 1) 0 = b
  generalize l.getD (4 * i + 2) 0 = c
  generalize l.getD (4 * i + 3) 0 = d
  have ha := a.toNat_lt
  have hb := b.toNat_lt
  have hc := c.toNat_lt
  have hd := d.toNat_lt
  apply BitVec.eq_of_toNat_eq
  simp only [BitVec.toNat_add, BitVec.toNat_shiftLeft, zw_toNat, Nat.shiftLeft_eq, BitVec.toNat_ofNat]
  omega
/-- The words of a block, all of them. -/
noncomputable def W64 (l : List UInt8) : Sh.V := Classical.choose (⟨Sh.words l 48, rfl⟩ : ∃ v, v = Sh.words l 48)
theorem W64_eq (l : List UInt8) : W64 l = Sh.words l 48 := Classical.choose_spec (⟨Sh.words l 48, rfl⟩ : ∃ v, v = Sh.words l 48)
theorem W64_length (l : List UInt8) : (W64 l).length = 64 := by rw [W64_eq]; exact Sh.words_length l 48
theorem W64_low (l : List UInt8) (i : Nat) (h : i < 16) : (W64 l).getD i 0 = Sh.be4 l i := by
  have := Sh.words_from l i 48 0 (by omega)
  rw [Nat.zero_add] at this
  rw [W64_eq, this]
  simp [Sh.words, h]
theorem W64_rec (l : List UInt8) (i : Nat) (h1 : 16 ≤ i) (h2 : i < 64) :
    (W64 l).getD i 0 = (W64 l).getD (i - 16) 0 + Sh.s0 ((W64 l).getD (i - 15) 0) + (W64 l).getD (i - 7) 0 + Sh.s1 ((W64 l).getD (i - 2) 0) := by
  obtain ⟨n, rfl⟩ : ∃ n, i = 16 + n := ⟨i - 16, by omega⟩
  have key : ∀ j, j < 16 + n → (W64 l).getD j 0 = (Sh.words l n).getD j 0 := fun j hj => by
    have := Sh.words_from l j (48 - n) n hj
    rw [show n + (48 - n) = 48 by omega, ← W64_eq] at this
    exact this
  have h3 : (W64 l).getD (16 + n) 0 = (Sh.words l (n + 1)).getD (16 + n) 0 := by
    have := Sh.words_from l (16 + n) (47 - n) (n + 1) (by omega)
    rw [show n + 1 + (47 - n) = 48 by omega, ← W64_eq] at this
    exact this
  rw [h3, key _ (by omega), key _ (by omega), key _ (by omega), key _ (by omega), Sh.words]
  have hl := Sh.words_length l n
  rw [List.getD_eq_getElem?_getD, List.getElem?_append_right (by omega), hl]
  rw [show 16 + n - (16 + n) = 0 by omega, show 16 + n - 16 = n by omega, show 16 + n - 15 = n + 1 by omega, show 16 + n - 7 = n + 9 by omega, show 16 + n - 2 = n + 14 by omega]
  rfl

/-- A row that is filled place by place. -/
structure Fill (W : Sh.V) (i : Nat) (l : Sh.V) : Prop where
  len : l.length = W.length
  low : ∀ j, j < i → l.getD j 0 = W.getD j 0
theorem Fill.zero (W : Sh.V) : Fill W 0 (List.replicate W.length 0) := ⟨by simp, fun j hj => by omega⟩
theorem Fill.next {W l : Sh.V} {i : Nat} (h : Fill W i l) (hi : i < W.length) {x : BitVec 32} (hx : x = W.getD i 0) : Fill W (i + 1) (l.set i x) := by
  subst hx
  refine ⟨by rw [List.length_set, h.len], fun j hj => ?_⟩
  have hl := h.len
  by_cases e : j = i
  · subst e
    simp [show j < l.length by omega]
  · have := h.low j (by omega)
    rw [← this]
    simp only [List.getD_eq_getElem?_getD]
    rw [List.getElem?_set_ne (by omega)]
theorem Fill.done {W l : Sh.V} {i : Nat} (h : Fill W i l) (hi : W.length ≤ i) : l = W := by
  apply List.ext_getElem h.len
  intro j h1 h2
  have := h.low j (by omega)
  simpa [h1, h2] using this
/-- A block of words, its cells. -/
theorem Blk.ru {w : World} {g : Nat} {t : TypeId} {l : Sh.V} (h : Blk w g t (ru l)) (i : Nat) (hi : i < l.length) : w.cell? ⟨g, i, none⟩ = some (.int .u32 (R (l.getD i 0))) := by
  rw [h.cell, ru_getD l i hi]
theorem Blk.ruSet {w : World} {g : Nat} {t : TypeId} {l : Sh.V} (h : Blk w g t (Go.Proofs.YthaejfbbefpojaaDoor.ru l)) (i : Nat) (x : BitVec 32) : Blk (w.setCell ⟨g, i, none⟩ (.int .u32 (R x))) g t (Go.Proofs.YthaejfbbefpojaaDoor.ru (l.set i x)) := by
  rw [← ru_set]
  exact h.set_ i _
/-- A block of bytes, its cells as words. -/
theorem Blk.by {w : World} {g : Nat} {t : TypeId} {l : List UInt8} (h : Blk w g t (cb l).toArray) (i : Nat) (hi : i < l.length) : w.cell? ⟨g, i, none⟩ = some (.int .u8 (R (zw (l.getD i 0)))) := by
  rw [h.cell, R_zw]
  have := cb_get l i hi
  simp only [List.getElem?_toArray, this]
  simp [hi]
end Go.Proofs.YthaejfbbefpojaaDoor
