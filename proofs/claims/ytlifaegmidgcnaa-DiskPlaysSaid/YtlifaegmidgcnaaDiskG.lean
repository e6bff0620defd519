/-
  The calls of package disk in a law that holds a disk and other memory beside it: each leaves the other memory alone. Condition: the disk was made by New, and fewer than 1000 writes are pending.
-/
import Derived.Test.YtlifaegmidgcnaaDiskF
namespace Go.Proofs.Ytlifaegmidgcnaa
open Go.RowKit

/-- A disk of the call's own, and blocks E of the call's own beside it; below B all is as it was in W. -/
structure Two (B : Nat) (W w : World) (F : Foot) (D : Dsk) (E : Nat → Prop) : Prop where
  disk : DiskAt w F D
  lo : B ≤ w.heap.size
  bel : Below B W w
  hF : ∀ k, F.has k → B ≤ k
  hE : ∀ k, E k → B ≤ k ∧ k < w.heap.size
  sep : ∀ k, F.has k → ¬ E k

/-- What a call on the disk leaves. -/
def TwoPost (B : Nat) (W : World) (d : Nat) (D : Dsk) (E : Nat → Prop) (w w' : World) : Prop := ∃ F : Foot, F.d = d ∧ Two B W w' F D E ∧ ∀ k, E k → w'.heap[k]? = w.heap[k]?

section
variable {B : Nat} {W w w' : World} {F : Foot} {D : Dsk} {E : Nat → Prop}

theorem Two.next (h : Two B W w F D E) {D' : Dsk} (hn : Next w F D'.n D'.dur D'.lat D'.pend D'.left D'.broken w') : TwoPost B W F.d D' E w w' := by
  obtain ⟨F', hd, hr, hk, hx⟩ := hn
  have he : ∀ k, E k → ¬ F.has k := fun k hk hf => h.sep k hf hk
  refine ⟨F', hd, ⟨hr, Nat.le_trans h.lo hk.size, hk.below h.bel h.hF h.lo, fun k hk' => ?_, fun k hk' => ⟨(h.hE k hk').1, Nat.lt_of_lt_of_le (h.hE k hk').2 hk.size⟩, fun k hk' he' => ?_⟩, fun k hk' => hk.block k (h.hE k hk').2 (he k hk')⟩
  · rcases hx k hk' with h1 | h1
    · exact h.hF k h1
    · have := h.lo; omega
  · rcases hx k hk' with h1 | h1
    · exact h.sep k h1 he'
    · have := (h.hE k he').2; omega
/-- Another's doing: blocks of E, or new ones. -/
theorem Two.other (h : Two B W w F D E) {E' : Nat → Prop} (hk : Kept E w w') (hE : ∀ k, E' k → (E k ∨ w.heap.size ≤ k) ∧ k < w'.heap.size) : Two B W w' F D E' := by
  refine ⟨Raw.keep h.disk hk h.sep, Nat.le_trans h.lo hk.size, hk.below h.bel (fun k hk' => (h.hE k hk').1) h.lo, h.hF, fun k hk' => ⟨?_, (hE k hk').2⟩, fun k hk' he => ?_⟩
  · rcases (hE k hk').1 with h1 | h1
    · exact (h.hE k h1).1
    · have := h.lo; omega
  · have h2 := Foot.has_lt h.disk k hk'
    rcases (hE k he).1 with h1 | h1
    · exact h.sep k hk' h1
    · omega
/-- New memory alone. -/
theorem Two.after (h : Two B W w F D E) (hb : Below w.heap.size w w') : Two B W w' F D E :=
  h.other (Kept.of_below hb) (fun k hk => ⟨.inl hk, Nat.lt_of_lt_of_le (h.hE k hk).2 hb.size⟩)

theorem write_two (h : Two B W w F D E) (hbr : D.broken = false) (k : Nat) (s : ByteArray) (hk : k + s.size ≤ D.n) (hp : D.pend.length < 1000) :
    Calls Try.prog 21 #[.pointer (some ⟨F.d, 0, none⟩), .int .i64 (k : Int), .string s] w fun e w' => e = .returned (.int .i64 (errOf (stepB D.left false))) ∧ TwoPost B W F.d (D.write k s) E w w' := by
  have hD := h.disk
  unfold DiskAt at hD
  rw [hbr] at hD
  refine (write_any hD k s hk hp).mono ?_
  rintro e w' ⟨he, hn⟩
  exact ⟨he, h.next (D' := D.write k s) (by rw [Dsk.lat_write]; exact hn)⟩
theorem write_two_arg (h : Two B W w F D E) (k : Int) (s : ByteArray) (hs : s.size ≤ maxLen) (hk : hasB D.n k (s.size : Int) = false) :
    Calls Try.prog 21 #[.pointer (some ⟨F.d, 0, none⟩), .int .i64 k, .string s] w fun e w' => e = .returned (.int .i64 1) ∧ w = w' := write_arg h.disk k s hs hk
theorem write_two_io (h : Two B W w F D E) (hbr : D.broken = true) (k : Int) (s : ByteArray) (hs : s.size ≤ maxLen) (hk : hasB D.n k (s.size : Int) = true) :
    Calls Try.prog 21 #[.pointer (some ⟨F.d, 0, none⟩), .int .i64 k, .string s] w fun e w' => e = .returned (.int .i64 18) ∧ w = w' := by
  have hD := h.disk
  unfold DiskAt at hD
  rw [hbr] at hD
  exact write_io hD k s hs hk
theorem sync_two (h : Two B W w F D E) (hb : stepB D.left D.broken = false) :
    Calls Try.prog 15 #[.pointer (some ⟨F.d, 0, none⟩)] w fun e w' => e = .returned (.int .i64 0) ∧ TwoPost B W F.d D.sync E w w' := by
  refine (sync_ok h.disk hb).mono ?_
  rintro e w' ⟨he, hn⟩
  exact ⟨he, h.next (D' := D.sync) hn⟩
theorem sync_two_io (h : Two B W w F D E) (hb : stepB D.left D.broken = true) :
    Calls Try.prog 15 #[.pointer (some ⟨F.d, 0, none⟩)] w fun e w' => e = .returned (.int .i64 18) ∧ TwoPost B W F.d D.fail E w w' := by
  refine (sync_io h.disk hb).mono ?_
  rintro e w' ⟨he, hn⟩
  exact ⟨he, h.next (D' := D.fail) hn⟩
theorem crash_two (h : Two B W w F D E) (keep : Int) (h1 : -9223372036854775808 ≤ keep) (h2 : keep ≤ 9223372036854775807) :
    Calls Try.prog 17 #[.pointer (some ⟨F.d, 0, none⟩), .int .i64 keep] w fun e w' => e = .returned (.int .i64 (Dk.lost D.pend keep)) ∧ TwoPost B W F.d (D.crash keep) E w w' := by
  refine (crash_any h.disk keep h1 h2).mono ?_
  rintro e w' ⟨he, hn⟩
  exact ⟨he, h.next (D' := D.crash keep) hn⟩
theorem break_two (h : Two B W w F D E) (k : Int) (h1 : -9223372036854775808 ≤ k) (h2 : k ≤ 9223372036854775807) :
    Calls Try.prog 19 #[.pointer (some ⟨F.d, 0, none⟩), .int .i64 k] w fun e w' => e = .returned (.tuple #[]) ∧ TwoPost B W F.d (D.brk k) E w w' := by
  refine (break_any h.disk k h1 h2).mono ?_
  rintro e w' ⟨he, hr, hk⟩
  exact ⟨he, h.next (D' := D.brk k) ⟨F, rfl, hr, hk.mono (fun x hx => .inl (.inl hx)), fun x hx => .inl hx⟩⟩
theorem read_two (h : Two B W w F D E) (hbr : D.broken = false) (k m : Nat) (hk : k + m ≤ D.n) :
    Calls Try.prog 13 #[.pointer (some ⟨F.d, 0, none⟩), .int .i64 (k : Int), .int .i64 (m : Int)] w fun e w' => e = .returned (.tuple #[.string (part D.lat k m), .int .i64 0]) ∧ w = w' := by
  have hD := h.disk
  unfold DiskAt at hD
  rw [hbr] at hD
  exact read_ok hD k m hk
theorem pending_two (h : Two B W w F D E) :
    Calls Try.prog 23 #[.pointer (some ⟨F.d, 0, none⟩)] w fun e w' => e = .returned (.int .i64 (Dk.bytes D.pend : Int)) ∧ Below w.heap.size w w' := pending_any h.disk
theorem broken_two (h : Two B W w F D E) :
    Calls Try.prog 25 #[.pointer (some ⟨F.d, 0, none⟩)] w fun e w' => e = .returned (.bool D.broken) ∧ w = w' := broken_any h.disk
theorem size_two (h : Two B W w F D E) :
    Calls Try.prog 26 #[.pointer (some ⟨F.d, 0, none⟩)] w fun e w' => e = .returned (.int .i64 (D.n : Int)) ∧ w = w' := size_any h.disk
end
end Go.Proofs.Ytlifaegmidgcnaa
