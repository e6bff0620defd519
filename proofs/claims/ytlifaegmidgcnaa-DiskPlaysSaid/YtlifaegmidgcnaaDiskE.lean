/-
  The calls of package disk in a law that holds one disk of its own: what each returns and what the disk is behind it; and the law's own helpers awake and short. Condition: the disk was made by New, and fewer than 1000 writes are pending.
-/
import Derived.Test.YtlifaegmidgcnaaDiskD
namespace Go.Proofs.Ytlifaegmidgcnaa
open Go.RowKit

/-- A disk of the call's own, from block B on; below B all is as it was in W. -/
def On (B : Nat) (W w : World) (d : Nat) (D : Dsk) : Prop := B ≤ w.heap.size ∧ Below B W w ∧ ∃ F : Foot, F.d = d ∧ DiskAt w F D ∧ ∀ k, F.has k → B ≤ k
theorem On.below {B : Nat} {W w : World} {d : Nat} {D : Dsk} (h : On B W w d D) : Below B W w := h.2.1
theorem On.lt {B : Nat} {W w : World} {d : Nat} {D : Dsk} (h : On B W w d D) : B ≤ w.heap.size := h.1
theorem On.after {B : Nat} {W w w' : World} {d : Nat} {D : Dsk} (h : On B W w d D) (hb : Below w.heap.size w w') : On B W w' d D := by
  obtain ⟨h1, h2, F, rfl, hD, hF⟩ := h
  exact ⟨Nat.le_trans h1 hb.size, h2.trans (hb.mono h1), F, rfl, Raw.keep hD (Kept.of_below (S := fun _ => False) hb) (fun _ _ hx => hx), hF⟩
theorem On.of_next {B : Nat} {W w w' : World} {F : Foot} {D : Dsk} (h1 : B ≤ w.heap.size) (h2 : Below B W w) (hF : ∀ k, F.has k → B ≤ k) (h : Next w F D.n D.dur D.lat D.pend D.left D.broken w') : On B W w' F.d D := by
  obtain ⟨F', hd, hr, hk, hx⟩ := h
  refine ⟨Nat.le_trans h1 hk.size, hk.below h2 hF h1, F', hd, hr, fun k hk => ?_⟩
  rcases hx k hk with h | h
  · exact hF k h
  · omega

def Dsk.write (D : Dsk) (k : Nat) (s : ByteArray) : Dsk := ⟨D.n, D.dur, D.pend ++ [(k, s)], stepL D.left, stepB D.left false⟩
def Dsk.sync (D : Dsk) : Dsk := ⟨D.n, D.lat, [], stepL D.left, false⟩
def Dsk.fail (D : Dsk) : Dsk := ⟨D.n, D.dur, D.pend, stepL D.left, true⟩
def Dsk.crash (D : Dsk) (keep : Int) : Dsk := ⟨D.n, Dk.puts D.dur (Dk.cuts D.pend keep), [], 0, false⟩
def Dsk.brk (D : Dsk) (k : Int) : Dsk := ⟨D.n, D.dur, D.pend, k, D.broken⟩
theorem Dsk.lat_write (D : Dsk) (k : Nat) (s : ByteArray) : (D.write k s).lat = Dk.put D.lat k s.data.toList := Dk.puts_snoc _ _ _
theorem Dsk.lat_sync (D : Dsk) : D.sync.lat = D.lat := rfl

section
variable {B : Nat} {W w : World} {d : Nat} {D : Dsk}

def NewPost (B : Nat) (W : World) (n : Nat) (e : Ending) (w' : World) : Prop := ∃ d, e = .returned (.pointer (some ⟨d, 0, none⟩)) ∧ On B W w' d (Dsk.fresh n)
theorem new_on (n : Nat) (h1 : 1 ≤ n) (h2 : n ≤ 131072) (hB : B ≤ w.heap.size) (hb : Below B W w) : Calls Try.prog 10 #[.int .i64 (n : Int)] w (NewPost B W n) := by
  refine (new_any n w h1 h2).mono ?_
  rintro e w' ⟨F, he, hD, hb', hF⟩
  exact ⟨F.d, he, Nat.le_trans hB hb'.size, hb.trans (hb'.mono hB), F, rfl, hD, fun k hk => Nat.le_trans hB (hF k hk)⟩

theorem write_on (h : On B W w d D) (hbr : D.broken = false) (k : Nat) (s : ByteArray) (hk : k + s.size ≤ D.n) (hp : D.pend.length < 1000) :
    Calls Try.prog 21 #[.pointer (some ⟨d, 0, none⟩), .int .i64 (k : Int), .string s] w fun e w' => e = .returned (.int .i64 (errOf (stepB D.left false))) ∧ On B W w' d (D.write k s) := by
  obtain ⟨h1, h2, F, rfl, hD, hF⟩ := h
  unfold DiskAt at hD
  rw [hbr] at hD
  refine (write_any hD k s hk hp).mono ?_
  rintro e w' ⟨he, hn⟩
  exact ⟨he, On.of_next h1 h2 hF (D := D.write k s) (by rw [Dsk.lat_write]; exact hn)⟩
theorem write_on_io (h : On B W w d D) (hbr : D.broken = true) (k : Int) (s : ByteArray) (hs : s.size ≤ maxLen) (hk : hasB D.n k (s.size : Int) = true) :
    Calls Try.prog 21 #[.pointer (some ⟨d, 0, none⟩), .int .i64 k, .string s] w fun e w' => e = .returned (.int .i64 18) ∧ w = w' := by
  obtain ⟨h1, h2, F, rfl, hD, hF⟩ := h
  unfold DiskAt at hD
  rw [hbr] at hD
  exact write_io hD k s hs hk
theorem sync_on (h : On B W w d D) (hb : stepB D.left D.broken = false) :
    Calls Try.prog 15 #[.pointer (some ⟨d, 0, none⟩)] w fun e w' => e = .returned (.int .i64 0) ∧ On B W w' d D.sync := by
  obtain ⟨h1, h2, F, rfl, hD, hF⟩ := h
  refine (sync_ok hD hb).mono ?_
  rintro e w' ⟨he, hn⟩
  exact ⟨he, On.of_next h1 h2 hF (D := D.sync) hn⟩
theorem sync_on_io (h : On B W w d D) (hb : stepB D.left D.broken = true) :
    Calls Try.prog 15 #[.pointer (some ⟨d, 0, none⟩)] w fun e w' => e = .returned (.int .i64 18) ∧ On B W w' d D.fail := by
  obtain ⟨h1, h2, F, rfl, hD, hF⟩ := h
  refine (sync_io hD hb).mono ?_
  rintro e w' ⟨he, hn⟩
  exact ⟨he, On.of_next h1 h2 hF (D := D.fail) hn⟩
theorem crash_on (h : On B W w d D) (keep : Int) (h1 : -9223372036854775808 ≤ keep) (h2 : keep ≤ 9223372036854775807) :
    Calls Try.prog 17 #[.pointer (some ⟨d, 0, none⟩), .int .i64 keep] w fun e w' => e = .returned (.int .i64 (Dk.lost D.pend keep)) ∧ On B W w' d (D.crash keep) := by
  obtain ⟨g1, g2, F, rfl, hD, hF⟩ := h
  refine (crash_any hD keep h1 h2).mono ?_
  rintro e w' ⟨he, hn⟩
  exact ⟨he, On.of_next g1 g2 hF (D := D.crash keep) hn⟩
theorem break_on (h : On B W w d D) (k : Int) (h1 : -9223372036854775808 ≤ k) (h2 : k ≤ 9223372036854775807) :
    Calls Try.prog 19 #[.pointer (some ⟨d, 0, none⟩), .int .i64 k] w fun e w' => e = .returned (.tuple #[]) ∧ On B W w' d (D.brk k) := by
  obtain ⟨g1, g2, F, rfl, hD, hF⟩ := h
  refine (break_any hD k h1 h2).mono ?_
  rintro e w' ⟨he, hr, hk⟩
  exact ⟨he, On.of_next g1 g2 hF (D := D.brk k) ⟨F, rfl, hr, hk.mono (fun x hx => .inl (.inl hx)), fun x hx => .inl hx⟩⟩
theorem read_on (h : On B W w d D) (hbr : D.broken = false) (k m : Nat) (hk : k + m ≤ D.n) :
    Calls Try.prog 13 #[.pointer (some ⟨d, 0, none⟩), .int .i64 (k : Int), .int .i64 (m : Int)] w fun e w' => e = .returned (.tuple #[.string (part D.lat k m), .int .i64 0]) ∧ w = w' := by
  obtain ⟨h1, h2, F, rfl, hD, hF⟩ := h
  unfold DiskAt at hD
  rw [hbr] at hD
  exact read_ok hD k m hk
theorem read_on_io (h : On B W w d D) (hbr : D.broken = true) (k m : Int) (hm : m ≤ 9223372036854775807) (hm' : -9223372036854775808 ≤ m) (hk : hasB D.n k m = true) :
    Calls Try.prog 13 #[.pointer (some ⟨d, 0, none⟩), .int .i64 k, .int .i64 m] w fun e w' => e = .returned (.tuple #[.string ⟨#[]⟩, .int .i64 18]) ∧ w = w' := by
  obtain ⟨h1, h2, F, rfl, hD, hF⟩ := h
  unfold DiskAt at hD
  rw [hbr] at hD
  exact read_io hD k m hm hm' hk
theorem pending_on (h : On B W w d D) :
    Calls Try.prog 23 #[.pointer (some ⟨d, 0, none⟩)] w fun e w' => e = .returned (.int .i64 (Dk.bytes D.pend : Int)) ∧ On B W w' d D := by
  have h' := h
  obtain ⟨h1, h2, F, rfl, hD, hF⟩ := h
  refine (pending_any hD).mono ?_
  rintro e w' ⟨he, hb⟩
  exact ⟨he, h'.after hb⟩
theorem broken_on (h : On B W w d D) :
    Calls Try.prog 25 #[.pointer (some ⟨d, 0, none⟩)] w fun e w' => e = .returned (.bool D.broken) ∧ w = w' := by
  obtain ⟨h1, h2, F, rfl, hD, hF⟩ := h
  exact broken_any hD
end

def abc : ByteArray := ⟨#[97, 98, 99]⟩
theorem awake_lost : (Dk.lost ((Dsk.fresh 3).write 0 abc).pend 2 == 1) = true := by decide +kernel
theorem awake_text : part (((Dsk.fresh 3).write 0 abc).crash 2).lat 0 3 = ⟨#[97, 98, 0]⟩ := by decide +kernel

theorem awake_any (w : World) :
    Calls Try.prog 9 #[] w fun e w' => e = .returned (.bool true) ∧ Below w.heap.size w w' := by
  have HN := Lib.hid (new_on (W := w) (w := w) (B := w.heap.size) 3 (by omega) (by omega) (Nat.le_refl _) (Below.refl _ _))
  have hl := awake_lost
  have HX := Lib.hid awake_text
  go_enter Try.func9, Try.ntmps9
  go_wp2_with (first
    | (go_at_call 10; refine HN.out.mono ?_; rintro e w1 ⟨d, rfl, h1⟩; have HW := Lib.hid (write_on h1 rfl 0 abc (by decide) (by decide)))
    | (go_at_call 21; refine HW.out.mono ?_; rintro e w2 ⟨rfl, h2⟩; have HC := Lib.hid (crash_on h2 2 (by omega) (by omega)))
    | (go_at_call 17; refine HC.out.mono ?_; rintro e w3 ⟨rfl, h3⟩; have HR := Lib.hid (read_on h3 rfl 0 3 (by decide)); rw [HX.out] at HR)
    | (go_at_call 13; refine HR.out.mono ?_; rintro e w4 ⟨rfl, rfl⟩))
  go_ret
  exact ⟨rfl, h3.below⟩

theorem short_cut (s : ByteArray) (n : Nat) (_hs : s.size ≤ maxLen) (h : n < s.size) (w : World) :
    Calls Try.prog 12 #[.string s, .int .i64 (n : Int)] w fun e w' => e = .returned (.string (s.extract 0 n)) ∧ w = w' := by
  unfold maxLen at _hs
  go_enter Try.func12, Try.ntmps12
  go_wp2
  go_ret
  exact ⟨rfl, rfl⟩
theorem short_all (s : ByteArray) (n : Nat) (_hs : s.size ≤ maxLen) (h : s.size ≤ n) (w : World) :
    Calls Try.prog 12 #[.string s, .int .i64 (n : Int)] w fun e w' => e = .returned (.string s) ∧ w = w' := by
  unfold maxLen at _hs
  go_enter Try.func12, Try.ntmps12
  go_wp2
  go_ret
  exact ⟨rfl, rfl⟩
/-- A text of at most n bytes. -/
def cut (s : ByteArray) (n : Nat) : ByteArray := if n < s.size then s.extract 0 n else s
theorem cut_size (s : ByteArray) (n : Nat) : (cut s n).size ≤ n := by
  unfold cut
  split
  · simp; omega
  · omega
theorem short_any (s : ByteArray) (n : Nat) (hs : s.size ≤ maxLen) (w : World) :
    Calls Try.prog 12 #[.string s, .int .i64 (n : Int)] w fun e w' => e = .returned (.string (cut s n)) ∧ w = w' := by
  unfold cut
  by_cases h : n < s.size
  · rw [if_pos h]; exact short_cut s n hs h w
  · rw [if_neg h]; exact short_all s n hs (by omega) w
end Go.Proofs.Ytlifaegmidgcnaa
