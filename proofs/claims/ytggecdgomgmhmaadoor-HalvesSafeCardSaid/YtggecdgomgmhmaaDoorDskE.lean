/-
  The calls of package disk in a law that holds one disk of its own: what each returns and what the disk is behind it; and the law's own helpers awake and short. Condition: the disk was made by New, and fewer than 1000 writes are pending.
-/
import Derived.Test.YtggecdgomgmhmaaDoorDskD
namespace Go.Proofs.YtggecdgomgmhmaaDoor
open Go.RowKit

/-- A disk of the call's own, from block B on; below B all is as it was in W. -/
def On (B : Nat) (W w : World) (d : Nat) (D : Dsk) : Prop := B ≤ w.heap.size ∧ Below B W w ∧ ∃ F : Foot, F.d = d ∧ DiskAt w F D ∧ ∀ k, F.has k → B ≤ k
theorem On.below {B : Nat} {W w : World} {d : Nat} {D : Dsk} (h : On B W w d D) : Below B W w := h.2.1
theorem On.lt {B : Nat} {W w : World} {d : Nat} {D : Dsk} (h : On B W w d D) : B ≤ w.heap.size := h.1
theorem On.after {B : Nat} {W w w' : World} {d : Nat} {D : Dsk} (h : On B W w d D) (hb : Below w.heap.size w w') : On B W w' d D := by
  obtain ⟨h1, h2, F, rfl, hD, hF⟩ := h
  exact ⟨Nat.le_trans h1 hb.size, h2.trans (hb.mono h1), F, rfl, Raw.keep hD (Kept.of_below (S := fun _ => False) hb) (fun _ _ hx => hx), hF⟩
theorem On.of_next {B : Nat} {W w w' : World} {F : Foot} {D : Dsk} (h1 : B ≤ w.heap.size) (h2 : Below B W w) (hF : ∀ k, F.has k → B ≤ k) (h : Next w F D.n D.dur D.lat D.pend D.left D.broken w') : On B W w' F.d D := by
  obtain ⟨F', hd, hr, hk, hx⟩ := h
  refine ⟨Nat.le_trans h1 hk.size, hk.below h2 hF h1, F', hd, hr, fun k hk => ?_⟩
  rcases hx k hk with h | h
  · exact hF k h
  · omega

def Dsk.write (D : Dsk) (k : Nat) (s : ByteArray) : Dsk := ⟨D.n, D.dur, D.pend ++ [(k, s)], stepL D.left, stepB D.left false⟩
def Dsk.sync (D : Dsk) : Dsk := ⟨D.n, D.lat, [], stepL D.left, false⟩
def Dsk.fail (D : Dsk) : Dsk := ⟨D.n, D.dur, D.pend, stepL D.left, true⟩
def Dsk.crash (D : Dsk) (keep : Int) : Dsk := ⟨D.n, Dk.puts D.dur (Dk.cuts D.pend keep), [], 0, false⟩
def Dsk.brk (D : Dsk) (k : Int) : Dsk := ⟨D.n, D.dur, D.pend, k, D.broken⟩
theorem Dsk.lat_write (D : Dsk) (k : Nat) (s : ByteArray) : (D.write k s).lat = Dk.put D.lat k s.data.toList := Dk.puts_snoc _ _ _
theorem Dsk.lat_sync (D : Dsk) : D.sync.lat = D.lat := rfl

section
variable {B : Nat} {W w : World} {d : Nat} {D : Dsk}

def NewPost (B : Nat) (W : World) (n : Nat) (e : Ending) (w' : World) : Prop := ∃ d, e = .returned (.pointer (some ⟨d, 0, none⟩)) ∧ On B W w' d (Dsk.fresh n)
theorem new_on (n : Nat) (h1 : 1 ≤ n) (h2 : n ≤ 131072) (hB : B ≤ w.heap.size) (hb : Below B W w) : Calls Tryd.prog 8 #[.int .i64 (n : Int)] w (NewPost B W n) := by
  refine (new_any n w h1 h2).mono ?_
  rintro e w' ⟨F, he, hD, hb', hF⟩
  exact ⟨F.d, he, Nat.le_trans hB hb'.size, hb.trans (hb'.mono hB), F, rfl, hD, fun k hk => Nat.le_trans hB (hF k hk)⟩

theorem write_on (h : On B W w d D) (hbr : D.broken = false) (k : Nat) (s : ByteArray) (hk : k + s.size ≤ D.n) (hp : D.pend.length < 1000) :
    Calls Tryd.prog 43 #[.pointer (some ⟨d, 0, none⟩), .int .i64 (k : Int), .string s] w fun e w' => e = .returned (.int .i64 (errOf (stepB D.left false))) ∧ On B W w' d (D.write k s) := by
  obtain ⟨h1, h2, F, rfl, hD, hF⟩ := h
  unfold DiskAt at hD
  rw [hbr] at hD
  refine (write_any hD k s hk hp).mono ?_
  rintro e w' ⟨he, hn⟩
  exact ⟨he, On.of_next h1 h2 hF (D := D.write k s) (by rw [Dsk.lat_write]; exact hn)⟩
theorem write_on_io (h : On B W w d D) (hbr : D.broken = true) (k : Int) (s : ByteArray) (hs : s.size ≤ maxLen) (hk : hasB D.n k (s.size : Int) = true) :
    Calls Tryd.prog 43 #[.pointer (some ⟨d, 0, none⟩), .int .i64 k, .string s] w fun e w' => e = .returned (.int .i64 18) ∧ w = w' := by
  obtain ⟨h1, h2, F, rfl, hD, hF⟩ := h
  unfold DiskAt at hD
  rw [hbr] at hD
  exact write_io hD k s hs hk
theorem sync_on (h : On B W w d D) (hb : stepB D.left D.broken = false) :
    Calls Tryd.prog 29 #[.pointer (some ⟨d, 0, none⟩)] w fun e w' => e = .returned (.int .i64 0) ∧ On B W w' d D.sync := by
  obtain ⟨h1, h2, F, rfl, hD, hF⟩ := h
  refine (sync_ok hD hb).mono ?_
  rintro e w' ⟨he, hn⟩
  exact ⟨he, On.of_next h1 h2 hF (D := D.sync) hn⟩
theorem sync_on_io (h : On B W w d D) (hb : stepB D.left D.broken = true) :
    Calls Tryd.prog 29 #[.pointer (some ⟨d, 0, none⟩)] w fun e w' => e = .returned (.int .i64 18) ∧ On B W w' d D.fail := by
  obtain ⟨h1, h2, F, rfl, hD, hF⟩ := h
  refine (sync_io hD hb).mono ?_
  rintro e w' ⟨he, hn⟩
  exact ⟨he, On.of_next h1 h2 hF (D := D.fail) hn⟩
theorem crash_on (h : On B W w d D) (keep : Int) (h1 : -9223372036854775808 ≤ keep) (h2 : keep ≤ 9223372036854775807) :
    Calls Tryd.prog 14 #[.pointer (some ⟨d, 0, none⟩), .int .i64 keep] w fun e w' => e = .returned (.int .i64 (Dk.lost D.pend keep)) ∧ On B W w' d (D.crash keep) := by
  obtain ⟨g1, g2, F, rfl, hD, hF⟩ := h
  refine (crash_any hD keep h1 h2).mono ?_
  rintro e w' ⟨he, hn⟩
  exact ⟨he, On.of_next g1 g2 hF (D := D.crash keep) hn⟩
theorem break_on (h : On B W w d D) (k : Int) (h1 : -9223372036854775808 ≤ k) (h2 : k ≤ 9223372036854775807) :
    Calls Tryd.prog 11 #[.pointer (some ⟨d, 0, none⟩), .int .i64 k] w fun e w' => e = .returned (.tuple #[]) ∧ On B W w' d (D.brk k) := by
  obtain ⟨g1, g2, F, rfl, hD, hF⟩ := h
  refine (break_any hD k h1 h2).mono ?_
  rintro e w' ⟨he, hr, hk⟩
  exact ⟨he, On.of_next g1 g2 hF (D := D.brk k) ⟨F, rfl, hr, hk.mono (fun x hx => .inl (.inl hx)), fun x hx => .inl hx⟩⟩
theorem read_on (h : On B W w d D) (hbr : D.broken = false) (k m : Nat) (hk : k + m ≤ D.n) :
    Calls Tryd.prog 36 #[.pointer (some ⟨d, 0, none⟩), .int .i64 (k : Int), .int .i64 (m : Int)] w fun e w' => e = .returned (.tuple #[.string (part D.lat k m), .int .i64 0]) ∧ w = w' := by
  obtain ⟨h1, h2, F, rfl, hD, hF⟩ := h
  unfold DiskAt at hD
  rw [hbr] at hD
  exact read_ok hD k m hk
theorem read_on_io (h : On B W w d D) (hbr : D.broken = true) (k m : Int) (hm : m ≤ 9223372036854775807) (hm' : -9223372036854775808 ≤ m) (hk : hasB D.n k m = true) :
    Calls Tryd.prog 36 #[.pointer (some ⟨d, 0, none⟩), .int .i64 k, .int .i64 m] w fun e w' => e = .returned (.tuple #[.string ⟨#[]⟩, .int .i64 18]) ∧ w = w' := by
  obtain ⟨h1, h2, F, rfl, hD, hF⟩ := h
  unfold DiskAt at hD
  rw [hbr] at hD
  exact read_io hD k m hm hm' hk
end

end Go.Proofs.YtggecdgomgmhmaaDoor
