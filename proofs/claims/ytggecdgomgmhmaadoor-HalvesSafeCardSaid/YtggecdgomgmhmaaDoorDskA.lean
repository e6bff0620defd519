/-
  Contracts of package disk, the small calls: New, Size, Broken, Break, has, step. What a disk is in memory. Condition: the disk lies in memory as New lays it.
-/
import Derived.Test.YtggecdgomgmhmaaDoorWords
namespace Go.Proofs.YtggecdgomgmhmaaDoor
open Go.RowKit

/-- Where a disk lies: itself, its durable bytes, its latest bytes, its list of writes. -/
structure Foot where
  d : Nat
  g1 : Nat
  g2 : Nat
  pv : Value
def Foot.has (F : Foot) (k : Nat) : Prop := k = F.d ∨ k = F.g1 ∨ k = F.g2 ∨ F.pv.ownBlock = some k

/-- Writes as cells. -/
def pc (ps : List (Nat × ByteArray)) : List Value := ps.flatMap fun p => [.int .i64 (p.1 : Int), .string p.2]

/-- A disk in memory, whatever its latest bytes are. -/
structure Raw (w : World) (F : Foot) (n : Nat) (dur lat : List UInt8) (pend : List (Nat × ByteArray)) (left : Int) (broken : Bool) : Prop where
  blk : Blk w F.d 54 #[.slice (some ⟨F.g1, 0, none⟩) n n, .slice (some ⟨F.g2, 0, none⟩) n n, F.pv, .int .i64 left, .bool broken]
  g1 : Blk w F.g1 5 (cb dur).toArray
  g2 : Blk w F.g2 5 (cb lat).toArray
  ne : F.g1 ≠ F.g2
  own : w.ownsRow 0 89 2 F.pv pend.length (pc pend)
  ndur : dur.length = n
  nlat : lat.length = n
  within : Dk.Within n pend
  few : pend.length ≤ 1000
  small : n ≤ 131072
  low : -9223372036854775808 ≤ left
  high : left ≤ 9223372036854775807

/-- A disk, by what it is. -/
structure Dsk where
  n : Nat
  dur : List UInt8
  pend : List (Nat × ByteArray)
  left : Int
  broken : Bool
def Dsk.lat (D : Dsk) : List UInt8 := Dk.puts D.dur D.pend
def DiskAt (w : World) (F : Foot) (D : Dsk) : Prop := Raw w F D.n D.dur D.lat D.pend D.left D.broken
def Dsk.fresh (n : Nat) : Dsk := ⟨n, List.replicate n 0, [], 0, false⟩

theorem Foot.has_lt {w : World} {F : Foot} {n : Nat} {dur lat : List UInt8} {pend : List (Nat × ByteArray)} {left : Int} {broken : Bool} (h : Raw w F n dur lat pend left broken) : ∀ k, F.has k → k < w.heap.size := by
  rintro k (rfl | rfl | rfl | hk)
  · exact h.blk.lt
  · exact h.g1.lt
  · exact h.g2.lt
  · exact own_lt h.own hk

/-- What New leaves. -/
def Made (w : World) (n : Nat) (e : Ending) (w' : World) : Prop :=
  ∃ F : Foot, e = .returned (.pointer (some ⟨F.d, 0, none⟩)) ∧ DiskAt w' F (Dsk.fresh n) ∧ Below w.heap.size w w' ∧ ∀ k, F.has k → w.heap.size ≤ k

theorem u8_info : (Tryd.prog.info? 5).map (fun i => (i.zero, i.size, i.bytes)) = some (some (.int .u8 0), 1, 1) := by kernel_rfl
theorem u8_size : (Tryd.prog.info? 5).map (·.size) = some 1 := by kernel_rfl
theorem zeros_made (n : Nat) : madeCells (Value.int .u8 0).cells n = (cb (List.replicate n 0)).toArray := by
  apply Array.ext
  · simp [madeCells, cb]
  · intro i h1 h2
    simp [madeCells, cb, Value.cells, Nat.mod_one]
theorem make_bytes (n : Nat) (h : n ≤ 131072) : ∀ W : World, (Instr.makeSlice 51 (.int .i64 (n : Int)) (.int .i64 (n : Int))).run Tryd.prog W = .ok (.slice (some ⟨W.heap.size, 0, none⟩) n n) (W.alloc (.cells (cb (List.replicate n 0)).toArray 5)) := by
  intro W
  obtain ⟨i, hi, hz, hs, hb⟩ := info_u8
  have hr := run_make (P := Tryd.prog) W 51 5 i (.int .u8 0) Tryd.underlying51 hi hz .i64 .i64 n n (by omega) (by omega) (by rw [hb]; omega) (by omega)
  rw [hr, hs]
  simp only [Int.toNat_natCast, Nat.mul_one, zeros_made]

theorem made_of (w : World) (n a b : Nat) (Z : Array Value) (hZ : Z = (cb (List.replicate n 0)).toArray) (h2 : n ≤ 131072) (hab : (a = w.heap.size ∧ b = w.heap.size + 1) ∨ (a = w.heap.size + 1 ∧ b = w.heap.size)) :
    Made w n (.returned (.pointer (some ⟨w.heap.size + 1 + 1, 0, none⟩))) (((w.alloc (.cells Z 5)).alloc (.cells Z 5)).alloc (.cells #[.slice (some ⟨a, 0, none⟩) n n, .slice (some ⟨b, 0, none⟩) n n, .slice none 0 0, .int .i64 0, .bool false] 54)).drew := by
  have k0 : Blk (((w.alloc (.cells Z 5)).alloc (.cells Z 5)).alloc (.cells #[.slice (some ⟨a, 0, none⟩) n n, .slice (some ⟨b, 0, none⟩) n n, .slice none 0 0, .int .i64 0, .bool false] 54)).drew w.heap.size 5 Z := (((Blk.new w _ Z).alloc _).alloc _).drew
  have k1 : Blk (((w.alloc (.cells Z 5)).alloc (.cells Z 5)).alloc (.cells #[.slice (some ⟨a, 0, none⟩) n n, .slice (some ⟨b, 0, none⟩) n n, .slice none 0 0, .int .i64 0, .bool false] 54)).drew (w.heap.size + 1) 5 Z := by
    have := ((Blk.new (w.alloc (.cells Z 5)) 5 Z).alloc (.cells #[.slice (some ⟨a, 0, none⟩) n n, .slice (some ⟨b, 0, none⟩) n n, .slice none 0 0, .int .i64 0, .bool false] 54)).drew
    simpa using this
  have k2 : Blk (((w.alloc (.cells Z 5)).alloc (.cells Z 5)).alloc (.cells #[.slice (some ⟨a, 0, none⟩) n n, .slice (some ⟨b, 0, none⟩) n n, .slice none 0 0, .int .i64 0, .bool false] 54)).drew (w.heap.size + 1 + 1) 54 #[.slice (some ⟨a, 0, none⟩) n n, .slice (some ⟨b, 0, none⟩) n n, .slice none 0 0, .int .i64 0, .bool false] := by
    have := (Blk.new ((w.alloc (.cells Z 5)).alloc (.cells Z 5)) 54 #[.slice (some ⟨a, 0, none⟩) n n, .slice (some ⟨b, 0, none⟩) n n, .slice none 0 0, .int .i64 0, .bool false]).drew
    simpa using this
  subst hZ
  have hl : ∀ {x}, (x = a ∨ x = b) → w.heap.size ≤ x ∧ x < w.heap.size + 2 := by rintro x (rfl | rfl) <;> omega
  refine ⟨⟨w.heap.size + 1 + 1, a, b, .slice none 0 0⟩, rfl, ?_, ?_, ?_⟩
  · refine ⟨k2, ?_, ?_, ?_, ⟨rfl, .inl ⟨rfl, rfl⟩⟩, ?_, ?_, ?_, ?_, h2, by show (-9223372036854775808 : Int) ≤ 0; omega, by show (0 : Int) ≤ 9223372036854775807; omega⟩
    · rcases hab with ⟨rfl, rfl⟩ | ⟨rfl, rfl⟩
      · exact k0
      · exact k1
    · rcases hab with ⟨rfl, rfl⟩ | ⟨rfl, rfl⟩
      · exact k1
      · exact k0
    · show a ≠ b
      omega
    · simp [Dsk.fresh]
    · simp [Dsk.fresh, Dsk.lat, Dk.puts]
    · intro p hp
      simp [Dsk.fresh] at hp
    · simp [Dsk.fresh]
  · exact ((((Below.refl _ w).alloc (Nat.le_refl _) _).alloc (by simp) _).alloc (by simp; omega) _).drew
  · rintro k (rfl | rfl | rfl | hk)
    · show w.heap.size ≤ w.heap.size + 1 + 1
      omega
    · exact (hl (.inl rfl)).1
    · exact (hl (.inr rfl)).1
    · simp [Value.ownBlock] at hk

theorem new_any (n : Nat) (w : World) (h1 : 1 ≤ n) (h2 : n ≤ 131072) :
    Calls Tryd.prog 8 #[.int .i64 (n : Int)] w (Made w n) := by
  have hmk := make_bytes n h2
  obtain ⟨Z, hZ⟩ : ∃ Z, Z = (cb (List.replicate n 0)).toArray := ⟨_, rfl⟩
  rw [← hZ] at hmk
  have HZ := Lib.hid hZ
  clear hZ
  go_enter Tryd.func8, Tryd.ntmps8
  go_wp2
  go_region
  all_goals
    go_wp2
    go_ret
    exact made_of w n _ _ Z HZ.out h2 (by omega)
theorem new_none (n : Int) (w : World) (h : n < 1 ∨ 131072 < n) :
    Calls Tryd.prog 8 #[.int .i64 n] w fun e w' => e = .returned (.pointer none) ∧ w = w' := by
  rcases h with h | h
  all_goals
    have h' : ¬ (1 ≤ n ∧ n ≤ 131072) := by omega
    go_enter Tryd.func8, Tryd.ntmps8
    go_wp2
    go_ret
    exact ⟨rfl, rfl⟩

section
variable {w : World} {F : Foot} {n : Nat} {dur lat : List UInt8} {pend : List (Nat × ByteArray)} {left : Int} {broken : Bool}

theorem Raw.c0 (h : Raw w F n dur lat pend left broken) : w.cell? ⟨F.d, 0, none⟩ = some (.slice (some ⟨F.g1, 0, none⟩) n n) := h.blk.cell 0
theorem Raw.c1 (h : Raw w F n dur lat pend left broken) : w.cell? ⟨F.d, 1, none⟩ = some (.slice (some ⟨F.g2, 0, none⟩) n n) := h.blk.cell 1
theorem Raw.c2 (h : Raw w F n dur lat pend left broken) : w.cell? ⟨F.d, 2, none⟩ = some F.pv := h.blk.cell 2
theorem Raw.c3 (h : Raw w F n dur lat pend left broken) : w.cell? ⟨F.d, 3, none⟩ = some (.int .i64 left) := h.blk.cell 3
theorem Raw.c4 (h : Raw w F n dur lat pend left broken) : w.cell? ⟨F.d, 4, none⟩ = some (.bool broken) := h.blk.cell 4
theorem Raw.fr (h : Raw w F n dur lat pend left broken) (i : Nat) : w.frozen? ⟨F.d, i, none⟩ = false := h.blk.frozen i

theorem dsize_any (h : Raw w F n dur lat pend left broken) :
    Calls Tryd.prog 45 #[.pointer (some ⟨F.d, 0, none⟩)] w fun e w' => e = .returned (.int .i64 (n : Int)) ∧ w = w' := by
  have c0 := h.c0
  go_enter Tryd.func45, Tryd.ntmps45
  go_wp2
  go_ret
  exact ⟨rfl, rfl⟩
theorem dsize_nil (w : World) :
    Calls Tryd.prog 45 #[.pointer none] w fun e w' => e = .returned (.int .i64 0) ∧ w = w' := by
  go_enter Tryd.func45, Tryd.ntmps45
  go_wp2
  go_ret
  exact ⟨rfl, rfl⟩
theorem Kept.here {d : Nat} {a b : World} (h : Kept (· = d) a b) (i : Nat) (u : Value) : Kept (· = d) a (b.setCell ⟨d, i, none⟩ u) := h.setCell (p := ⟨d, i, none⟩) (Or.inl rfl) u

/-- The disk's block is told anew, the rest stands. -/
theorem Raw.again (h : Raw w F n dur lat pend left broken) {w' : World} {left' : Int} {broken' : Bool} (hk : Kept (· = F.d) w w')
    (hb : Blk w' F.d 54 #[.slice (some ⟨F.g1, 0, none⟩) n n, .slice (some ⟨F.g2, 0, none⟩) n n, F.pv, .int .i64 left', .bool broken']) (hl : -9223372036854775808 ≤ left') (hh : left' ≤ 9223372036854775807) : Raw w' F n dur lat pend left' broken' :=
  ⟨hb, h.g1.of (hk.block _ h.g1.lt (h.g1.ne_ h.blk (by decide))), h.g2.of (hk.block _ h.g2.lt (h.g2.ne_ h.blk (by decide))), h.ne,
    own_of h.own (fun b e => hk.block b (own_lt h.own e) (fun e' => own_blk_ne h.own h.blk (by decide) (by rw [e, e']))), h.ndur, h.nlat, h.within, h.few, h.small, hl, hh⟩

theorem break_any (h : Raw w F n dur lat pend left broken) (k : Int) (hl : -9223372036854775808 ≤ k) (hh : k ≤ 9223372036854775807) :
    Calls Tryd.prog 11 #[.pointer (some ⟨F.d, 0, none⟩), .int .i64 k] w fun e w' => e = .returned (.tuple #[]) ∧ Raw w' F n dur lat pend k broken ∧ Kept (· = F.d) w w' := by
  have c3 := h.c3
  have f3 := h.fr 3
  go_enter Tryd.func11, Tryd.ntmps11
  go_wp2
  go_end0
  have hk : Kept (· = F.d) w (w.setCell ⟨F.d, 3, none⟩ (.int .i64 k)) := (Kept.refl _ w).here 3 _
  exact ⟨rfl, h.again hk (h.blk.set_ 3 _) hl hh, hk⟩
theorem break_nil (w : World) (k : Int) :
    Calls Tryd.prog 11 #[.pointer none, .int .i64 k] w fun e w' => e = .returned (.tuple #[]) ∧ w = w' := by
  go_enter Tryd.func11, Tryd.ntmps11
  go_wp2
  go_end0
  exact ⟨rfl, rfl⟩

/-- Are there m bytes from k on? -/
def hasB (n : Nat) (k m : Int) : Bool := decide (0 ≤ m) && (decide (0 ≤ k) && decide (k ≤ (n : Int) - m))
theorem hasB_yes {n : Nat} {k m : Int} (h0 : 0 ≤ m) (h1 : 0 ≤ k) (h2 : k ≤ (n : Int) - m) : hasB n k m = true := by simp [hasB, h0, h1, h2]
theorem has_any (h : Raw w F n dur lat pend left broken) (k m : Int) (hm : m ≤ 9223372036854775807) (hm' : -9223372036854775808 ≤ m) :
    Calls Tryd.prog 50 #[.pointer (some ⟨F.d, 0, none⟩), .int .i64 k, .int .i64 m] w fun e w' => e = .returned (.bool (hasB n k m)) ∧ w = w' := by
  have c0 := h.c0
  have hs := h.small
  unfold hasB
  by_cases h0 : 0 ≤ m
  · by_cases h1 : 0 ≤ k
    · by_cases h2 : k ≤ (n : Int) - m
      all_goals
        go_enter Tryd.func50, Tryd.ntmps50
        go_wp2
        go_ret
        exact ⟨by simp [h0, h1, h2], rfl⟩
    · go_enter Tryd.func50, Tryd.ntmps50
      go_wp2
      go_ret
      exact ⟨by simp; omega, rfl⟩
  · go_enter Tryd.func50, Tryd.ntmps50
    go_wp2
    go_ret
    exact ⟨by simp; omega, rfl⟩
theorem has_nil (w : World) (k m : Int) :
    Calls Tryd.prog 50 #[.pointer none, .int .i64 k, .int .i64 m] w fun e w' => e = .returned (.bool false) ∧ w = w' := by
  go_enter Tryd.func50, Tryd.ntmps50
  go_wp2
  go_ret
  exact ⟨rfl, rfl⟩

/-- A step's count, and whether the disk is broken behind it. -/
def stepL (left : Int) : Int := if 0 < left then left - 1 else left
def stepB (left : Int) (broken : Bool) : Bool := broken || decide (left = 1)
def errOf (b : Bool) : Int := if b then 18 else 0
def StepPost (w : World) (F : Foot) (n : Nat) (dur lat : List UInt8) (pend : List (Nat × ByteArray)) (left : Int) (broken : Bool) (e : Ending) (w' : World) : Prop :=
  e = .returned (.int .i64 (errOf (stepB left broken))) ∧ Raw w' F n dur lat pend (stepL left) (stepB left broken) ∧ Kept (· = F.d) w w'
theorem step_any (h : Raw w F n dur lat pend left broken) :
    Calls Tryd.prog 46 #[.pointer (some ⟨F.d, 0, none⟩)] w (StepPost w F n dur lat pend left broken) := by
  have c3 := h.c3
  have c4 := h.c4
  have f3 := h.fr 3
  have f4 := h.fr 4
  have lo := h.low
  have hi := h.high
  by_cases h0 : 0 < left
  · have hk : Kept (· = F.d) w ((w.setCell ⟨F.d, 3, none⟩ (.int .i64 (left - 1))).setCell ⟨F.d, 4, none⟩ (.bool (stepB left broken))) := ((Kept.refl _ w).here 3 _).here 4 _
    have hr : Raw ((w.setCell ⟨F.d, 3, none⟩ (.int .i64 (left - 1))).setCell ⟨F.d, 4, none⟩ (.bool (stepB left broken))) F n dur lat pend (left - 1) (stepB left broken) := h.again hk ((h.blk.set_ 3 _).set_ 4 _) (by omega) (by omega)
    have hL : stepL left = left - 1 := by simp [stepL, h0]
    have HH := Lib.hid (show StepPost w F n dur lat pend left broken (.returned (.int .i64 (errOf (stepB left broken)))) ((w.setCell ⟨F.d, 3, none⟩ (.int .i64 (left - 1))).setCell ⟨F.d, 4, none⟩ (.bool (stepB left broken))) from ⟨rfl, by rw [hL]; exact hr, hk⟩)
    clear hk hr hL h
    cases broken
    · by_cases h1 : left = 1
      · subst h1
        go_enter Tryd.func46, Tryd.ntmps46
        go_wp2
        go_ret
        exact HH.out
      · have hb : stepB left false = false := by simp [stepB, h1]
        have h2 : ((left - 1 : Int) == 0) = false := by simp; omega
        rw [hb] at HH
        go_enter Tryd.func46, Tryd.ntmps46
        go_wp2
        go_ret
        exact HH.out
    · go_enter Tryd.func46, Tryd.ntmps46
      go_wp2
      go_ret
      exact HH.out
  · have hL : stepL left = left := by simp [stepL, h0]
    have hB : stepB left broken = broken := by
      have : ¬ left = 1 := by omega
      simp [stepB, this]
    have HH := Lib.hid (show StepPost w F n dur lat pend left broken (.returned (.int .i64 (errOf broken))) w from ⟨by rw [hB], by rw [hL, hB]; exact h, Kept.refl _ _⟩)
    clear hL hB h
    cases broken
    all_goals
      go_enter Tryd.func46, Tryd.ntmps46
      go_wp2
      go_ret
      exact HH.out
end
end Go.Proofs.YtggecdgomgmhmaaDoor
