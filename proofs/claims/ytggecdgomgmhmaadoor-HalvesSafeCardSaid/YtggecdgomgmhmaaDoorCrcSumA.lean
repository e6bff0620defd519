/-
  Contracts of crc.process and crc.Sum: the register after all bytes of all parts; they write nothing that was there. Condition: the table holds what its text says.
-/
import Derived.Test.YtggecdgomgmhmaaDoorCrcNext
import Derived.Lib.Hide
namespace Go.Proofs.YtggecdgomgmhmaaDoor
open Go.RowKit

def all (ss : List ByteArray) : List UInt8 := (ss.map fun s => s.data.toList).flatten
theorem all_take (ss : List ByteArray) (k : Nat) (h : k < ss.length) : all (ss.take (k + 1)) = all (ss.take k) ++ ss[k].data.toList := by
  unfold all
  rw [List.take_succ_eq_append_getElem h, List.map_append, List.flatten_append]
  congr 1
  exact List.append_nil _
theorem take_snoc (s : ByteArray) (k : Nat) (h : k < s.size) : s.data.toList.take (k + 1) = s.data.toList.take k ++ [s[k]] := by
  rw [List.take_succ_eq_append_getElem (by simpa using h)]; rfl

def OuterRel (w : World) (r : BitVec 32) (ss : List ByteArray) (i : Value) (wr : World) : Prop :=
  ∃ k : Nat, k ≤ ss.length ∧ i = .int .i64 (k : Int) ∧ Reg wr w.heap.size (Crc.fold r (all (ss.take k))) ∧ Below w.heap.size w wr
def InnerRel (w : World) (r : BitVec 32) (s : ByteArray) (i : Value) (wr : World) : Prop :=
  ∃ k : Nat, k ≤ s.size ∧ i = .int .i64 (k : Int) ∧ Reg wr w.heap.size (Crc.fold r (s.data.toList.take k)) ∧ Below w.heap.size w wr

theorem Tab.below {w w' : World} {B : Nat} (h : Tab w) (hb : Below B w w') (hB : 0 < B) : Tab w' := fun i hi =>
  (hb.cell (p := ⟨0, i, none⟩) hB).trans (h i hi)
theorem below_of_grown {w w' : World} {B : Nat} (hg : w.grownBy w' (some B)) (hB : B ≤ w.heap.size) : Below B w w' :=
  (Below.refl B w).grown hg hB (fun k hk => by cases hk; exact Nat.le_refl _)

theorem Reg.new (w : World) (r : BitVec 32) : Reg (w.alloc (.cells #[.int .u32 (R r)] 112)) w.heap.size r := by
  show (w.heap.push _)[w.heap.size]? = _
  simp

theorem process_nil (r : BitVec 32) (a : Option Addr) (cap : Nat) (w : World) :
    Calls Tryd.prog 76 #[.int .u32 (R r), .slice a 0 cap] w fun e w' => e = .returned (.int .u32 (R r)) ∧ Below w.heap.size w w' := by
  have hmf : ∀ (fn : Fn) (first cap : Array Value) (w : World), (Instr.makeFunc fn first cap).run Tryd.prog w = .ok (.func fn first cap) w := fun _ _ _ _ => rfl
  go_enter Tryd.func76, Tryd.ntmps76
  go_wp2
  refine wp_loop_rounds 1 ?_
  rw [rounds_succ]
  go_wp2
  go_ret
  exact ⟨rfl, (Below.refl _ _).alloc (Nat.le_refl _) _⟩

set_option maxHeartbeats 1000000 in
theorem process_some (r : BitVec 32) (ss : List ByteArray) (b : Nat) (cap : Nat) (w : World) (ht : Tab w) (hbz : b < w.heap.size) (hcs : ∀ i (h : i < ss.length), w.cell? ⟨b, i, none⟩ = some (.string ss[i]))
    (hl : ss.length ≤ 1000) (hs : ∀ i (h : i < ss.length), ss[i].size ≤ maxLen) :
    Calls Tryd.prog 76 #[.int .u32 (R r), .slice (some ⟨b, 0, none⟩) ss.length cap] w fun e w' => e = .returned (.int .u32 (R (Crc.fold r (all ss)))) ∧ Below w.heap.size w w' := by
  have hmf : ∀ (fn : Fn) (first cap : Array Value) (w : World), (Instr.makeFunc fn first cap).run Tryd.prog w = .ok (.func fn first cap) w := fun _ _ _ _ => rfl
  have HC := Lib.hid hcs
  have HM := Lib.hid hs
  have hz := ht.lt
  clear hcs hs
  go_enter Tryd.func76, Tryd.ntmps76
  go_wp2
  clear hmf
  go_loopw [12] (OuterRel w r ss) (fun i _ => ss.length - (intOf i).toNat)
  case atStart => exact ⟨0, by omega, rfl, Reg.new w r, (Below.refl _ _).alloc (Nat.le_refl _) _⟩
  case round =>
    obtain ⟨k, hk, rfl, hreg, hbel⟩ := hrel
    have hcR := hreg.cell
    by_cases hlt : k < ss.length
    · have hpart := HC.out k hlt
      have hsz := HM.out k hlt
      have HA := Lib.hid (congrArg (Crc.fold r) (all_take ss k hlt))
      generalize ss[k] = s at hpart hsz HA
      have hcell : wr.cell? ⟨b, k, none⟩ = some (.string s) := (hbel.cell (p := ⟨b, k, none⟩) hbz).trans hpart
      clear hpart
      unfold maxLen at hsz
      go_wp2
      obtain ⟨wo, rfl⟩ : ∃ wo : World, wo = wr := ⟨_, rfl⟩
      clear hcell hcR
      have HA2 : Hid (Crc.fold r (all (ss.take (k + 1))) = Crc.fold (Crc.fold r (all (ss.take k))) s.data.toList) := HA.out.trans (Crc.fold_append _ _ _)
      clear HA
      generalize Crc.fold r (all (ss.take k)) = q at hreg HA2
      go_loopw [18] (InnerRel w q s) (fun i _ => s.size - (intOf i).toNat)
      case atStart => exact ⟨0, by omega, rfl, by simpa [Crc.fold] using hreg, hbel⟩
      case round =>
        obtain ⟨j, hj, rfl, hregi, hbeli⟩ := hrel
        by_cases hjt : j < s.size
        · have HT : Hid (Crc.fold q (s.data.toList.take (j + 1)) = Crc.inB (Crc.fold q (s.data.toList.take j)) s[j]) := (congrArg (Crc.fold q) (take_snoc s j hjt)).trans (Crc.fold_snoc _ _ _)
          generalize Crc.fold q (s.data.toList.take j) = p at hregi HT
          go_wp2_with (go_at_call 79; refine (next_any _ _ _ _ (by omega) hregi (ht.below hbeli hz)).mono ?_; rintro e w' ⟨rfl, hreg', hg⟩)
          go_roundw
          case rel => exact ⟨j + 1, by omega, by go_num, by rw [HT.out]; exact hreg', hbeli.trans (below_of_grown hg hbeli.size)⟩
          case measure => simp [intOf]; omega
        · obtain rfl : j = s.size := by omega
          rw [List.take_of_length_le (by simp), ← HA2.out] at hregi
          go_wp2
          go_roundw
          case rel => exact ⟨k + 1, by omega, by go_num, hregi, hbeli⟩
          case measure => simp [intOf]; omega
    · obtain rfl : k = ss.length := by omega
      rw [List.take_length] at hcR
      go_wp2
      go_ret
      exact ⟨rfl, hbel⟩

theorem process_any (r : BitVec 32) (ss : List ByteArray) (a : Option Addr) (cap : Nat) (w : World) (ht : Tab w) (hp : ss = [] ∨ ∃ b, a = some ⟨b, 0, none⟩ ∧ b < w.heap.size ∧ ∀ i (h : i < ss.length), w.cell? ⟨b, i, none⟩ = some (.string ss[i]))
    (hl : ss.length ≤ 1000) (hs : ∀ i (h : i < ss.length), ss[i].size ≤ maxLen) :
    Calls Tryd.prog 76 #[.int .u32 (R r), .slice a ss.length cap] w fun e w' => e = .returned (.int .u32 (R (Crc.fold r (all ss)))) ∧ Below w.heap.size w w' := by
  rcases hp with rfl | ⟨b, rfl, hb, hc⟩
  · exact process_nil r a cap w
  · exact process_some r ss b cap w ht hb hc hl hs

/-- The parts of a variadic call lie in memory. -/
def Parts (w : World) (a : Option Addr) (ss : List ByteArray) : Prop :=
  (ss = [] ∨ ∃ b, a = some ⟨b, 0, none⟩ ∧ b < w.heap.size ∧ ∀ i (h : i < ss.length), w.cell? ⟨b, i, none⟩ = some (.string ss[i])) ∧ ss.length ≤ 1000 ∧ ∀ i (h : i < ss.length), ss[i].size ≤ maxLen

theorem sum_any (ss : List ByteArray) (a : Option Addr) (n cap : Nat) (w : World) (ht : Tab w) (hp : Parts w a ss) (hn : ss.length = n) :
    Calls Tryd.prog 64 #[.slice a n cap] w fun e w' => e = .returned (.int .u32 (R (Crc.sum (all ss)))) ∧ Below w.heap.size w w' := by
  subst hn
  have hx := R_ones (Crc.fold Crc.ones (all ss))
  have HP := Lib.hid (process_any Crc.ones ss a cap w ht hp.1 hp.2.1 hp.2.2)
  go_enter Tryd.func64, Tryd.ntmps64
  go_wp2_with (go_at_call 76; refine HP.out.mono ?_; rintro e w' ⟨rfl, hb⟩)
  go_ret
  exact ⟨rfl, hb⟩

theorem Tab.alloc {w : World} (h : Tab w) (o : Obj) : Tab (w.alloc o) := h.below ((Below.refl w.heap.size w).alloc (Nat.le_refl _) o) h.lt

/-- One part, two, three, as a variadic call lays them. -/
theorem parts_one (w : World) (s : ByteArray) (hs : s.size ≤ maxLen) : Parts (w.alloc (.cells #[.string s] 9)) (some ⟨w.heap.size, 0, none⟩) [s] := by
  refine ⟨.inr ⟨w.heap.size, rfl, by simp, ?_⟩, by simp, ?_⟩
  · intro i hi
    rw [World.cell?_alloc_at _ _ _ _ rfl]
    match i, hi with
    | 0, _ => rfl
  · intro i hi
    match i, hi with
    | 0, _ => exact hs
theorem parts_two (w : World) (s t : ByteArray) (hs : s.size ≤ maxLen) (ht : t.size ≤ maxLen) : Parts (w.alloc (.cells #[.string s, .string t] 9)) (some ⟨w.heap.size, 0, none⟩) [s, t] := by
  refine ⟨.inr ⟨w.heap.size, rfl, by simp, ?_⟩, by simp, ?_⟩
  · intro i hi
    rw [World.cell?_alloc_at _ _ _ _ rfl]
    match i, hi with
    | 0, _ => rfl
    | 1, _ => rfl
  · intro i hi
    match i, hi with
    | 0, _ => exact hs
    | 1, _ => exact ht
theorem parts_three (w : World) (s t u : ByteArray) (hs : s.size ≤ maxLen) (ht : t.size ≤ maxLen) (hu : u.size ≤ maxLen) : Parts (w.alloc (.cells #[.string s, .string t, .string u] 9)) (some ⟨w.heap.size, 0, none⟩) [s, t, u] := by
  refine ⟨.inr ⟨w.heap.size, rfl, by simp, ?_⟩, by simp, ?_⟩
  · intro i hi
    rw [World.cell?_alloc_at _ _ _ _ rfl]
    match i, hi with
    | 0, _ => rfl
    | 1, _ => rfl
    | 2, _ => rfl
  · intro i hi
    match i, hi with
    | 0, _ => exact hs
    | 1, _ => exact ht
    | 2, _ => exact hu

theorem all_one (s : ByteArray) : all [s] = s.data.toList := by simp [all]
theorem all_two (s t : ByteArray) : all [s, t] = s.data.toList ++ t.data.toList := by simp [all]
theorem all_three (s t u : ByteArray) : all [s, t, u] = s.data.toList ++ (t.data.toList ++ u.data.toList) := by simp [all]

theorem below_alloc {w w' : World} {o : Obj} (h : Below (w.alloc o).heap.size (w.alloc o) w') : Below w.heap.size w w' :=
  ((Below.refl _ _).alloc (Nat.le_refl _) o).trans (h.mono (by simp))

theorem sum_one (s : ByteArray) (w : World) (ht : Tab w) (hs : s.size ≤ maxLen) :
    Calls Tryd.prog 64 #[.slice (some ⟨w.heap.size, 0, none⟩) 1 1] (w.alloc (.cells #[.string s] 9)) fun e w' => e = .returned (.int .u32 (R (Crc.sum s.data.toList))) ∧ Below w.heap.size w w' := by
  refine (sum_any [s] _ 1 1 _ (ht.alloc _) (parts_one w s hs) rfl).mono fun e w' ⟨he, hb⟩ => ⟨?_, below_alloc hb⟩
  rw [he, all_one]
theorem sum_two (s t : ByteArray) (w : World) (ht : Tab w) (hs : s.size ≤ maxLen) (hs' : t.size ≤ maxLen) :
    Calls Tryd.prog 64 #[.slice (some ⟨w.heap.size, 0, none⟩) 2 2] (w.alloc (.cells #[.string s, .string t] 9)) fun e w' => e = .returned (.int .u32 (R (Crc.sum (s.data.toList ++ t.data.toList)))) ∧ Below w.heap.size w w' := by
  refine (sum_any [s, t] _ 2 2 _ (ht.alloc _) (parts_two w s t hs hs') rfl).mono fun e w' ⟨he, hb⟩ => ⟨?_, below_alloc hb⟩
  rw [he, all_two]
theorem sum_three (s t u : ByteArray) (w : World) (ht : Tab w) (hs : s.size ≤ maxLen) (hs' : t.size ≤ maxLen) (hs'' : u.size ≤ maxLen) :
    Calls Tryd.prog 64 #[.slice (some ⟨w.heap.size, 0, none⟩) 3 3] (w.alloc (.cells #[.string s, .string t, .string u] 9)) fun e w' => e = .returned (.int .u32 (R (Crc.sum (s.data.toList ++ (t.data.toList ++ u.data.toList))))) ∧ Below w.heap.size w w' := by
  refine (sum_any [s, t, u] _ 3 3 _ (ht.alloc _) (parts_three w s t u hs hs' hs'') rfl).mono fun e w' ⟨he, hb⟩ => ⟨?_, below_alloc hb⟩
  rw [he, all_three]
theorem sum_none (w : World) (cap : Nat) (a : Option Addr) (ht : Tab w) :
    Calls Tryd.prog 64 #[.slice a 0 cap] w fun e w' => e = .returned (.int .u32 0) ∧ Below w.heap.size w w' := by
  refine (sum_any [] a 0 cap w ht ⟨.inl rfl, by simp, by intro i hi; simp at hi⟩ rfl).mono fun e w' ⟨he, hb⟩ => ⟨?_, hb⟩
  rw [he]
  show Ending.returned (.int .u32 (R (Crc.sum []))) = _
  rw [Crc.sum_nil]
  rfl

theorem process_one (r : BitVec 32) (s : ByteArray) (w : World) (ht : Tab w) (hs : s.size ≤ maxLen) :
    Calls Tryd.prog 76 #[.int .u32 (R r), .slice (some ⟨w.heap.size, 0, none⟩) 1 1] (w.alloc (.cells #[.string s] 9)) fun e w' => e = .returned (.int .u32 (R (Crc.fold r s.data.toList))) ∧ Below w.heap.size w w' := by
  have hp := parts_one w s hs
  refine (process_any r [s] _ 1 _ (ht.alloc _) hp.1 hp.2.1 hp.2.2).mono fun e w' ⟨he, hb⟩ => ⟨?_, below_alloc hb⟩
  rw [he, all_one]

end Go.Proofs.YtggecdgomgmhmaaDoor
