/-
  Contract of frame.pieces: it enumerates the texts of the records that a text begins with, and their sizes; what is no record comes last, with the size 0. Condition: the table of crc holds what its text says; the text has at most 40000 bytes.
-/
import Derived.RangeFuncNested
import Derived.RangeFuncBound
import Derived.RangeFuncCalls
import Derived.RangeFuncBox
import Derived.RangeFuncLeaves
import Derived.Shelf.Abstract
import Derived.Shelf.RegionOpen
import Derived.WalkKit
import Derived.OwnWalkIn
import Derived.TacticsInMore
import Derived.LoopNIn
import Derived.LoopIn
import Derived.Maps.AppendAt
import Derived.Test.YtggecdgomgmhmaaDoorFrameN
namespace Go.Proofs.YtggecdgomgmhmaaDoor
open Go.RowKit Go.Shelf
attribute [local go_sem] Oper.semAt_some

def enc2 (t : List UInt8) : ByteArray × Int := (ba t, (t.length : Int) + 8)
/-- What pieces hands out of a text. -/
def seqL (L : List UInt8) : List (ByteArray × Int) := (Fr.scan L).1.map enc2 ++ (if (Fr.scan L).2 < L.length then [((⟨#[]⟩ : ByteArray), (0 : Int))] else [])
theorem seqL_nil : seqL [] = [] := by
  unfold seqL
  rw [Fr.scan_none Fr.next_nil]
  rfl
theorem seqL_none {L : List UInt8} (h0 : L ≠ []) (h : Fr.next L = none) : seqL L = [((⟨#[]⟩ : ByteArray), (0 : Int))] := by
  unfold seqL
  rw [Fr.scan_none h]
  have : 0 < L.length := List.length_pos_iff.2 h0
  simp [this]
theorem next_le {L t : List UInt8} (h : Fr.next L = some t) : t.length + 8 ≤ L.length := by
  obtain ⟨_, r, rfl⟩ := Fr.next_some h
  rw [List.length_append, Fr.rec_length]
  omega
theorem seqL_some {L t : List UInt8} (h : Fr.next L = some t) : seqL L = enc2 t :: seqL (L.drop (t.length + 8)) := by
  have hl := next_le h
  unfold seqL
  rw [Fr.scan_some h]
  simp only [List.map_cons, List.cons_append, List.length_drop]
  congr 2
  by_cases hc : (Fr.scan (L.drop (t.length + 8))).2 < L.length - (t.length + 8)
  · rw [if_pos hc, if_pos (by omega)]
  · rw [if_neg hc, if_neg (by omega)]
theorem run_from (s : ByteArray) (i : Int) (a : Nat) (hi : i = (a : Int)) (ha : a ≤ s.size) (W : World) :
    (Instr.slice 9 (.string s) (some (.int .i64 i)) none none).run Tryd.prog W = .ok (.string (ba (s.data.toList.drop a))) W := by
  subst hi
  rw [run_slice_string_from_if _ _ _ _ _ Tryd.underlying9, if_pos (by omega), ← ext_drop]
  simp
def strSize : Value → Nat
  | .string u => u.size
  | _ => 0
theorem grown_of_below {A B : World} (h : Below A.heap.size A B) : A.grownBy B none := ⟨h.os, h.tape, h.output, h.size, fun k hk _ => h.block k hk⟩

set_option maxRecDepth 100000 in
set_option maxHeartbeats 4000000 in
theorem pieces1_in (n : Nat) (l Bn n₀ : Nat) (s : ByteArray) (hs : s.size ≤ 40000) (hn₀ : 0 < n₀) (J Jx : List (ByteArray × Int) → World → Prop)
    (W : World) (hW0 : n₀ ≤ W.heap.size) (hJ : AbidesFrom W.heap.size J)
    (hY : ∀ pre x W, J pre W → pre.length < (seqL s.data.toList).length → YieldAt Fence.wide (n - 1) Tryd.prog l #[.string x.1, .int .i64 x.2] W fun e W' =>
      (e = .returned (.bool true) ∧ J (pre ++ [x]) W' ∧ Below n₀ W W') ∨ (e = .returned (.bool false) ∧ Jx (pre ++ [x]) W'))
    (hBn : W.cell? ⟨Bn, 0, none⟩ = some (.string s)) (hT : Tab W) (h0 : J [] W) :
    CallsIn Fence.wide n Tryd.prog 65 #[.func (.yield l) #[] #[], .pointer (some ⟨Bn, 0, none⟩)] W fun e W' => (∃ v, e = .returned v) ∧
      ((∃ ys, ys = seqL s.data.toList ∧ J ys W') ∨ (∃ pre, pre <+: seqL s.data.toList ∧ Jx pre W')) := by
  refine callsIn_of_wp Tryd.func65 rfl trivial ?_ rfl
  simp only [Tryd.ntmps65, List.size_toArray, List.length_cons, List.length_nil, Nat.reduceAdd, Nat.reduceSub, Array.replicate_succ, Array.replicate_zero, List.push_toArray, List.append_toArray, List.nil_append, List.cons_append]
  gi_wp2
  gi_loopw [3, 4, 5, 6] (fun p _ _ _ wr => ∃ (pre : List (ByteArray × Int)) (u : ByteArray), p = .string u ∧ u.size ≤ 40000 ∧ seqL s.data.toList = pre ++ seqL u.data.toList ∧ J pre wr ∧ Tab wr ∧ n₀ ≤ wr.heap.size)
    (fun p _ _ _ _ => strSize p)
  case atStart =>
    exact ⟨[], s, rfl, hs, rfl, h0, hT, hW0⟩
  case round =>
    obtain ⟨pre, u, rfl, hu, hx, hJs, hTs, hns⟩ := hrel
    cases he : (u.toList == []) with
    | true =>
      have hnil : u.data.toList = [] := by rw [← ByteArray.toList_eq]; simpa using he
      gi_wp2
      go_end0
      exact ⟨⟨_, rfl⟩, .inl ⟨pre, by rw [hx, hnil, seqL_nil, List.append_nil], hJs⟩⟩
    | false =>
      have hne : u.data.toList ≠ [] := by
        intro h
        rw [ByteArray.toList_eq, h] at he
        simp at he
      have HN := Lib.hid (next_any' u wr hu hTs)
      cases hq : Fr.next u.data.toList with
      | none =>
        obtain ⟨q1, q2, q3⟩ := n_none hq
        rw [q1, q2, q3] at HN
        rw [seqL_none hne hq] at hx
        clear hne hq q1 q2 q3
        gi_wp2_with fail
        refine ⟨trivial, fun h => (by cases h), ?_⟩
        refine (callsIn_wide.2 HN.out).mono ?_
        rintro e W1 ⟨rfl, hb⟩
        obtain ⟨fn, tmps, assign, body, hy, hR⟩ := hY pre ((⟨#[]⟩ : ByteArray), (0 : Int)) W1 (hJ _ _ _ none hJs (grown_of_below hb) (fun r e => by cases e)) (by rw [hx]; simp)
        clear HN
        dsimp only at hy
        gi_wp2
        refine ⟨fun h => (by cases h), hR.mono ?_⟩
        rintro e W3 (⟨rfl, hJ3, hk3⟩ | ⟨rfl, hJx3⟩)
        · gi_wp2
          refine bodyPost_ret (results_none rfl _ _ _) rfl ?_
          exact ⟨⟨_, rfl⟩, .inl ⟨_, hx.symm, hJ3⟩⟩
        · gi_wp2
          refine bodyPost_ret (results_none rfl _ _ _) rfl ?_
          exact ⟨⟨_, rfl⟩, .inr ⟨_, ⟨[], by rw [hx, List.append_nil]⟩, hJx3⟩⟩
      | some t =>
        obtain ⟨q1, q2, q3⟩ := n_some hq
        rw [q1, q2, q3] at HN
        have hle := next_le hq
        rw [size_list] at hle
        have hfr := run_from u ((t.length : Int) + 8) (t.length + 8) (by omega) hle
        rw [seqL_some hq] at hx
        clear hne hq q1 q2 q3
        gi_wp2_with fail
        refine ⟨trivial, fun h => (by cases h), ?_⟩
        refine (callsIn_wide.2 HN.out).mono ?_
        rintro e W1 ⟨rfl, hb⟩
        obtain ⟨fn, tmps, assign, body, hy, hR⟩ := hY pre (enc2 t) W1 (hJ _ _ _ none hJs (grown_of_below hb) (fun r e => by cases e)) (by rw [hx]; simp)
        clear HN
        simp only [enc2] at hy
        have ht1 : Tab W1 := hTs.below hb hTs.lt
        have hn1 : n₀ ≤ W1.heap.size := Nat.le_trans hns hb.size
        clear hb
        gi_wp2
        refine ⟨fun h => (by cases h), hR.mono ?_⟩
        rintro e W3 (⟨rfl, hJ3, hk3⟩ | ⟨rfl, hJx3⟩)
        · gi_wp2
          go_roundw
          case rel => exact ⟨pre ++ [enc2 t], ba (u.data.toList.drop (t.length + 8)), rfl, by rw [ba_size, List.length_drop, size_list]; omega, by rw [hx, ba_list]; simp, hJ3, ht1.below hk3 hn₀, Nat.le_trans hn1 hk3.size⟩
          case measure =>
            show (ba (u.data.toList.drop (t.length + 8))).size < u.size
            rw [ba_size, List.length_drop, size_list]
            omega
        · gi_wp2
          refine bodyPost_ret (results_none rfl _ _ _) rfl ?_
          exact ⟨⟨_, rfl⟩, .inr ⟨_, ⟨seqL (u.data.toList.drop (t.length + 8)), by rw [hx]; simp⟩, hJx3⟩⟩

set_option maxHeartbeats 1000000 in
/-- pieces: the text is boxed; the function value captures the box. -/
theorem pieces_in (n : Nat) (s : ByteArray) (w : World) :
    CallsIn Fence.wide n Tryd.prog 51 #[.string s] w fun e w' => e = .returned (.func (.func 65) #[] #[.pointer (some ⟨w.heap.size, 0, none⟩)]) ∧ w' = w.alloc (.cells #[.string s] 9) := by
  refine callsIn_of_wp Tryd.func51 rfl trivial ?_ rfl
  simp only [Tryd.ntmps51, List.size_toArray, List.length_cons, List.length_nil, Nat.reduceAdd, Nat.reduceSub, Array.replicate_succ, Array.replicate_zero, List.push_toArray, List.append_toArray, List.nil_append, List.cons_append]
  gi_wp2
  go_ret
  exact ⟨rfl, rfl⟩
theorem pieces_stops (n : Nat) (Bn n₀ : Nat) (s : ByteArray) (hs : s.size ≤ 40000) (hn₀ : 0 < n₀) (w : World) (hBn : Bn < w.heap.size) (hnw : n₀ ≤ w.heap.size)
    (hc : w.cell? ⟨Bn, 0, none⟩ = some (.string s)) (hT : Tab w) :
    SeqStopsK Fence.wide n Tryd.prog 65 #[.pointer (some ⟨Bn, 0, none⟩)] (fun x : ByteArray × Int => #[Value.string x.1, Value.int .i64 x.2]) (Below n₀) (fun ys => ys = seqL s.data.toList) (fun pre => pre <+: seqL s.data.toList) (seqL s.data.toList).length w := fun l J Jx W hW hJ _ hY h0 =>
  pieces1_in n l Bn n₀ s hs hn₀ J Jx W (Nat.le_trans hnw hW.size) hJ hY ((hW.cell (p := ⟨Bn, 0, none⟩) hBn).trans hc) (hT.below (hW.mono hnw) hn₀) h0

end Go.Proofs.YtggecdgomgmhmaaDoor
