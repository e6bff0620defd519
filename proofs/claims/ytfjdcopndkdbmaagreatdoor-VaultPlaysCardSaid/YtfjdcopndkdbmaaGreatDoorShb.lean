/-
  A law for a loop over an iterator that writes a block of its own between two rounds (a buffer), over a body that never leaves the loop. No condition.
  Contracts of sha.size, sha.padding, and of slices.Grow and slices.Concat at texts. Condition: at most 1000 parts, and 100000 bytes.
  Contracts of sha.blocks: it enumerates the blocks of 64 bytes of all parts, one behind the other. Condition: at most 10000 parts of 100000 bytes in all.
  Contract of sha.Sum: the digest of all parts, one behind the other. Condition: the tables hold what their text says; at most 1000 parts of 100000 bytes in all.
  Contract of sha.Sum at parts that a slice literal lays. Condition: the tables hold what their text says; at most 1000 parts of 100000 bytes in all.
  Contract of sha's Sum of a nil Meter: it tells the digest and counts nothing. Condition: the tables hold what their text says; at most 1000 parts of 100000 bytes in all.
-/
import Derived.RangeFuncNested
import Derived.Lib.AppendZerosOnto
import Derived.LoopTactic
import Derived.RangeFuncBound
import Derived.RangeFuncCalls
import Derived.RangeFuncBox
import Derived.RangeFuncLeaves
import Derived.Shelf.Abstract
import Derived.Shelf.RegionOpen
import Derived.WalkKit
import Derived.OwnWalkIn
import Derived.TacticsInMore
import Derived.LoopNIn
import Derived.LoopIn
import Derived.Test.YtfjdcopndkdbmaaGreatDoorBas
import Derived.Test.YtfjdcopndkdbmaaGreatDoorRep
import Derived.Test.YtfjdcopndkdbmaaGreatDoorSha

namespace Go.Proofs.YtfjdcopndkdbmaaGreatDoor
open Go.RowKit
section
variable {F : Fence} {n : Nat} {P : Program}

/-- The iterator's word: all is handed out; what the caller says of memory must outlast the iterator's writes to cells laid since its call began. -/
def SeqWhole {α : Type} (F : Fence) (n : Nat) (P : Program) (g : Nat) (lb : Array Value) (encs : α → Array Value) (Kp : World → World → Prop) (S : List α → Prop) (Ok : α → Prop) (w : World) : Prop :=
  ∀ (l : Nat) (J : List α → World → Prop) (W : World), Below w.heap.size w W →
    (∀ (s : List α) (A B : World) (row : Option Nat), J s A → A.grownBy B row → (∀ r, row = some r → W.heap.size ≤ r) → J s B) →
    (∀ pre x W1, J pre W1 → Ok x → YieldAt F (n - 1) P l (encs x) W1 fun e W' => e = .returned (.bool true) ∧ J (pre ++ [x]) W' ∧ Kp W1 W') →
    J [] W → CallsIn F n P g (#[.func (.yield l) #[] #[]] ++ lb) W fun e W' => (∃ v, e = .returned v) ∧ ∃ xs, S xs ∧ J xs W'

/-- THE LAW. -/
theorem wpIn_rangeWhole {α : Type} {g : Operand} {ps : Array Tmp} {assign body : Code} {Q : Exit → Act → World → Prop} {a : Act} {w : World}
    (hro : F.round = none) (h1 : 1 ≤ n) {gf : Nat} {lb : Array Value} (hg : a.eval g = .func (.func gf) #[] lb) (hFg : F.fn gf) (eg : ∀ args w, (callFunc gf args).run P w = .ok (.enter gf args) w)
    {encs : α → Array Value} {Kp : World → World → Prop} {S : List α → Prop} {Ok : α → Prop} {w0 : World} (hseq : SeqWhole F (n - 1) P gf lb encs Kp S Ok w0)
    (hKt : ∀ {A B C : World}, Kp A B → Kp B C → Kp A C) (hKb : ∀ (W : World) (l : Nat) (o o' : Obj), w.heap.size ≤ l → W.heap[l]? = some o → o.isCells = false → Kp W (W.putObj l o'))
    (hb0 : Below w0.heap.size w0 w) (hps : ∀ x, (encs x).size = ps.size)
    (I : List α → World → Prop) (hI : ∀ (s : List α) (A B : World) (row : Option Nat), I s A → A.grownBy B row → (∀ r, row = some r → w.heap.size ≤ r) → I s B) (h0 : I [] w)
    (Ax : α → Act → World → Prop) (hAx : ∀ (x : α) (a' : Act) (A : World) (l : Nat) (o o' : Obj), Ax x a' A → w.heap.size ≤ l → A.heap[l]? = some o → o.isCells = false → Ax x a' (A.putObj l o'))
    (hassign : ∀ (l : Nat) (pre : List α) (x : α) (W : World) (K : Act → World → Prop), Ok x → I pre W → (∀ a' W', KeepsFrom w.heap.size W W' → Kp W W' → I pre W' → Ax x a' W' → K a' W') →
      assign.wpIn (F.inRound l) (n - 1 - 1) P (Exit.then K (fun _ _ _ => False)) { tmps := (ps.zip (encs x)).foldl (fun t (p, v) => t.setIfInBounds p v) a.tmps, defers := [] } W)
    (hbody : ∀ (l : Nat) (pre : List α) (x : α) (a' : Act) (W : World), I pre W → Ax x a' W → Ok x →
      body.wpIn (F.inRound l) (n - 1 - 1) P (fun e _ W' => e = .normal ∧ KeepsFrom w.heap.size W W' ∧ Kp W W' ∧ I (pre ++ [x]) W') a' W)
    (hdone : ∀ (D : Nat) (xs : List α) (W : World), w.heap.size ≤ D → S xs → I xs W → W.heap[D]? = some (.deferred (some [])) → Q .normal { a with defers := { target := .collected D, args := #[] } :: a.defers } W) :
    (Code.rangeFunc g ps assign body).wpIn F n P Q a w := by
  have hIp : ∀ (s : List α) (W : World) (l : Nat) (o o' : Obj), I s W → w.heap.size ≤ l → W.heap[l]? = some o → I s (W.putObj l o') := fun s W l o o' hi hl _ =>
    hI s W _ (some l) hi (grownBy_putObj' W l o') (fun r e => by cases e; exact hl)
  refine wpIn_rangeFunc fun fn hfn => ?_
  rw [hro]
  -- the block of the rounds' deferred calls, and the loop's record
  let rc : LoopState → Option Code → Loop := fun st pe => { state := st, pending := pe, fn, tmps := a.tmps, params := ps, assign, body, defers := w.heap.size }
  let V : World := (w.alloc (.deferred (some []))).alloc (.loop (rc .ready none))
  have vs : V.heap.size = w.heap.size + 2 := by simp [V]
  have vl : V.heap[w.heap.size + 1]? = some (.loop (rc .ready none)) := by
    have := World.alloc_heap_new (w.alloc (.deferred (some []))) (.loop (rc .ready none))
    rwa [World.size_alloc] at this
  have vd : V.heap[w.heap.size]? = some (.deferred (some [])) := (Below.heap_alloc _ _ _ (by simp)).trans (World.alloc_heap_new w _)
  have vi : I [] V := hI _ _ _ none (hI _ _ _ none h0 (World.grownBy_alloc w _ none) (fun r e => by cases e)) (World.grownBy_alloc _ _ none) (fun r e => by cases e)
  have vb : Below w0.heap.size w0 V := hb0.trans ((((Below.refl _ w).alloc (Nat.le_refl _) _).alloc (by simp) _).mono hb0.size)
  refine ⟨w.heap.size + 1, [{ target := .collected w.heap.size, args := #[] }], V, { target := .fn (.func gf) lb, args := #[.func (.yield (w.heap.size + 1)) #[] #[]] }, V, gf,
    #[.func (.yield (w.heap.size + 1)) #[] #[]] ++ lb, V, run_enterLoop_outer _ _ _ _ _, ?_, ?_, ?_, fun _ => h1, ?_⟩
  · simp only [resolve, hg]
    simp [go_sem]
  · intro f' hf'
    simp [Target.leads] at hf'
    subst hf'
    exact hFg
  · simp [invoke, go_sem, eg]
  clear_value V
  refine (hseq (w.heap.size + 1) (fun pre W => I pre W ∧ W.heap[w.heap.size + 1]? = some (.loop (rc .ready none)) ∧ W.heap[w.heap.size]? = some (.deferred (some []))) V vb ?_ ?_ ⟨vi, vl, vd⟩).mono ?_
  · -- what the caller says outlasts the iterator's own writes
    rintro s A B row ⟨hi, hl, hd⟩ hgr hr
    refine ⟨hI s A B row hi hgr (fun r e => by have := hr r e; omega), ?_, ?_⟩
    · exact (hgr.block _ (Array.getElem?_eq_some_iff.1 hl).1 (fun e => by have := hr _ e.symm; omega)).trans hl
    · exact (hgr.block _ (Array.getElem?_eq_some_iff.1 hd).1 (fun e => by have := hr _ e.symm; omega)).trans hd
  · -- a round
    rintro pre x W ⟨hi, hl, hd⟩ hlen
    have hy := run_yield (P := P) (args := encs x) hl (hps x)
    refine ⟨fn, _, assign, body, hy, roundIn_of_wpIn hfn (hassign _ pre x W _ hlen hi ?_)⟩
    intro a' X kf kp xi xa
    have xl := kf.same _ _ (by omega) hl rfl
    have xd := kf.same _ _ (Nat.le_refl _) hd rfl
    have xlt := (Array.getElem?_eq_some_iff.1 xl).1
    refine ⟨_, run_beginRound xl rfl, ?_⟩
    have yl : (X.putObj (w.heap.size + 1) (.loop { rc .ready none with state := .busy })).heap[w.heap.size + 1]? = some (.loop { rc .ready none with state := .busy }) := World.putObj_heap_same xlt
    have yd : (X.putObj (w.heap.size + 1) (.loop { rc .ready none with state := .busy })).heap[w.heap.size]? = some (.deferred (some [])) := (World.putObj_heap_other (by omega)).trans xd
    have yp := hKb X (w.heap.size + 1) _ (.loop { rc .ready none with state := .busy }) (by omega) xl rfl
    refine wpIn_mono (hbody _ pre x a' _ (hIp _ _ _ _ _ xi (by omega) xl) (hAx _ _ _ _ _ _ xa (by omega) xl rfl) hlen) ?_
    rintro e a3 Z ⟨rfl, zf, zp, zi⟩
    have zl := zf.same _ _ (by omega) yl rfl
    have zd := zf.same _ _ (Nat.le_refl _) yd rfl
    exact ⟨_, _, run_endRound (P := P) none zl, rfl, ⟨hIp _ _ _ _ _ zi (by omega) zl, World.putObj_heap_same (Array.getElem?_eq_some_iff.1 zl).1, (World.putObj_heap_other (by omega)).trans zd⟩,
      hKt kp (hKt (hKt yp zp) (hKb _ _ _ _ (by omega) zl rfl))⟩
  · -- behind the iterator
    rintro e W2 ⟨⟨v, rfl⟩, xs, hS, hi, hl, hd⟩
    exact ⟨none, _, run_endLoop (P := P) hl (by simp [rc]), hdone _ xs _ (Nat.le_refl _) hS (hIp _ _ _ _ _ hi (by omega) hl) ((World.putObj_heap_other (by omega)).trans hd)⟩
end
end Go.Proofs.YtfjdcopndkdbmaaGreatDoor

namespace Go.Proofs.YtfjdcopndkdbmaaGreatDoor
open Go.RowKit

/-- The bytes of all parts. -/
def len (l : List ByteArray) : Nat := (l.map (·.size)).sum
theorem len_take (l : List ByteArray) (i : Nat) (h : i < l.length) : len (l.take (i + 1)) = len (l.take i) + l[i].size := by
  rw [take_more l i h]
  unfold len
  rw [List.map_append, List.sum_append]
  rfl
theorem len_le (l : List ByteArray) (i : Nat) : len (l.take i) ≤ len l := by
  conv => rhs; rw [← List.take_append_drop i l]
  simp only [len, List.map_append, List.sum_append]
  omega
set_option maxHeartbeats 1000000 in
theorem size_any (l : List ByteArray) (hl : l.length ≤ 1000) (hs : len l ≤ 100000) (A : Option Addr) (c : Nat) (w : World) (hA : Lies (fun _ => False) w A (cs l)) :
    Calls Tryz.prog 97 #[.slice A l.length c] w fun e w' => e = .returned (.int .i64 (len l : Int)) ∧ w' = w := by
  go_enter Tryz.func97, Tryz.ntmps97
  go_wp2_with fail
  go_loop [3, 5, 8] (fun n _ i => ∃ k : Nat, i = .int .i64 k ∧ k ≤ l.length ∧ n = .int .i64 (len (l.take k) : Int)) (fun _ _ i => l.length - (intOf i).toNat)
  case atStart => exact ⟨0, rfl, by omega, rfl⟩
  case round =>
    obtain ⟨k, rfl, hk, rfl⟩ := hrel
    by_cases hlt : k < l.length
    · obtain ⟨a, hAa, _, _, ha3⟩ := hA k _ (cs_get l k hlt)
      subst hAa
      have HL := Lib.hid (len_take l k hlt)
      have hb := len_le l (k + 1)
      rw [HL.out] at hb
      generalize len (l.take k) = n at HL hb ⊢
      generalize l[k] = s at ha3 HL hb
      have hb2 : n + s.size ≤ 100000 := by omega
      clear hb
      have hki : (k : Int) < (l.length : Int) := by omega
      have HA := Lib.hid hA
      go_wp2_with fail
      go_round
      case rel => exact ⟨k + 1, by go_num, by omega, by rw [HL.out]; go_num⟩
      case measure => simp [intOf]; omega
    · obtain rfl : k = l.length := by omega
      rw [List.take_length]
      go_wp2_with fail
      go_ret
      exact ⟨rfl, rfl⟩

set_option maxHeartbeats 2000000 in
set_option maxRecDepth 100000 in
theorem grow_nil (n : Nat) (h1 : 1 ≤ n) (h2 : n ≤ 1000000) (w : World) :
    Calls Tryz.prog 111 #[.slice none 0 0, .int .i64 (n : Int)] w fun e w' => ∃ A c, e = .returned (.slice A 0 c) ∧ w'.ownsRow w.heap.size 9 1 (.slice A 0 c) 0 [] ∧ Below w.heap.size w w' := by
  obtain ⟨i0, hi, hz, hs, hb⟩ := info_str
  have hrz := fun ty => Lib.run_append_grow_zeros (P := Tryz.prog) w 50 3 ty 9 i0 _ .i64 .i64 Tryz.underlying50 Tryz.underlying3 hi hz none 0 0 [] (run_firstCells_none w.drew i0.size 0 0 0) n (by omega) (by omega) (by omega) (by omega) (by rw [hb]; omega)
    (by rw [hb]; exact growslice_fits (by omega) (by omega))
  rw [Nat.zero_add] at hrz
  have hge := grownCap_ge w n 0 9
  have hle := grownCap_le_maxLen w n 0 9 (by unfold maxLen; omega)
  have hOwn : (w.drew.alloc (.cells (([] : List Value).toArray ++ Builtin.zeroCells (Value.string ⟨#[]⟩).cells n ++ Builtin.zeroCells (Value.string ⟨#[]⟩).cells (grownCap w n 0 9 - n)) 9)).ownsRow w.heap.size 9 1 (.slice (some ⟨w.heap.size, 0, none⟩) 0 (grownCap w n 0 9)) 0 [] := by
    refine ⟨rfl, .inr ⟨w.heap.size, _, _, rfl, Nat.le_refl _, Blk.new w.drew _ _, by omega, hle, ?_, by simp⟩⟩
    simp [Builtin.zeroCells, Value.cells]
    omega
  have hOwn' := Lib.hid hOwn
  have hBel := Lib.hid (((Below.refl _ w).drew.alloc (Nat.le_refl _) (.cells (([] : List Value).toArray ++ Builtin.zeroCells (Value.string ⟨#[]⟩).cells n ++ Builtin.zeroCells (Value.string ⟨#[]⟩).cells (grownCap w n 0 9 - n)) 9)))
  generalize w.drew.alloc (.cells (([] : List Value).toArray ++ Builtin.zeroCells (Value.string ⟨#[]⟩).cells n ++ Builtin.zeroCells (Value.string ⟨#[]⟩).cells (grownCap w n 0 9 - n)) 9) = w1 at hrz hOwn' hBel
  generalize grownCap w n 0 9 = G at *
  have hG63 : G ≤ 9223372036854775807 := by unfold maxLen at hle; omega
  clear hOwn
  go_enter Tryz.func111, Tryz.ntmps111
  go_wp2_with (at_builtin; refine wpList_append_run rfl _ _ _ _ rfl _ _ _ rfl rfl (hrz _) ?_)
  all_goals (go_ret; exact ⟨_, _, rfl, hOwn'.out, hBel.out⟩)

/-- Of two rows, what so many give. -/
def pre2 (l m : List ByteArray) (k : Nat) : List ByteArray := if k = 0 then [] else if k = 1 then l else l ++ m
set_option maxHeartbeats 4000000 in
theorem concat_two (l m : List ByteArray) (h1 : 1 ≤ l.length + m.length) (h2 : l.length + m.length ≤ 10000) (B c : Nat) (A1 A2 : Option Addr) (c1 c2 : Nat) (w : World)
    (hc0 : w.cell? ⟨B, 0, none⟩ = some (.slice A1 l.length c1)) (hc1 : w.cell? ⟨B, 1, none⟩ = some (.slice A2 m.length c2)) (hB : B < w.heap.size) (hL1 : Lies (fun _ => False) w A1 (cs l)) (hL2 : Lies (fun _ => False) w A2 (cs m)) :
    Calls Tryz.prog 95 #[.slice (some ⟨B, 0, none⟩) 2 c] w fun e w' => ∃ A c', e = .returned (.slice A (l ++ m).length c') ∧ Lies (fun b => b < w.heap.size) w' A (cs (l ++ m)) ∧ Below w.heap.size w w' := by
  have HL1 := Lib.hid hL1
  have HL2 := Lib.hid hL2
  clear hL1 hL2
  go_enter Tryz.func95, Tryz.ntmps95
  go_wp2_with fail
  go_loop [3, 5, 11] (fun s _ i => ∃ k : Nat, i = .int .i64 k ∧ k ≤ 2 ∧ s = .int .i64 ((pre2 l m k).length : Int)) (fun _ _ i => 2 - (intOf i).toNat)
  case atStart => exact ⟨0, rfl, by omega, rfl⟩
  case round =>
    obtain ⟨k, rfl, hk, rfl⟩ := hrel
    rcases (by omega : k = 0 ∨ k = 1 ∨ k = 2) with rfl | rfl | rfl
    · rw [show pre2 l m 0 = [] from rfl]
      go_wp2_with fail
      go_round
      case rel => exact ⟨1, rfl, by omega, rfl⟩
      case measure => decide
    · rw [show pre2 l m 1 = l from rfl]
      go_wp2_with fail
      go_round
      case rel => exact ⟨2, rfl, by omega, by rw [show pre2 l m 2 = l ++ m from rfl, List.length_append]; go_num⟩
      case measure => decide
    · rw [show pre2 l m 2 = l ++ m from rfl, List.length_append]
      have hG := Lib.hid (grow_nil (l.length + m.length) h1 (by omega) w)
      go_wp2_with fail
      refine hG.out.mono ?_
      rintro e w1 ⟨A, cc, rfl, hown, hb⟩
      have hOwn := Lib.hid hown
      have hBel := Lib.hid hb
      clear hown hb
      go_wp2_with fail
      go_loopw [6, 8, 27] (fun v _ i wr => ∃ (k : Nat) (A' : Option Addr) (c' : Nat), i = .int .i64 k ∧ k ≤ 2 ∧ v = .slice A' (pre2 l m k).length c' ∧ wr.ownsRow w.heap.size 9 1 v (pre2 l m k).length (cs (pre2 l m k)) ∧ Below w.heap.size w wr) (fun _ _ i _ => 2 - (intOf i).toNat)
      case atStart => exact ⟨0, A, cc, rfl, by omega, rfl, hOwn.out, hBel.out⟩
      case round =>
        obtain ⟨k, A', c', rfl, hk, rfl, hown, hb2⟩ := hrel
        rcases (by omega : k = 0 ∨ k = 1 ∨ k = 2) with rfl | rfl | rfl
        · rw [show pre2 l m 0 = ([] : List ByteArray) from rfl] at hown ⊢
          have hBel2 := Lib.hid hb2
          obtain ⟨A3, c3, w3, hrun, hown3, hgr⟩ := run_append_texts wr w.heap.size 50 _ ([] : List ByteArray) hown A1 c1 l (HL1.out.below hb2) (by simp; omega) hb2.size
          have hd := (hb2.cell (p := ⟨B, 0, none⟩) hB).trans hc0
          have hOwn3 := Lib.hid hown3
          have hBel3 := Lib.hid (Kept.below hBel2.out (Kept.grown (S := fun b => w.heap.size ≤ b) (Kept.refl _ wr) hgr (fun b hb => .inl (own_base hown hb))) (fun x hx => hx) hb2.size)
          clear hown hb2 hown3 hgr
          go_wp2_with (at_builtin; refine wpList_append_run rfl _ _ _ _ rfl _ _ _ rfl rfl hrun ?_)
          go_roundw
          case rel => exact ⟨1, A3, c3, rfl, by omega, rfl, hOwn3.out, hBel3.out⟩
          case measure => decide
        · rw [show pre2 l m 1 = l from rfl] at hown ⊢
          have hBel2 := Lib.hid hb2
          obtain ⟨A3, c3, w3, hrun, hown3, hgr⟩ := run_append_texts wr w.heap.size 50 _ l hown A2 c2 m (HL2.out.below hb2) (by omega) hb2.size
          have hd := (hb2.cell (p := ⟨B, 1, none⟩) hB).trans hc1
          have hOwn3 := Lib.hid hown3
          have hBel3 := Lib.hid (Kept.below hBel2.out (Kept.grown (S := fun b => w.heap.size ≤ b) (Kept.refl _ wr) hgr (fun b hb => .inl (own_base hown hb))) (fun x hx => hx) hb2.size)
          clear hown hb2 hown3 hgr
          go_wp2_with (at_builtin; refine wpList_append_run rfl _ _ _ _ rfl _ _ _ rfl rfl hrun ?_)
          go_roundw
          case rel => exact ⟨2, A3, c3, rfl, by omega, by rw [show pre2 l m 2 = l ++ m from rfl, List.length_append], by have h := hOwn3.out; rw [List.length_append] at h; rw [show pre2 l m 2 = l ++ m from rfl, List.length_append]; exact h, hBel3.out⟩
          case measure => decide
        · rw [show pre2 l m 2 = l ++ m from rfl] at hown ⊢
          have hR := Lib.hid (Lies.own (S := fun b => b < w.heap.size) hown (fun _ _ h1 h2 => Nat.lt_irrefl _ (Nat.lt_of_lt_of_le h2 h1)))
          have hBel2 := Lib.hid hb2
          clear hown hb2
          go_wp2_with fail
          go_ret
          exact ⟨_, _, rfl, hR.out, hBel2.out⟩

/-- What a text of n bytes is padded by. -/
def pad (n : Nat) : List UInt8 := 0x80 :: (List.replicate (Sh.zeros n) 0 ++ Sh.be8 (8 * n))
theorem be8_out (n : Nat) (h : n ≤ 1000000000) : Sh.out [BitVec.ofNat 32 (n / 4294967296), BitVec.ofNat 32 n] = Sh.be8 n := by
  simp only [Sh.out, List.flatMap_cons, List.flatMap_nil, Sh.out4, Sh.be8, List.append_nil, List.cons_append, List.nil_append, BitVec.toNat_ofNat]
  have e1 : n / 4294967296 % 2 ^ 32 = 0 := by omega
  have e2 : n % 2 ^ 32 = n := by omega
  rw [e1, e2]
  have e3 : n / 72057594037927936 = 0 := by omega
  have e4 : n / 281474976710656 = 0 := by omega
  have e5 : n / 1099511627776 = 0 := by omega
  have e6 : n / 4294967296 = 0 := by omega
  rw [e3, e4, e5, e6]
set_option maxHeartbeats 2000000 in
theorem padding_any (n : Nat) (hn : n ≤ 100000) (w : World) :
    Calls Tryz.prog 96 #[.int .i64 (n : Int)] w fun e w' => e = .returned (.string (ba (pad n))) ∧ Below w.heap.size w w' := by
  have m1 : (119 - (n : Int) % (64 : Int)) % (64 : Int) = ((Sh.zeros n : Nat) : Int) := by unfold Sh.zeros; omega
  have m2 : (119 - (n : Int)) % (64 : Int) = ((Sh.zeros n : Nat) : Int) := by unfold Sh.zeros; omega
  have hz : Sh.zeros n ≤ 64 := by unfold Sh.zeros; omega
  have HZ := Lib.hid hz
  generalize hzz : Sh.zeros n = z at m1 m2 HZ hz
  go_enter Tryz.func96, Tryz.ntmps96
  go_wp2_with fail
  refine (repeat_any z _ (by omega)).mono ?_
  rintro e w1 ⟨rfl, hb1⟩
  have hzs : (ba (zb z)).size = z := by rw [ba_size]; simp [zb]
  have HB1 := Lib.hid hb1
  have e_hi : (n : Int) * 8 / 4294967296 = R (BitVec.ofNat 32 (8 * n / 4294967296)) := by unfold R; rw [BitVec.toNat_ofNat]; omega
  have e_lo : (n : Int) * 8 = R (BitVec.ofNat 32 (8 * n)) := by unfold R; rw [BitVec.toNat_ofNat]; omega
  have E1 := Lib.hid e_hi
  have E2 := Lib.hid e_lo
  have hBE := fun W hA => bigEndian_any [BitVec.ofNat 32 (8 * n / 4294967296), BitVec.ofNat 32 (8 * n)] (by simp) (some ⟨w1.heap.size, 0, none⟩) 2 W hA
  rw [be8_out (8 * n) (by omega)] at hBE
  have HBE := Lib.hid hBE
  clear hb1 e_hi e_lo hBE
  go_wp2_with fail
  rw [E1.out, E2.out]
  refine (HBE.out _ ?hA).mono ?_
  case hA =>
    intro i u hi
    refine ⟨_, rfl, by simp, fun h => h, ?_⟩
    have hadd : (⟨w1.heap.size, 0, none⟩ : Addr).add i = ⟨w1.heap.size, i, none⟩ := by unfold Addr.add; split <;> simp_all
    rw [hadd, (Blk.new w1 _ _).cell]
    simpa [ru] using hi
  rintro e w2 ⟨rfl, hb2⟩
  have hb3 := HB1.out.trans ((Below.alloc (Below.refl w1.heap.size w1) (Nat.le_refl _) _).trans (hb2.mono (by simp)) |>.mono HB1.out.size)
  have HB3 := Lib.hid hb3
  have hbs : (ba (Sh.be8 (8 * n))).size = 8 := by rw [ba_size]; rfl
  clear hb2 hb3 E1 E2 HBE
  go_wp2_with fail
  go_ret
  refine ⟨?_, HB3.out⟩
  show Ending.returned (Value.string (ba [0x80] ++ ba (zb z) ++ ba (Sh.be8 (8 * n)))) = _
  rw [ba_append, ba_append]
  unfold pad
  rw [hzz]
  rfl
end Go.Proofs.YtfjdcopndkdbmaaGreatDoor

namespace Go.Proofs.YtfjdcopndkdbmaaGreatDoor
open Go.RowKit Go.Shelf
attribute [local go_sem] Oper.semAt_some

/-- The whole blocks of a row of bytes. -/
def chunks (L : List UInt8) : List (List UInt8) := if _h : 64 ≤ L.length then L.take 64 :: chunks (L.drop 64) else []
termination_by L.length
decreasing_by rw [List.length_drop]; omega
theorem chunks_low {L : List UInt8} (h : L.length < 64) : chunks L = [] := by rw [chunks, dif_neg (by omega)]
theorem chunks_step {x r : List UInt8} (h : x.length = 64) : chunks (x ++ r) = x :: chunks r := by
  rw [chunks, dif_pos (by rw [List.length_append]; omega), ← h, List.take_left, List.drop_left]
theorem chunks_of : ∀ (pre : List (List UInt8)) (t : List UInt8), (∀ x ∈ pre, x.length = 64) → t.length < 64 → chunks (pre.flatten ++ t) = pre
  | [], t, _, ht => by simpa using chunks_low ht
  | x :: pre, t, hp, ht => by
    rw [List.flatten_cons, List.append_assoc, chunks_step (hp x (by simp)), chunks_of pre t (fun y hy => hp y (by simp [hy])) ht]
theorem blocks_fold : ∀ (n : Nat) (h : Sh.V) (L : List UInt8), L.length ≤ n → Sh.blocks h L = (chunks L).foldl Sh.block h := by
  intro n
  induction n with
  | zero => intro h L hL; rw [Sh.blocks_low h L (by omega), chunks_low (by omega)]; rfl
  | succ n ih =>
    intro h L hL
    by_cases h64 : 64 ≤ L.length
    · rw [Sh.blocks, dif_pos h64, chunks, dif_pos h64, List.foldl_cons]
      exact ih _ _ (by rw [List.length_drop]; omega)
    · rw [Sh.blocks_low h L (by omega), chunks_low (by omega)]
      rfl

/-- Whatever cells lie elsewhere lie as they lay. -/
def Kc (Nb : Nat) (A B : World) : Prop := ∀ k cs t fr, k ≠ Nb → A.heap[k]? = some (.cells cs t fr) → B.heap[k]? = some (.cells cs t fr)
theorem Kc.trans {Nb : Nat} {A B C : World} (h : Kc Nb A B) (k : Kc Nb B C) : Kc Nb A C := fun i cs t fr hi ha => k i cs t fr hi (h i cs t fr hi ha)
theorem Kc.refl (Nb : Nat) (A : World) : Kc Nb A A := fun _ _ _ _ _ h => h
theorem Kc.put {Nb : Nat} (W : World) (l : Nat) (o o' : Obj) (h : W.heap[l]? = some o) (ho : o.isCells = false) : Kc Nb W (W.putObj l o') := fun k _ _ _ _ hk => by
  have hne : k ≠ l := by
    rintro rfl
    rw [hk] at h
    injection h with h
    subst h
    cases ho
  exact (World.putObj_heap_other hne).trans hk
theorem Kc.below {Nb : Nat} {A B : World} (h : Below A.heap.size A B) : Kc Nb A B := fun k _ _ _ _ hk => (h.block k (Array.getElem?_eq_some_iff.1 hk).1).trans hk
theorem cell_cells {w : World} {a : Addr} {v : Value} (h : w.cell? a = some v) : ∃ cs t fr, w.heap[a.block]? = some (.cells cs t fr) := by
  unfold World.cell? at h
  cases hq : w.heap[a.block]? with
  | none => simp [hq] at h
  | some o =>
    cases o <;> simp [hq] at h
    exact ⟨_, _, _, rfl⟩
theorem Lies.kc {S : Nat → Prop} {Nb : Nat} {w w' : World} {A : Option Addr} {vs : List Value} (h : Lies S w A vs) (hk : Kc Nb w w') (hS : S Nb) : Lies S w' A vs := fun i u hi => by
  obtain ⟨a, h1, h2, h3, h4⟩ := h i u hi
  obtain ⟨cs, t, fr, hc⟩ := cell_cells h4
  rw [add_block] at hc
  have hne : a.block ≠ Nb := fun e => h3 (e ▸ hS)
  have hc' := hk _ cs t fr hne hc
  refine ⟨a, h1, (Array.getElem?_eq_some_iff.1 hc').1, h3, ?_⟩
  rw [← h4]
  exact World.cell?_of_block (by rw [add_block, hc', hc])
theorem Blk.kc {Nb : Nat} {w w' : World} {g : Nat} {t : TypeId} {cs : Array Value} (h : Blk w g t cs) (hk : Kc Nb w w') (hg : g ≠ Nb) : Blk w' g t cs := hk g cs t (0, 0) hg h

theorem run_from (s : ByteArray) (i : Int) (a : Nat) (hi : i = (a : Int)) (ha : a ≤ s.size) (W : World) :
    (Instr.slice 9 (.string s) (some (.int .i64 i)) none none).run Tryz.prog W = .ok (.string (ba (s.data.toList.drop a))) W := by
  subst hi
  rw [run_slice_string_from_if _ _ _ _ _ Tryz.underlying9, if_pos (by omega), ← ext_drop]
  simp
def strSize : Value → Nat
  | .string u => u.size
  | _ => 0
section
variable {P : Program}
/-- As much of a text as has room, copied. -/
theorem run_copy_part (w : World) (dT sT ty elem : TypeId) (hu : P.underlying dT = some (.slice elem)) (hsz : (P.info? elem).map (·.size) = some 1)
    (dLen dCap : Nat) (s : ByteArray) (m : Nat) (hm : Nat.min s.size dLen = m) (g off : Nat) (l : List UInt8) (t : TypeId) (hg : Blk w g t (cb l).toArray) (hfit : off + m ≤ l.length) :
    (Builtin.copy_ #[dT, sT] ty #[.slice (some ⟨g, off, none⟩) dLen dCap, .string s]).run P w = .ok (.int .i64 (m : Int)) (w.setRow g (cb (Dk.put l off (s.data.toList.take m))).toArray) := by
  have hx : List.take m (List.map (fun b => Value.int .u8 (b.toNat : Int)) s.data.toList) = cb (s.data.toList.take m) := by simp [cb, List.map_take]
  have hml : (s.data.toList.take m).length = m := by
    rw [List.length_take]
    have : m ≤ s.size := by rw [← hm]; exact Nat.min_le_left _ _
    have e : s.data.toList.length = s.size := by simp
    omega
  cases hq : P.info? elem with
  | none => simp [hq] at hsz
  | some i =>
    have hst := run_storeCells_at P g off t (cb (s.data.toList.take m)) 0 (cb l).toArray w hg (by simp only [cb_length, hml, List.size_toArray]; omega) (cb_one _)
    simp only [Nat.add_zero] at hst
    have hput : (((cb l).toArray.toList.take off ++ cb (s.data.toList.take m) ++ (cb l).toArray.toList.drop (off + (cb (s.data.toList.take m)).length))).toArray = (cb (Dk.put l off (s.data.toList.take m))).toArray := by
      rw [← cb_put]
      simp [splice]
    rw [hput] at hst
    have hgo : goInt (m : Int) = .int .i64 (m : Int) := rfl
    simp [Builtin.copy_, run_underlying hu, Builtin.lenOf, Builtin.firstCells, sizeOf, typeInfo, hq, hm, hx, hst, hgo]
end

theorem put_take (B : List UInt8) (t u : List UInt8) (m : Nat) (ht : B.take t.length = t) (hm : m ≤ u.length) : (Dk.put B t.length (u.take m)).take (t.length + m) = t ++ u.take m := by
  have h1 : (u.take m).length = m := by rw [List.length_take]; omega
  unfold Dk.put
  have e : (t ++ u.take m).length = t.length + m := by rw [List.length_append, h1]
  rw [ht, ← e, ← List.append_assoc]
  exact List.take_left
theorem tx_take (l : List ByteArray) (k : Nat) (h : k < l.length) : (tx (l.take (k + 1))).flatten = (tx (l.take k)).flatten ++ l[k].data.toList := by
  rw [take_more l k h]
  unfold tx
  rw [List.map_append, List.flatten_append]
  simp
/-- A whole block loaded, also behind a guard. -/
theorem wpListIn_load_blk {F : Fence} {n : Nat} {P : Program} {ops : Array Oper} {rest : List Oper} {o : Oper} {a : Act} {w : World} {Q : Exit → Act → World → Prop} (hw : Region.wanted o (yielded ops a.tmps) = true) (ty : TypeId) (x : Operand) (ho : o.op = .load ty x)
    (g : Nat) (hx : a.eval x = .pointer (some ⟨g, 0, none⟩)) (t : TypeId) (cs : Array Value) (hb : Blk w g t cs) {d : TypeDesc} (hu : P.underlying ty = some d) (hd : (match d with | .struct _ | .array _ _ => true | _ => false) = true) (hi : (P.info? ty).map (·.size) = some cs.size)
    (h : wpListIn F n P ops Q rest (a.put o.dst (.agg cs)) w) : wpListIn F n P ops Q (o :: rest) a w := by
  refine BigFrame.wpListIn_want hw fun K hK => ⟨fun f hf => ?_, ?_⟩
  · simp [Oper.about, ho] at hf
  · rw [Oper.semAt_plain F _ _ (by rw [ho]; intro c hc'; cases hc')]
    unfold execOp
    simp only [ho, hx, Instr.loadAt, Instr.sureAddr, Sem.run_bind, Sem.run_pure, Result.andThen_ok, run_loadVar_row w g t ty cs (0, 0) d hb hu hd hi]
    exact hK _ _ h

/-- The state between two parts. -/
structure BlkI (g : Nat) (A : Option Addr) (l : List ByteArray) (S : Nat → Prop) (D : List UInt8) (pre : List (List UInt8)) (t B : List UInt8) (w : World) : Prop where
  full : ∀ x ∈ pre, x.length = 64
  low : t.length < 64
  done : pre.flatten ++ t = D
  cells : Blk w g 146 (cb B).toArray
  len : B.length = 64
  head : B.take t.length = t
  parts : Lies S w A (cs l)

set_option maxRecDepth 100000 in
set_option maxHeartbeats 4000000 in
theorem blocks1_in (n : Nat) (l Bn Nb : Nat) (ps : List ByteArray) (A : Option Addr) (c : Nat) (hl : ps.length ≤ 10000) (hs : len ps ≤ 200000) (J : List (List UInt8) → World → Prop)
    (W : World) (hNb : Nb < W.heap.size)
    (hJ : ∀ (s : List (List UInt8)) (X Y : World) (row : Option Nat), J s X → X.grownBy Y row → (∀ r, row = some r → W.heap.size ≤ r) → J s Y)
    (hY : ∀ pre x X, J pre X → x.length = 64 → YieldAt Fence.wide (n - 1) Tryz.prog l #[.agg (cb x).toArray] X fun e Y =>
      e = .returned (.bool true) ∧ J (pre ++ [x]) Y ∧ Kc Nb X Y)
    (hBn : W.cell? ⟨Bn, 0, none⟩ = some (.slice A ps.length c)) (hL : Lies (fun b => b = Nb ∨ W.heap.size ≤ b) W A (cs ps)) (h0 : J [] W) :
    CallsIn Fence.wide n Tryz.prog 110 #[.func (.yield l) #[] #[], .pointer (some ⟨Bn, 0, none⟩)] W fun e W' => (∃ v, e = .returned v) ∧ J (chunks (tx ps).flatten) W' := by
  have HL := Lib.hid hL
  have HJ0 := Lib.hid h0
  clear hL h0
  refine callsIn_of_wp Tryz.func110 rfl trivial ?_ rfl
  simp only [Tryz.ntmps110, List.size_toArray, List.length_cons, List.length_nil, Nat.reduceAdd, Nat.reduceSub, Array.replicate_succ, Array.replicate_zero, List.push_toArray, List.append_toArray, List.nil_append, List.cons_append]
  have hBl := cell_lt hBn
  gi_wp2_with fail
  gi_loopw [4, 6, 7, 10] (fun f _ _ i wr => ∃ (k : Nat) (pre : List (List UInt8)) (t B : List UInt8), i = .int .i64 k ∧ k ≤ ps.length ∧ f = .int .i64 (t.length : Int) ∧ BlkI W.heap.size A ps (fun b => b = Nb ∨ W.heap.size ≤ b) (tx (ps.take k)).flatten pre t B wr ∧ J pre wr)
    (fun _ _ _ i _ => ps.length - (intOf i).toNat)
  case atStart =>
    exact ⟨0, [], [], List.replicate 64 0, rfl, by omega, rfl, ⟨by simp, by simp, rfl, Blk.new W _ _, rfl, rfl, HL.out.kept (Kept.alloc (Kept.refl _ _) _)⟩, hJ _ _ _ none HJ0.out (World.grownBy_alloc _ _ _) (fun r e => by cases e)⟩
  case round =>
    obtain ⟨k, pre, t, B, rfl, hk, rfl, hI, hJs⟩ := hrel
    by_cases hlt : k < ps.length
    · obtain ⟨a, hAa, _, _, ha3⟩ := hI.parts k _ (cs_get ps k hlt)
      subst hAa
      have hD := tx_take ps k hlt
      have hsz : ps[k].size ≤ 200000 := by have h1 := len_take ps k hlt; have h2 := len_le ps (k + 1); omega
      generalize ps[k] = u0 at ha3 hD hsz
      have HI := Lib.hid hI
      have HJs := Lib.hid hJs
      have HD := Lib.hid hD
      have hki : (k : Int) < (ps.length : Int) := by omega
      clear hI hJs hD
      gi_wp2_with fail
      gi_loopw [4, 6, 7] (fun f p _ wr => ∃ (pre : List (List UInt8)) (t B : List UInt8) (D : List UInt8) (u : ByteArray), f = .int .i64 (t.length : Int) ∧ p = .string u ∧ u.size ≤ 200000 ∧ D ++ u.data.toList = (tx (ps.take (k + 1))).flatten ∧ BlkI W.heap.size (some a) ps (fun b => b = Nb ∨ W.heap.size ≤ b) D pre t B wr ∧ J pre wr)
        (fun _ p _ _ => strSize p)
      case atStart => exact ⟨pre, t, B, _, u0, rfl, rfl, hsz, HD.out.symm, HI.out, HJs.out⟩
      case round =>
        clear HI HJs ha3 hsz HD
        obtain ⟨pre, t, B, D, u, rfl, rfl, hu, hD, hI, hJs⟩ := hrel
        have HI := Lib.hid hI
        have HJs := Lib.hid hJs
        have HD := Lib.hid hD
        have htl := hI.low
        cases he : (u.toList == []) with
        | true =>
          have hnil : u.data.toList = [] := by rw [← ByteArray.toList_eq]; simpa using he
          rw [hnil, List.append_nil] at hD
          subst hD
          clear hI hJs
          gi_wp2_with fail
          go_roundw
          case rel => exact ⟨k + 1, pre, t, B, by go_num, by omega, rfl, HD.out ▸ (by rw [hnil, List.append_nil]; exact HI.out), HJs.out⟩
          case measure => simp [intOf]; omega
        | false =>
          have hne : 0 < u.size := by
            rcases Nat.eq_zero_or_pos u.size with h | h
            · have : u.data.toList = [] := List.eq_nil_of_length_eq_zero (by simpa using h)
              rw [ByteArray.toList_eq, this] at he
              simp at he
            · exact h
          have hul : u.data.toList.length = u.size := by simp
          obtain ⟨m, hm⟩ : ∃ m, Nat.min u.size (64 - t.length) = m := ⟨_, rfl⟩
          have hm1 : m ≤ u.size := by rw [← hm]; exact Nat.min_le_left _ _
          have hm2 : m ≤ 64 - t.length := by rw [← hm]; exact Nat.min_le_right _ _
          have hm0 : 0 < m := by rw [← hm]; exact Nat.lt_min.2 ⟨hne, by omega⟩
          have hm3 : m = u.size ∨ m = 64 - t.length := by rcases Nat.le_total u.size (64 - t.length) with h | h; exact .inl (by rw [← hm]; exact Nat.min_eq_left h); exact .inr (by rw [← hm]; exact Nat.min_eq_right h)
          have hB64 := hI.len
          have hcut := run_cut_array_from (P := Tryz.prog) 146 5 64 Tryz.underlying146 size_u8 W.heap.size t.length htl (t.length : Int) rfl
          have hcp := fun ty => run_copy_part (P := Tryz.prog) wr 98 9 ty 5 Tryz.underlying98 size_u8 (64 - t.length) (64 - t.length) u m hm W.heap.size t.length B _ hI.cells (by omega)
          have hfr := run_from u (m : Int) m rfl hm1
          have hpt := Lib.hid (put_take B t u.data.toList m hI.head (by omega))
          have hpl := Lib.hid (Dk.put_length B t.length (u.data.toList.take m) (by rw [List.length_take]; omega))
          have hw2 := Lib.hid (hI.cells.row (cb (Dk.put B t.length (u.data.toList.take m))).toArray)
          have hL2 := Lib.hid (hI.parts.kept (Kept.setRow (Kept.refl _ wr) (.inl (.inr (Nat.le_refl _))) (cb (Dk.put B t.length (u.data.toList.take m))).toArray))
          have hJ2 := Lib.hid (hJ pre wr (wr.setRow W.heap.size (cb (Dk.put B t.length (u.data.toList.take m))).toArray) (some W.heap.size) hJs ⟨rfl, rfl, rfl, by simp, fun i _ hi => setRow_other wr W.heap.size i _ (fun e => hi (by rw [e]))⟩ (fun r e => by cases e; exact Nat.le_refl _))
          generalize hBq : Dk.put B t.length (u.data.toList.take m) = B2 at hcp hpt hpl hw2 hL2 hJ2
          clear hBq hI hJs hm
          by_cases hfull : t.length + m = 64
          · have hz : ((t.length : Int) + (m : Int)) % (64 : Int) = 0 := by omega
            have hx64 : B2.length = 64 := by rw [hpl.out]; exact hB64
            have hx : B2 = t ++ u.data.toList.take m := by
              have := hpt.out
              rw [hfull, List.take_of_length_le (by omega)] at this
              exact this
            have hDx : D ++ u.data.toList.take m = pre.flatten ++ B2 := by rw [← HI.out.done, hx, List.append_assoc]
            obtain ⟨fn, tmps, assign, body, hy, hR⟩ := hY pre B2 _ hJ2.out hx64
            have HX := Lib.hid hDx
            have HR := Lib.hid hR
            clear hx hDx hR hD
            gi_wp2_with (refine wpListIn_load_blk rfl 146 _ rfl W.heap.size rfl 146 _ hw2.out Tryz.underlying146 rfl (sz64b_of hx64) ?_)
            refine ⟨fun h => (by cases h), HR.out.mono ?_⟩
            rintro e W3 ⟨rfl, hJ3, hk3⟩
            have hF : BlkI W.heap.size (some a) ps (fun b => b = Nb ∨ W.heap.size ≤ b) (D ++ u.data.toList.take m) (pre ++ [B2]) [] B2 W3 :=
              ⟨fun x hx => (List.mem_append.1 hx).elim (HI.out.full x) (fun e => by simp at e; subst e; exact hx64), by simp, by rw [HX.out]; simp, hw2.out.kc hk3 (by omega), hx64, rfl, hL2.out.kc hk3 (.inl rfl)⟩
            have HF := Lib.hid hF
            have HJ3 := Lib.hid hJ3
            clear hF hJ3 hk3
            gi_wp2_with fail
            go_roundw
            case rel => exact ⟨pre ++ [B2], [], B2, D ++ u.data.toList.take m, ba (u.data.toList.drop m), rfl, rfl, by rw [ba_size, List.length_drop]; omega, by rw [ba_list, List.append_assoc, List.take_append_drop]; exact HD.out, HF.out, HJ3.out⟩
            case measure =>
              show (ba (u.data.toList.drop m)).size < u.size
              rw [ba_size, List.length_drop]
              omega
          · obtain rfl : m = u.size := by omega
            have hz : ((t.length : Int) + (u.size : Int)) % (64 : Int) = (t.length : Int) + (u.size : Int) := by omega
            have hnz : ¬ ((t.length : Int) + (u.size : Int) = 0) := by omega
            have hut : u.data.toList.take u.size = u.data.toList := List.take_of_length_le (by omega)
            have hF : BlkI W.heap.size (some a) ps (fun b => b = Nb ∨ W.heap.size ≤ b) (D ++ u.data.toList) pre (t ++ u.data.toList) B2 (wr.setRow W.heap.size (cb B2).toArray) :=
              ⟨HI.out.full, by rw [List.length_append]; omega, by rw [← List.append_assoc, HI.out.done], hw2.out, by rw [hpl.out]; exact hB64, by rw [List.length_append, hul, hpt.out, hut], hL2.out⟩
            have HF := Lib.hid hF
            clear hD hF hut
            gi_wp2_with fail
            refine ⟨fun _ h => (by cases h), ?_⟩
            gi_wp2_with fail
            go_roundw
            case rel => exact ⟨pre, t ++ u.data.toList, B2, D ++ u.data.toList, ba (u.data.toList.drop u.size), by rw [List.length_append, hul]; go_num, rfl, by rw [ba_size, List.length_drop]; omega, by rw [ba_list, List.drop_of_length_le (by omega), List.append_nil]; exact HD.out, HF.out, hJ2.out⟩
            case measure =>
              show (ba (u.data.toList.drop u.size)).size < u.size
              rw [ba_size, List.length_drop]
              omega
    · obtain rfl : k = ps.length := by omega
      have hd := hI.done
      rw [List.take_length] at hd
      have hc : pre = chunks (tx ps).flatten := by rw [← hd]; exact (chunks_of pre t hI.full hI.low).symm
      subst hc
      have HJs := Lib.hid hJs
      clear hI hJs hd
      gi_wp2_with fail
      go_end0
      exact ⟨⟨_, rfl⟩, HJs.out⟩

set_option maxHeartbeats 1000000 in
/-- blocks: the parts are boxed; the function value captures the box. -/
theorem blocks_in (n : Nat) (v : Value) (w : World) (A : Option Addr) (m c : Nat) (hv : v = .slice A m c) :
    CallsIn Fence.wide n Tryz.prog 94 #[v] w fun e w' => e = .returned (.func (.func 110) #[] #[.pointer (some ⟨w.heap.size, 0, none⟩)]) ∧ w' = w.alloc (.cells #[v] 50) := by
  subst hv
  refine callsIn_of_wp Tryz.func94 rfl trivial ?_ rfl
  simp only [Tryz.ntmps94, List.size_toArray, List.length_cons, List.length_nil, Nat.reduceAdd, Nat.reduceSub, Array.replicate_succ, Array.replicate_zero, List.push_toArray, List.append_toArray, List.nil_append, List.cons_append]
  gi_wp2
  go_ret
  exact ⟨rfl, rfl⟩
theorem blocks_whole (n : Nat) (Bn Nb : Nat) (ps : List ByteArray) (A : Option Addr) (c : Nat) (hl : ps.length ≤ 10000) (hs : len ps ≤ 200000) (w : World) (hNb : Nb < w.heap.size)
    (hBn : w.cell? ⟨Bn, 0, none⟩ = some (.slice A ps.length c)) (hL : Lies (fun b => b = Nb) w A (cs ps)) :
    SeqWhole Fence.wide n Tryz.prog 110 #[.pointer (some ⟨Bn, 0, none⟩)] (fun x : List UInt8 => #[.agg (cb x).toArray]) (Kc Nb) (fun xs => xs = chunks (tx ps).flatten) (fun x => x.length = 64) w := fun l J W hW hJ hY h0 => by
  have hL2 : Lies (fun b => b = Nb ∨ W.heap.size ≤ b) W A (cs ps) := fun i u hi => by
    obtain ⟨a, h1, h2, h3, h4⟩ := hL i u hi
    refine ⟨a, h1, Nat.lt_of_lt_of_le h2 hW.size, fun h => ?_, ?_⟩
    · rcases h with h | h
      · exact h3 h
      · have := hW.size; omega
    · rw [← h4]
      exact World.cell?_of_block (by rw [add_block]; exact hW.block _ h2)
  exact (blocks1_in n l Bn Nb ps A c hl hs J W (Nat.lt_of_lt_of_le hNb hW.size) hJ hY ((hW.cell (p := ⟨Bn, 0, none⟩) (cell_lt hBn)).trans hBn) hL2 h0).mono fun e W' h => ⟨h.1, _, rfl, h.2⟩
end Go.Proofs.YtfjdcopndkdbmaaGreatDoor

namespace Go.Proofs.YtfjdcopndkdbmaaGreatDoor
open Go.RowKit Go.Shelf
attribute [local go_sem] Oper.semAt_some

section
variable {F : Fence} {n : Nat} {P : Program} {ops : Array Oper} {rest : List Oper} {o : Oper} {a : Act} {w : World} {Q : Exit → Act → World → Prop}
theorem wpListIn_store_blk (hw : Region.wanted o (yielded ops a.tmps) = true) (ty : TypeId) (x y : Operand) (ho : o.op = .store ty x y)
    (g : Nat) (cells : Array Value) (hx : a.eval x = .pointer (some ⟨g, 0, none⟩)) (hy : a.eval y = .agg cells) (t : TypeId) (old : Array Value) (hb : Blk w g t old) (hi : (P.info? ty).map (·.size) = some cells.size)
    (hold : old.size = cells.size) (h1 : cells.all (·.oneCell') = true) (h : wpListIn F n P ops Q rest (a.put o.dst undef) (w.setRow g cells)) : wpListIn F n P ops Q (o :: rest) a w := by
  refine BigFrame.wpListIn_want hw fun K hK => ⟨fun f hf => ?_, ?_⟩
  · simp [Oper.about, ho] at hf
  · rw [Oper.semAt_plain F _ _ (by rw [ho]; intro c hc'; cases hc')]
    unfold execOp
    simp only [ho, hx, hy, Instr.storeAt, Instr.sureAddr, Sem.run_bind, Sem.run_pure, Result.andThen_ok, run_storeVar_row w g t ty old cells hb hi hold h1]
    exact hK _ _ h
theorem wpListIn_load_cells (hw : Region.wanted o (yielded ops a.tmps) = true) (ty : TypeId) (x : Operand) (ho : o.op = .load ty x)
    (p : Addr) (hx : a.eval x = .pointer (some p)) (cs : List Value) {d : TypeDesc} (hc : ∀ j v, cs[j]? = some v → w.cell? (p.add j) = some v)
    (hu : P.underlying ty = some d) (hd : (match d with | .struct _ | .array _ _ => true | _ => false) = true) (hi : (P.info? ty).map (·.size) = some cs.length)
    (h : wpListIn F n P ops Q rest (a.put o.dst (.agg cs.toArray)) w) : wpListIn F n P ops Q (o :: rest) a w := by
  refine BigFrame.wpListIn_want hw fun K hK => ⟨fun f hf => ?_, ?_⟩
  · simp [Oper.about, ho] at hf
  · rw [Oper.semAt_plain F _ _ (by rw [ho]; intro c hc'; cases hc')]
    unfold execOp
    simp only [ho, hx, Instr.loadAt, Instr.sureAddr, Sem.run_bind, Sem.run_pure, Result.andThen_ok, run_loadVar_cells w p ty cs d hc hu hd hi]
    exact hK _ _ h
end

/-- THE DIGEST, not to be unfolded. -/
noncomputable def dig (L : List UInt8) : List UInt8 := Classical.choose (⟨Sh.sum L, rfl⟩ : ∃ v, v = Sh.sum L)
theorem dig_eq (L : List UInt8) : dig L = Sh.sum L := Classical.choose_spec (⟨Sh.sum L, rfl⟩ : ∃ v, v = Sh.sum L)
theorem dig_length (L : List UInt8) : (dig L).length = 32 := by rw [dig_eq]; exact Sh.sum_length L
noncomputable def h0 : Sh.V := Classical.choose (⟨Sh.H0, rfl⟩ : ∃ v, v = Sh.H0)
theorem h0_eq : h0 = Sh.H0 := Classical.choose_spec (⟨Sh.H0, rfl⟩ : ∃ v, v = Sh.H0)
theorem h0_length : h0.length = 8 := by rw [h0_eq]; rfl
/-- The numbers behind blocks. -/
noncomputable def fol (pre : List (List UInt8)) : Sh.V := pre.foldl blk h0
theorem fol_nil : fol [] = h0 := rfl
theorem fol_snoc (pre : List (List UInt8)) (x : List UInt8) : fol (pre ++ [x]) = blk (fol pre) x := by simp [fol]
theorem foldl_length : ∀ (pre : List (List UInt8)) (h : Sh.V), h.length = 8 → (pre.foldl blk h).length = 8
  | [], _, hh => hh
  | x :: pre, h, hh => foldl_length pre (blk h x) (blk_length h x hh)
theorem fol_length (pre : List (List UInt8)) : (fol pre).length = 8 := foldl_length pre h0 h0_length
theorem fol_sum (L : List UInt8) : Sh.out (fol (chunks (L ++ pad L.length))) = dig L := by
  rw [dig_eq]
  unfold Sh.sum fol
  rw [blocks_fold _ _ _ (Nat.le_refl _), h0_eq, show blk = Sh.block from funext fun h => funext fun L => blk_eq h L]
  rfl
theorem len_flat (l : List ByteArray) : (tx l).flatten.length = len l := by
  induction l with
  | nil => rfl
  | cons s l ih => simp only [tx, len, List.map_cons, List.flatten_cons, List.length_append, List.sum_cons] at ih ⊢; rw [ih]; simp
theorem len_snoc (l : List ByteArray) (p : ByteArray) : len (l ++ [p]) = len l + p.size := by
  unfold len
  rw [List.map_append, List.sum_append]
  simp
theorem pad_len (n : Nat) : (pad n).length ≤ 100 := by
  unfold pad Sh.be8 Sh.zeros
  simp only [List.length_cons, List.length_append, List.length_replicate, List.length_nil]
  omega

set_option maxRecDepth 100000 in
set_option maxHeartbeats 4000000 in
theorem sum_wide (n : Nat) (hn : 3 ≤ n) (l : List ByteArray) (hl : l.length ≤ 1000) (hs : len l ≤ 100000) (A : Option Addr) (c : Nat) (w : World) (hA : Lies (fun _ => False) w A (cs l)) (hT : Tab w) :
    CallsIn Fence.wide n Tryz.prog 83 #[.slice A l.length c] w fun e w' => e = .returned (.string (ba (dig (tx l).flatten))) ∧ Below w.heap.size w w' := by
  have h1 : 1 ≤ n := by omega
  have HA := Lib.hid hA
  have HT := Lib.hid hT
  have hc : ∀ j v, (ru h0).toList[j]? = some v → w.cell? ((⟨0, 0, none⟩ : Addr).add j) = some v := fun j v hj => by
    have hadd : (⟨0, 0, none⟩ : Addr).add j = ⟨0, j, none⟩ := by unfold Addr.add; split <;> simp_all
    have hj8 : j < 8 := by have := (List.getElem?_eq_some_iff.1 hj).1; simpa [ru_size, h0_length] using this
    rw [hadd, hT.H j hj8, ← h0_eq, ← hj]
    have := ru_getD h0 j (by rw [h0_length]; exact hj8)
    simpa using this.symm
  clear hA hT
  refine callsIn_of_wp_marks Tryz.func83 rfl trivial ?_ rfl
  simp only [Tryz.ntmps83, List.size_toArray, List.length_cons, List.length_nil, Nat.reduceAdd, Nat.reduceSub, Array.replicate_succ, Array.replicate_zero, List.push_toArray, List.append_toArray, List.nil_append, List.cons_append]
  gi_wp2_with (first | (refine wpListIn_load_cells rfl 116 _ rfl _ rfl (ru h0).toList hc Tryz.underlying116 rfl (by rw [Array.length_toList]; exact sz8_of h0_length) ?_) | (refine wpListIn_store_blk rfl 116 _ _ rfl w.heap.size (ru h0) rfl rfl 116 _ (Blk.new w _ _) (sz8_of h0_length) (by rw [ru_size, h0_length]; rfl) (ru_one _) ?_))
  have N1 := Lib.hid ((Blk.new w 116 #[.int .u32 0, .int .u32 0, .int .u32 0, .int .u32 0, .int .u32 0, .int .u32 0, .int .u32 0, .int .u32 0]).row (ru h0))
  have B1 := Lib.hid (Kept.below (Below.refl w.heap.size w) (Kept.setRow (S := fun b => w.heap.size ≤ b) (Kept.alloc (Kept.refl _ w) (.cells #[.int .u32 0, .int .u32 0, .int .u32 0, .int .u32 0, .int .u32 0, .int .u32 0, .int .u32 0, .int .u32 0] 116)) (.inl (Nat.le_refl _)) (ru h0)) (fun _ h => h) (Nat.le_refl _))
  have s1 : w.heap.size < ((w.alloc (.cells #[.int .u32 0, .int .u32 0, .int .u32 0, .int .u32 0, .int .u32 0, .int .u32 0, .int .u32 0, .int .u32 0] 116)).setRow w.heap.size (ru h0)).heap.size := by simp
  generalize (w.alloc (.cells #[.int .u32 0, .int .u32 0, .int .u32 0, .int .u32 0, .int .u32 0, .int .u32 0, .int .u32 0, .int .u32 0] 116)).setRow w.heap.size (ru h0) = w1 at N1 B1 s1 ⊢
  have A1 := Lib.hid (HA.out.below B1.out)
  clear hc
  refine ⟨trivial, (callsIn_wide.2 (size_any l hl hs A c w1 A1.out)).mono ?_⟩
  rintro e w2 ⟨rfl, rfl⟩
  gi_wp2_with fail
  refine ⟨trivial, (callsIn_wide.2 (padding_any (len l) hs w2)).mono ?_⟩
  rintro e w3 ⟨rfl, b3⟩
  have hpd := pad_len (len l)
  have hps : (ba (pad (len l))).size ≤ 100 := by rw [ba_size]; exact hpd
  have hfl := Lib.hid (len_flat l)
  have hfi : (tx (l ++ [ba (pad (len l))])).flatten = (tx l).flatten ++ pad (len l) := by rw [tx_append, List.flatten_append]; simp [tx, ba]
  have hln : len (l ++ [ba (pad (len l))]) ≤ 200000 := by rw [len_snoc]; omega
  have HFI := Lib.hid hfi
  clear hfi hpd
  generalize hpq : ba (pad (len l)) = pd at HFI hps hln ⊢
  clear hpq
  gi_wp2_with fail
  have C1 := ((Blk.new w3 9 #[.string pd]).alloc (.cells #[.slice A l.length c, .slice (some ⟨w3.heap.size, 0, none⟩) 1 1] 50))
  have C2 := Blk.new (w3.alloc (.cells #[.string pd] 9)) 50 #[.slice A l.length c, .slice (some ⟨w3.heap.size, 0, none⟩) 1 1]
  have b5 : Below w2.heap.size w2 ((w3.alloc (.cells #[.string pd] 9)).alloc (.cells #[.slice A l.length c, .slice (some ⟨w3.heap.size, 0, none⟩) 1 1] 50)) := (b3.alloc b3.size _).alloc (Nat.le_trans b3.size (by simp)) _
  have hlp : Lies (fun _ => False) ((w3.alloc (.cells #[.string pd] 9)).alloc (.cells #[.slice A l.length c, .slice (some ⟨w3.heap.size, 0, none⟩) 1 1] 50)) (some ⟨w3.heap.size, 0, none⟩) (cs [pd]) := fun i u hi => by
    have : i = 0 := by have := (List.getElem?_eq_some_iff.1 hi).1; simp [cs] at this; exact this
    subst this
    refine ⟨_, rfl, by simp; omega, fun h => h, ?_⟩
    rw [show (⟨w3.heap.size, 0, none⟩ : Addr).add 0 = ⟨w3.heap.size, 0, none⟩ from rfl, C1.cell]
    simpa [cs] using hi
  have C2cell0 := C2.cell 0
  have C2cell1 := C2.cell 1
  rw [World.size_alloc] at C2cell0 C2cell1
  have hCC := Lib.hid (concat_two l [pd] (by simp) (by simp; omega) (w3.heap.size + 1) 2 A (some ⟨w3.heap.size, 0, none⟩) c 1 _ (C2cell0) (C2cell1) (by simp) (A1.out.below b5) hlp)
  clear C1 C2 hlp C2cell0 C2cell1
  refine ⟨trivial, (callsIn_wide.2 hCC.out).mono ?_⟩
  rintro e w4 ⟨A4, c4, rfl, L4, b4⟩
  have b6 := b5.trans (b4.mono b5.size)
  have L4' := Lib.hid L4
  have B6 := Lib.hid b6
  have N4 := Lib.hid (N1.out.of (b6.block _ s1))
  have s4 : w.heap.size < w4.heap.size := Nat.lt_of_lt_of_le s1 b6.size
  have hs4 : w.heap.size < ((w3.alloc (.cells #[.string pd] 9)).alloc (.cells #[.slice A l.length c, .slice (some ⟨w3.heap.size, 0, none⟩) 1 1] 50)).heap.size := Nat.lt_of_lt_of_le s1 b5.size
  have L5 := Lib.hid (Lies.mono (T := fun b => b = w.heap.size) L4 (fun k _ h => by rw [h]; exact hs4))
  have B4 := Lib.hid (B1.out.trans (b6.mono B1.out.size))
  clear b3 b5 b4 b6 L4 L4' hCC hs4
  gi_wp2_with (refine ⟨trivial, ?_⟩; gi_at_call 94; refine (blocks_in _ _ _ _ _ _ rfl).mono ?_; rintro e w5 ⟨rfl, rfl⟩)
  have hsL : (w4.alloc (.cells #[.slice A4 (l.length + 1) c4] 50)).heap.size = w4.heap.size + 1 := by simp
  refine wpIn_rangeWhole rfl h1 (gf := 110) (lb := #[.pointer (some ⟨w4.heap.size, 0, none⟩)]) rfl trivial (enters_of Tryz.func110 (by kernel_rfl) rfl)
    (blocks_whole (n - 1) w4.heap.size w.heap.size (l ++ [pd]) A4 c4 (by simp; omega) hln _ (by rw [hsL]; omega) (by rw [List.length_append]; exact (Blk.new w4 _ _).cell 0) (L5.out.kept (Kept.alloc (Kept.refl _ w4) _)))
    (fun h k => h.trans k) (fun W l o o' _ h ho => Kc.put W l o o' h ho) (Below.refl _ _) (fun _ => rfl)
    (fun pre W => Blk W w.heap.size 116 (ru (fol pre)) ∧ Below w.heap.size w W)
    (fun s X Y row h hg hr => ⟨h.1.of (hg.block _ h.1.lt (fun e => by have := hr _ e.symm; rw [hsL] at this; omega)), h.2.grown hg h.2.size (fun k e => by have := hr k e; rw [hsL] at this; omega)⟩)
    ⟨N4.out.alloc _, B4.out.alloc B4.out.size _⟩
    (fun x a' W => ∃ Bx, Blk W Bx 146 (cb x).toArray ∧ a' = { tmps := #[.slice A l.length c, undef, .string ⟨#[]⟩, .pointer (some ⟨w.heap.size, 0, none⟩), .pointer (some ⟨Bx, 0, none⟩), .agg (ru h0), .slice A l.length c, .slice A l.length c, .int .i64 (len l : Int), .string pd, .slice (some ⟨w3.heap.size, 0, none⟩) 1 1, .slice (some ⟨w3.heap.size + 1, 0, none⟩) 2 2, .slice A4 (l.length + 1) c4, .func (.func 110) #[] #[.pointer (some ⟨w4.heap.size, 0, none⟩)], .agg (cb x).toArray, undef, undef, undef, undef, undef], defers := [] })
    (fun x a' X l o o' h hl ho hc => by
      obtain ⟨Bx, hb, e⟩ := h
      exact ⟨Bx, Kc.put (Nb := Bx + 1) X l o o' ho hc Bx _ _ _ (by omega) hb, e⟩) ?assign ?body ?done
  case assign =>
    rintro l2 pre x W K hx ⟨hN, hB⟩ hK
    have hsx := sz64b_of hx
    have hx64 : (cb x).toArray.size = 64 := by rw [List.size_toArray, cb_length, hx]
    have hone : (cb x).toArray.all (·.oneCell') = true := Array.all_eq_true_iff_forall_mem.2 (fun v hv => cb_one x v (by simpa using hv))
    have Hn := Lib.hid hN
    have Hb := Lib.hid hB
    clear hN hB
    gi_wp2_with (refine wpListIn_store_blk rfl 146 _ _ rfl W.heap.size (cb x).toArray rfl rfl 146 _ (Blk.new W _ _) hsx (by rw [hx64]; rfl) hone ?_)
    have key : Kept (fun _ => False) W ((W.alloc (.cells (Array.replicate 64 (.int .u8 0)) 146)).setRow W.heap.size (cb x).toArray) := Kept.setRow (Kept.alloc (Kept.refl _ W) _) (.inr (Nat.le_refl _)) _
    refine hK _ _ ⟨key.size, fun k o _ hk _ => (key.block k (Array.getElem?_eq_some_iff.1 hk).1 (fun h => h)).trans hk⟩ (fun k cs t fr _ hk => (key.block k (Array.getElem?_eq_some_iff.1 hk).1 (fun h => h)).trans hk)
      ⟨Hn.out.of (key.block _ Hn.out.lt (fun h => h)), Kept.below Hb.out key (fun _ h => h.elim) Hb.out.size⟩ ⟨W.heap.size, (Blk.new W 146 (Array.replicate 64 (.int .u8 0))).row (cb x).toArray, rfl⟩
  case body =>
    rintro l2 pre x a' W ⟨hN, hB⟩ ⟨Bx, hX, rfl⟩ hx
    have hsx := sz64b_of hx
    have Hn := Lib.hid hN
    have Hb := Lib.hid hB
    have Hx := Lib.hid hX
    have hT := Lib.hid (HT.out.next hB)
    clear hN hB hX
    gi_wp2_with (first | (refine wpListIn_load_blk rfl 116 _ rfl w.heap.size rfl 116 _ Hn.out Tryz.underlying116 rfl (sz8_of (fol_length pre)) ?_) | (refine wpListIn_load_blk rfl 146 _ rfl Bx rfl 146 _ Hx.out Tryz.underlying146 rfl hsx ?_))
    refine ⟨trivial, fun h => (by cases h), (CallsIn.inRound l2 (callsIn_wide.2 (process_any (fol pre) (fol_length pre) x hx W hT.out))).mono ?_⟩
    rintro e w5 ⟨rfl, b5⟩
    have n5 := Hn.out.of (b5.block _ Hn.out.lt)
    have k5 := Lib.hid ((Kept.of_below (S := fun b => b = w.heap.size) b5).setRow (.inl rfl) (ru (blk (fol pre) x)))
    have hsz : (ru (fol pre)).size = (ru (blk (fol pre) x)).size := by rw [ru_size, ru_size, fol_length, blk_length _ _ (fol_length pre)]
    have hs8 := sz8_of (blk_length (fol pre) x (fol_length pre))
    have n6 := Lib.hid (n5.row (ru (blk (fol pre) x)))
    have N5 := Lib.hid n5
    clear n5 b5
    gi_wp2_with (refine wpListIn_store_blk rfl 116 _ _ rfl w.heap.size (ru (blk (fol pre) x)) rfl rfl 116 _ N5.out hs8 hsz (ru_one _) ?_)
    exact ⟨⟨k5.out.size, fun k o hB hk _ => (k5.out.block k (Array.getElem?_eq_some_iff.1 hk).1 (fun e => by omega)).trans hk⟩, fun k _ _ _ hne hk => (k5.out.block k (Array.getElem?_eq_some_iff.1 hk).1 hne).trans hk,
      by rw [fol_snoc]; exact n6.out, Kept.below Hb.out k5.out (fun x hx => by omega) Hb.out.size⟩
  case done =>
    rintro D ys W hD rfl ⟨hN, hB⟩ hK
    have Hn := Lib.hid hN
    have Hb := Lib.hid hB
    have hK0 := Lib.hid hK
    clear hN hB hK
    gi_wp2_with fail
    have hlies : Lies (fun _ => False) W (some ⟨w.heap.size, 0, none⟩) (ru (fol (chunks (tx (l ++ [pd])).flatten))).toList := fun i u hi => by
      have hadd : (⟨w.heap.size, 0, none⟩ : Addr).add i = ⟨w.heap.size, i, none⟩ := by unfold Addr.add; split <;> simp_all
      exact ⟨_, rfl, Hn.out.lt, fun h => h, by rw [hadd, Hn.out.cell]; simpa using hi⟩
    have hBE := bigEndian_any (fol (chunks (tx (l ++ [pd])).flatten)) (by rw [fol_length]; omega) (some ⟨w.heap.size, 0, none⟩) 8 W hlies
    rw [fol_length] at hBE
    refine ⟨trivial, (callsIn_wide.2 hBE).mono ?_⟩
    rintro e w6 ⟨rfl, b6⟩
    have hK' : w6.heap[D]? = some (.deferred (some [])) := (b6.block D (Array.getElem?_eq_some_iff.1 hK0.out).1).trans hK0.out
    have B7 := Lib.hid (Hb.out.trans (b6.mono Hb.out.size))
    have hR : Sh.out (fol (chunks (tx (l ++ [pd])).flatten)) = dig (tx l).flatten := by rw [HFI.out, ← hfl.out]; exact fol_sum _
    rw [hR]
    clear hBE hlies b6 hR
    gi_wp2_with fail
    refine ⟨by simp, .inl ⟨_, _, rfl, run_takeDeferred hK', ?_⟩⟩
    exact ⟨.string (ba (dig (tx l).flatten)), by simp [results, Tryz.f83, go_sem], rfl, B7.out.trans (belowK_b (w := w) (Nat.le_refl _) w6 D _ _ (by simp at hD; omega) hK' rfl rfl)⟩

/-- THE DIGEST OF ALL PARTS. -/
theorem sum_any (l : List ByteArray) (hl : l.length ≤ 1000) (hs : len l ≤ 100000) (A : Option Addr) (c : Nat) (w : World) (hA : Lies (fun _ => False) w A (cs l)) (hT : Tab w) :
    Calls Tryz.prog 83 #[.slice A l.length c] w fun e w' => e = .returned (.string (ba (dig (tx l).flatten))) ∧ Below w.heap.size w w' :=
  (callsIn_wide (n := 3)).1 (sum_wide 3 (Nat.le_refl _) l hl hs A c w hA hT)
end Go.Proofs.YtfjdcopndkdbmaaGreatDoor

namespace Go.Proofs.YtfjdcopndkdbmaaGreatDoor
open Go.RowKit

/-- Parts that a slice literal lays. -/
theorem sum_new (l : List ByteArray) (hl : l.length ≤ 1000) (hs : len l ≤ 100000) (w : World) (hT : Tab w) :
    Calls Tryz.prog 83 #[.slice (some ⟨w.heap.size, 0, none⟩) l.length l.length] (w.alloc (.cells (cs l).toArray 9)) fun e w' => e = .returned (.string (ba (dig (tx l).flatten))) ∧ Below w.heap.size w w' := by
  have hb : Below w.heap.size w (w.alloc (.cells (cs l).toArray 9)) := (Below.refl _ w).alloc (Nat.le_refl _) _
  refine (sum_any l hl hs (some ⟨w.heap.size, 0, none⟩) l.length _ (fun i u hi => ?_) (hT.next hb)).mono fun e w' h => ⟨h.1, hb.trans (h.2.mono (by simp))⟩
  have hadd : (⟨w.heap.size, 0, none⟩ : Addr).add i = ⟨w.heap.size, i, none⟩ := by unfold Addr.add; split <;> simp_all
  exact ⟨_, rfl, by simp, fun h => h, by rw [hadd, (Blk.new w 9 (cs l).toArray).cell]; simpa using hi⟩

end Go.Proofs.YtfjdcopndkdbmaaGreatDoor

namespace Go.Proofs.YtfjdcopndkdbmaaGreatDoor
open Go.RowKit

set_option maxHeartbeats 1000000 in
theorem msum_nil (l : List ByteArray) (hl : l.length ≤ 1000) (hs : len l ≤ 100000) (A : Option Addr) (c : Nat) (w : World) (hA : Lies (fun _ => False) w A (cs l)) (hT : Tab w) :
    Calls Tryz.prog 68 #[.pointer none, .slice A l.length c] w fun e w' => e = .returned (.string (ba (dig (tx l).flatten))) ∧ Below w.heap.size w w' := by
  have HS := Lib.hid (sum_any l hl hs A c w hA hT)
  clear hA hT
  go_enter Tryz.func68, Tryz.ntmps68
  go_wp2_with fail
  refine HS.out.mono ?_
  rintro e w1 ⟨rfl, hb⟩
  go_wp2_with fail
  go_ret
  exact ⟨rfl, hb⟩
theorem lies_lit (S : Nat → Prop) (l : List ByteArray) (w : World) (hS : ¬ S w.heap.size) : Lies S (w.alloc (.cells (cs l).toArray 9)) (some ⟨w.heap.size, 0, none⟩) (cs l) := fun i u hi => by
  have hadd : (⟨w.heap.size, 0, none⟩ : Addr).add i = ⟨w.heap.size, i, none⟩ := by unfold Addr.add; split <;> simp_all
  exact ⟨_, rfl, by simp, hS, by rw [hadd, (Blk.new w 9 (cs l).toArray).cell]; simpa using hi⟩
/-- .. of parts that a slice literal lays. -/
theorem msum_nil_new (l : List ByteArray) (hl : l.length ≤ 1000) (hs : len l ≤ 100000) (w : World) (hT : Tab w) :
    Calls Tryz.prog 68 #[.pointer none, .slice (some ⟨w.heap.size, 0, none⟩) l.length l.length] (w.alloc (.cells (cs l).toArray 9)) fun e w' => e = .returned (.string (ba (dig (tx l).flatten))) ∧ Below w.heap.size w w' := by
  have hb : Below w.heap.size w (w.alloc (.cells (cs l).toArray 9)) := (Below.refl _ w).alloc (Nat.le_refl _) _
  exact (msum_nil l hl hs (some ⟨w.heap.size, 0, none⟩) l.length _ (lies_lit _ l w (fun h => h)) (hT.next hb)).mono fun e w' h => ⟨h.1, hb.trans (h.2.mono (by simp))⟩
end Go.Proofs.YtfjdcopndkdbmaaGreatDoor
