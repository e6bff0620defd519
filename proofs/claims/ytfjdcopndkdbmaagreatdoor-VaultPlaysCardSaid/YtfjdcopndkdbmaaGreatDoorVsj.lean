/-
  Keys of secrets as keys of a map: what they read as; an entry found or made, and stored, beside a look-up. Condition: the channel's length is a Go length, the numbers are Go numbers.
  What is known while a statement counts up an entry of a map of its own, in whatever order: m[f(x)]++. No condition.
  Contract of vault.Check. Condition: rows of at most 900000 secrets whose keys are Go's, channels of 50000 bytes at most.
-/
import Derived.Maps.OwnSet
import Derived.DeepKeys5
import Derived.WideKeyEntry
import Derived.Test.YtfjdcopndkdbmaaGreatDoorVsd
import Derived.Test.YtfjdcopndkdbmaaGreatDoorTabs
import Derived.Test.YtfjdcopndkdbmaaGreatDoorAnyI
import Derived.Test.YtfjdcopndkdbmaaGreatDoorVsH
import Derived.Test.YtfjdcopndkdbmaaGreatDoorVrF

namespace Go.Proofs.YtfjdcopndkdbmaaGreatDoor
open Go.RowKit Go.ChangeShapes Go.WideShapes Go.ChangeMaps Go.MapKept
open Go.WideElems (Fit rd rg pl rd_val)

theorem key_law : WideMaps.KeyLaw Tryz.prog 80 := deep_law_gate laidOut (of_decide_eq_true (by kernel_rfl)) (of_decide_eq_true (by kernel_rfl)) (by kernel_rfl) (by kernel_rfl)
theorem keyed : Maps.Keyed Tryz.prog 80 := Maps.Keyed.of_law key_law
def keyV (k : Va.Key) : Value := .agg #[.int .i64 k.1, .int .i64 k.2.1, .string k.2.2]
theorem keyV_inj {k k' : Va.Key} (h : keyV k = keyV k') : k = k' := by
  obtain ⟨a, p, c⟩ := k
  obtain ⟨a', p', c'⟩ := k'
  unfold keyV at h
  simp only [Value.agg.injEq, Array.mk.injEq, List.cons.injEq, Value.int.injEq, Value.string.injEq, true_and, and_true] at h
  obtain ⟨rfl, rfl, rfl⟩ := h
  rfl
/-- A key that Go has. -/
structure KeyOk (k : Va.Key) : Prop where
  a : (Lit.int .i64 k.1).wf = true
  p : (Lit.int .i64 k.2.1).wf = true
  c : k.2.2.size ≤ maxLen
theorem lits_int (n : Nat) (x : Int) (h : (Lit.int .i64 x).wf = true) : Tryz.prog.keyLits (n + 1) 3 [.int .i64 x] = some [.int .i64 x] := by
  simp [Program.keyLits, Tryz.underlying3, h]
theorem lits_str (n : Nat) (s : ByteArray) (h : s.size ≤ maxLen) : Tryz.prog.keyLits (n + 1) 9 [.string s] = some [.string s.data.toList] := by
  simp [Program.keyLits, Tryz.underlying9, h]
theorem key_cells : Tryz.prog.cellsOf 80 = 3 := by kernel_rfl
theorem key_type : Tryz.prog.keyType 80 = true := by kernel_rfl
theorem key_reads {k : Va.Key} (h : KeyOk k) : ∃ kl, keyOf Tryz.prog 80 (keyV k) = some kl := by
  have hi : Tryz.prog.cellsOf 3 = 1 := by kernel_rfl
  have hs : Tryz.prog.cellsOf 9 = 1 := by kernel_rfl
  obtain ⟨m, hm⟩ : ∃ m, Tryz.prog.types.size = m + 1 := ⟨_, rfl⟩
  have h1 := lits_int m k.1 h.a
  have h2 := lits_int m k.2.1 h.p
  have h3 := lits_str m k.2.2 h.c
  have hl : Tryz.prog.keyLits (Tryz.prog.types.size + 1) 80 [.int .i64 k.1, .int .i64 k.2.1, .string k.2.2] = some [.int .i64 k.1, .int .i64 k.2.1, .string k.2.2.data.toList] := by
    rw [hm]
    unfold Program.keyLits
    simp [Tryz.underlying80, key_cells, hi, hs, h1, h2, h3]
  refine ⟨.string (keyBytes [.int .i64 k.1, .int .i64 k.2.1, .string k.2.2.data.toList]), ?_⟩
  unfold keyOf keyV
  simp [Tryz.underlying80, key_type, Value.formed, key_cells, Value.cells]
  exact ⟨_, hl, rfl⟩
/-- What a map of keys and numbers reads as. -/
abbrev KM {H : Type} (W : World) (b n : Nat) (D : DataW H) : Prop := W.ownsMap Tryz.prog 80 (plainElem (H := H) Tryz.prog 3) b n D
theorem zero_int : ∀ u : World, (zeroValue 3).run Tryz.prog u = .ok (.int .i64 0) u := Tryz.zeroValue3
/-- The place of an entry, found or made; whatever number is stored there then: the map has that key, and nothing else has turned. -/
theorem entry_at {H : Type} {w : World} {b n : Nat} {D : DataW H} (h : KM w b n D) (hn : n < maxLen) {key : Value} {kl : Lit} (hkey : keyOf Tryz.prog 80 key = some kl) :
    ∃ (c0 : Int) (st : Nat) (w1 : World), (Instr.mapEntry 96 (.map (some b)) key).run Tryz.prog w = .ok (.tuple #[.int .i64 c0, goInt st]) w1 ∧ w.grownBy w1 (some b) ∧
      (∀ w2 : World, w2.heap[b]? = w1.heap[b]? → ∃ c, (Instr.lookup 96 (.map (some b)) key false).run Tryz.prog w2 = .ok (.int .i64 c) w2 ∧ (Lit.int .i64 c).wf = true) ∧
      ∀ (w2 : World) (c : Int), (Lit.int .i64 c).wf = true → w2.heap[b]? = w1.heap[b]? → ∃ w3, (Instr.entryStore 96 (.map (some b)) (goInt st) (.int .i64 c)).run Tryz.prog w2 = .ok () w3 ∧ KM w3 b (n + 1) (D.put kl (.lit (.int .i64 c))) ∧ w2.grownBy w3 (some b) := by
  have h0 := h
  obtain ⟨es, clock, hb, F, hs, hD⟩ := h
  have ht := Tryz.underlying96
  obtain ⟨v0, st, es1, clock1, hrun, hv0, hst⟩ := Go.WideElems.entry_then_store (w := w) key_law ht zero_int hb F hkey
  have hb1 : (setBlock w b (.map es1 clock1)).heap[b]? = some (.map es1 clock1) := heap_setBlock_same hb _
  have hg1 : w.grownBy (setBlock w b (.map es1 clock1)) (some b) := ⟨rfl, rfl, rfl, by simp [setBlock], fun i _ hi => heap_setBlock_other hb _ (fun e => hi (by rw [e]))⟩
  obtain ⟨c0, hc0⟩ : ∃ c0, v0 = .int .i64 c0 := by
    rcases hv0 with ⟨e0, he, _, rfl⟩ | ⟨_, rfl⟩
    · obtain ⟨y, hy⟩ := F.reads e0 he
      obtain ⟨z, hz, _⟩ := rd_val hy
      obtain ⟨a, ha, _⟩ := plainElem_int_inv Tryz.underlying3 hz
      exact ⟨a, ha⟩
    · exact ⟨0, rfl⟩
  subst hc0
  refine ⟨c0, st, _, hrun, hg1, fun W hWb => ?_, fun w2 c hc hw2 => ?_⟩
  · rcases key_law.find w hkey es.toList F.keys with ⟨h1, h2⟩ | ⟨j, e0, h1, h2, h3⟩
    · have hr : (Instr.mapEntry 96 (.map (some b)) key).run Tryz.prog w = .ok (.tuple #[.int .i64 0, goInt clock]) (setBlock w b (.map (es.push ⟨key, .int .i64 0, clock⟩) (clock + 1))) := by
        simp [Instr.mapEntry, run_underlying ht, MapKept.run_getObj_map hb, key_law.check w false hkey, h1, MapKept.run_setObj_map _ hb, Result.andThen, setBlock]
      have he := hrun.symm.trans hr
      injection he with _ he
      rw [he] at hWb
      have hb2 : W.heap[b]? = some (.map (es.push ⟨key, .int .i64 0, clock⟩) (clock + 1)) := hWb.trans (heap_setBlock_same hb _)
      rcases key_law.find W hkey (es.push ⟨key, .int .i64 0, clock⟩).toList (fun x hx => by
        rw [Array.toList_push, List.mem_append, List.mem_singleton] at hx
        rcases hx with hx | rfl
        · exact F.keys x hx
        · exact ⟨kl, hkey⟩) with ⟨k1, k2⟩ | ⟨j, e0, k1, k2, k3⟩
      · exact absurd rfl (k2 ⟨key, .int .i64 0, clock⟩ (by simp))
      · have hm := List.mem_of_getElem? k2
        rw [Array.toList_push, List.mem_append, List.mem_singleton] at hm
        rcases hm with hm | rfl
        · exact absurd k3 (h2 e0 hm)
        · rw [Array.toList_push] at k1
          exact ⟨0, by simp [Instr.lookup, run_underlying ht, MapKept.run_getObj_map hb2, key_law.check W _ hkey, k1, Result.andThen], by decide⟩
    · have hj : es[j]? = some e0 := by simpa using h2
      have hsame : es.modify j (fun e => { e with key := key }) = es := by
        apply Array.ext_getElem?
        intro i
        rw [Array.getElem?_modify]
        split
        · rename_i hi
          subst hi
          rw [hj]
          show some ({ e0 with key := key } : MapEntry) = some e0
          rw [← h3]
        · rfl
      have hr : (Instr.mapEntry 96 (.map (some b)) key).run Tryz.prog w = .ok (.tuple #[e0.val, goInt e0.born]) (setBlock w b (.map es clock)) := by
        simp [Instr.mapEntry, run_underlying ht, MapKept.run_getObj_map hb, key_law.check w false hkey, h1, hj, h3, key_law.stays w hkey, hsame, MapKept.run_setObj_map _ hb, Result.andThen, setBlock]
      have he := hrun.symm.trans hr
      injection he with _ he
      rw [he] at hWb
      have hW : KM W b n D := ⟨es, clock, hWb.trans (heap_setBlock_same hb _), F, hs, hD⟩
      obtain ⟨c, hc, _, hwc⟩ := hW.lookup_int keyed ht Tryz.underlying3 (zero_int _) hkey
      exact ⟨c, hc, hwc⟩
  · have hw2' : w2.heap[b]? = some (.map es1 clock1) := hw2.trans hb1
    obtain ⟨es', clock', hr1, hr2⟩ := hst w2 (.int .i64 c) hw2'
    obtain ⟨w', hr3, hown, _⟩ := h0.update keyed ht hn hkey (plainElem_int Tryz.underlying3 hc)
    have hw' : w' = setBlock w b (.map es' clock') := by
      have := hr3.symm.trans hr2
      injection this
    subst hw'
    obtain ⟨es2, clock2, hb2, F2, hs2, hD2⟩ := hown
    have hb3 : (setBlock w b (.map es' clock')).heap[b]? = some (.map es' clock') := heap_setBlock_same hb _
    have he := hb2.symm.trans hb3
    injection he with he
    injection he with he1 he2
    subst he1 he2
    exact ⟨_, hr1, ⟨es2, clock2, heap_setBlock_same hw2' _, F2, hs2, hD2⟩, ⟨rfl, rfl, rfl, by simp [setBlock], fun i _ hi => heap_setBlock_other hw2' _ (fun e => hi (by rw [e]))⟩⟩
end Go.Proofs.YtfjdcopndkdbmaaGreatDoor

namespace Go.Proofs.YtfjdcopndkdbmaaGreatDoor
open Go.RowKit Go.ChangeMaps

theorem km_of {W W' : World} {b n : Nat} {D : DataW Unit} (h : KM W b n D) (e : W'.heap[b]? = W.heap[b]?) : KM W' b n D := by
  obtain ⟨es, cl, h1, h2, h3, h4⟩ := h
  exact ⟨es, cl, e.trans h1, h2, h3, h4⟩
/-- An entry's place st in W: a look-up finds a number, a store there leaves the map with that key. -/
def EntAt (W : World) (b n : Nat) (kl : Lit) (key : Value) (D : DataW Unit) (st : Nat) : Prop :=
  (∀ w2 : World, w2.heap[b]? = W.heap[b]? → ∃ c, (Instr.lookup 96 (.map (some b)) key false).run Tryz.prog w2 = .ok (.int .i64 c) w2 ∧ (Lit.int .i64 c).wf = true) ∧
  ∀ (w2 : World) (c : Int), (Lit.int .i64 c).wf = true → w2.heap[b]? = W.heap[b]? → ∃ w3, (Instr.entryStore 96 (.map (some b)) (goInt st) (.int .i64 c)).run Tryz.prog w2 = .ok () w3 ∧ KM w3 b (n + 1) (D.put kl (.lit (.int .i64 c))) ∧ w2.grownBy w3 (some b)
theorem EntAt.of {W W' : World} {b n : Nat} {kl : Lit} {key : Value} {D : DataW Unit} {st : Nat} (h : EntAt W b n kl key D st) (e : W'.heap[b]? = W.heap[b]?) : EntAt W' b n kl key D st :=
  ⟨fun w2 h2 => h.1 w2 (h2.trans e), fun w2 c hc h2 => h.2 w2 c hc (h2.trans e)⟩
structure Gm (b n : Nat) (kl : Lit) (key : Value) (D : DataW Unit) (w0 : World) (iE iX iS sE sX : Nat) (listed : Array Bool) (a : Act) (W : World) : Prop where
  kept : Kept (fun u => u = b) w0 W
  ordX : listed.getD iX false = true → listed.getD iE false = true
  ordS : listed.getD iS false = true → listed.getD iX false = true
  fresh : listed.getD iE false = false → KM W b n D
  ent : listed.getD iE false = true → listed.getD iS false = false → ∃ (c0 : Int) (st : Nat), a.tmps[sE]?.getD undef = .tuple #[.int .i64 c0, goInt st] ∧ EntAt W b n kl key D st ∧ (listed.getD iX false = true → a.tmps[sX]?.getD undef = goInt st)
  fin : listed.getD iS false = true → ∃ c, KM W b (n + 1) (D.put kl (.lit (.int .i64 c)))
section
variable {b n : Nat} {kl : Lit} {key : Value} {D : DataW Unit} {w0 W W' : World} {iE iX iS sE sX : Nat} {listed : Array Bool} {a : Act}
theorem Gm.start (h : KM w0 b n D) (m : Nat) (a0 : Act) : Gm b n kl key D w0 iE iX iS sE sX (Array.replicate m false) a0 w0.drew := by
  have e : ∀ i, (Array.replicate m false).getD i false = false := by
    intro i
    rw [Array.getD_eq_getD_getElem?, Array.getElem?_replicate]
    split <;> rfl
  refine ⟨(Kept.refl _ w0).drew, fun h => ?_, fun h => ?_, fun _ => h, fun h => ?_, fun h => ?_⟩
  all_goals (rw [e] at h; cases h)
/-- An operation that leaves the map's block. -/
theorem Gm.goes (h : Gm b n kl key D w0 iE iX iS sE sX listed a W) (hk : Kept (fun u => u = b) w0 W') (hw : W'.heap[b]? = W.heap[b]?) (i : Nat) (h1 : i ≠ iE) (h2 : i ≠ iX) (h3 : i ≠ iS) (d : Option Nat) (hd : d ≠ some sE) (hd2 : d ≠ some sX) (v : Value) :
    Gm b n kl key D w0 iE iX iS sE sX (listed.setIfInBounds i true) (a.put d v) W' := by
  refine ⟨hk, ?_, ?_, ?_, ?_, ?_⟩
  · rw [getD_set_other h2, getD_set_other h1]; exact h.ordX
  · rw [getD_set_other h3, getD_set_other h2]; exact h.ordS
  · rw [getD_set_other h1]; exact fun hl => km_of (h.fresh hl) hw
  · rw [getD_set_other h1, getD_set_other h3, getD_set_other h2]
    intro hl hs
    obtain ⟨c0, st, e1, e2, e3⟩ := h.ent hl hs
    refine ⟨c0, st, ?_, e2.of hw, fun hx => ?_⟩
    · cases d with
      | none => exact e1
      | some d => rw [put_slot (fun e => hd (by rw [e]))]; exact e1
    · cases d with
      | none => exact e3 hx
      | some d => rw [put_slot (fun e => hd2 (by rw [e]))]; exact e3 hx
  · rw [getD_set_other h3]
    intro hl
    obtain ⟨c, hc⟩ := h.fin hl
    exact ⟨c, km_of hc hw⟩
theorem Gm.quiet (h : Gm b n kl key D w0 iE iX iS sE sX listed a W) (i : Nat) (h1 : i ≠ iE) (h2 : i ≠ iX) (h3 : i ≠ iS) (d : Option Nat) (hd : d ≠ some sE) (hd2 : d ≠ some sX) (v : Value) :
    Gm b n kl key D w0 iE iX iS sE sX (listed.setIfInBounds i true) (a.put d v) W := h.goes h.kept rfl i h1 h2 h3 d hd hd2 v
theorem Gm.lt (h : Gm b n kl key D w0 iE iX iS sE sX listed a W) (h0 : b < w0.heap.size) : b < W.heap.size := Nat.lt_of_lt_of_le h0 h.kept.size
theorem Gm.calls (h : Gm b n kl key D w0 iE iX iS sE sX listed a W) (h0 : b < w0.heap.size) (hb : Below W.heap.size W W') (i : Nat) (h1 : i ≠ iE) (h2 : i ≠ iX) (h3 : i ≠ iS) (d : Option Nat) (hd : d ≠ some sE) (hd2 : d ≠ some sX) (v : Value) :
    Gm b n kl key D w0 iE iX iS sE sX (listed.setIfInBounds i true) (a.put d v) W' :=
  h.goes (h.kept.trans (Kept.of_below (S := fun _ => False) hb) (fun _ h => h.elim)) (hb.block _ (h.lt h0)) i h1 h2 h3 d hd hd2 v
/-- A look-up finds a number, whenever it comes up. -/
theorem Gm.look (h : Gm b n kl key D w0 iE iX iS sE sX listed a W) (hkey : keyOf Tryz.prog 80 key = some kl) : ∃ c, (Instr.lookup 96 (.map (some b)) key false).run Tryz.prog W = .ok (.int .i64 c) W ∧ (Lit.int .i64 c).wf = true := by
  cases hE : listed.getD iE false with
  | false =>
    obtain ⟨c, hc, _, hwc⟩ := (h.fresh hE).lookup_int keyed Tryz.underlying96 Tryz.underlying3 (zero_int _) hkey
    exact ⟨c, hc, hwc⟩
  | true =>
    cases hS : listed.getD iS false with
    | false =>
      obtain ⟨_, _, _, e2, _⟩ := h.ent hE hS
      exact e2.1 W rfl
    | true =>
      obtain ⟨c, hc⟩ := h.fin hS
      obtain ⟨c, hc, _, hwc⟩ := hc.lookup_int keyed Tryz.underlying96 Tryz.underlying3 (zero_int _) hkey
      exact ⟨c, hc, hwc⟩
theorem Gm.entry (h : Gm b n kl key D w0 iE iX iS sE sX listed a W) (hn : n < maxLen) (hkey : keyOf Tryz.prog 80 key = some kl) (hun : listed.getD iE false = false) (hl : iE < listed.size) (h1 : iE ≠ iX) (h2 : iE ≠ iS) (hs : sE < a.tmps.size) :
    ∃ (v : Value) (w1 : World), (Instr.mapEntry 96 (.map (some b)) key).run Tryz.prog W = .ok v w1 ∧ Gm b n kl key D w0 iE iX iS sE sX (listed.setIfInBounds iE true) (a.put (some sE) v) w1 := by
  have hX : listed.getD iX false = false := by
    cases e : listed.getD iX false with
    | false => rfl
    | true => rw [h.ordX e] at hun; cases hun
  have hS : listed.getD iS false = false := by
    cases e : listed.getD iS false with
    | false => rfl
    | true => rw [h.ordS e] at hX; cases hX
  obtain ⟨c0, st, w1, hr, hg, h3, h4⟩ := entry_at (h.fresh hun) hn hkey
  refine ⟨_, w1, hr, Kept.grown (S := fun u => u = b) h.kept hg (fun k hk => .inl (Option.some.inj hk).symm), ?_, ?_, ?_, ?_, ?_⟩
  · rw [getD_set_same hl]; exact fun _ => rfl
  · rw [getD_set_other h2, getD_set_other h1]; exact h.ordS
  · rw [getD_set_same hl]; intro e; cases e
  · rw [getD_set_other h1, hX]
    exact fun _ _ => ⟨c0, st, put_here hs, ⟨h3, h4⟩, fun e => by cases e⟩
  · rw [getD_set_other h2, hS]; intro e; cases e
theorem Gm.extract (h : Gm b n kl key D w0 iE iX iS sE sX listed a W) (hE : listed.getD iE false = true) (hun : listed.getD iX false = false) (hl : iX < listed.size) (h1 : iX ≠ iE) (h2 : iX ≠ iS) (h3 : sX ≠ sE) (hs : sX < a.tmps.size) :
    ∃ (c0 : Int) (st : Nat), a.tmps[sE]?.getD undef = .tuple #[.int .i64 c0, goInt st] ∧ Gm b n kl key D w0 iE iX iS sE sX (listed.setIfInBounds iX true) (a.put (some sX) (goInt st)) W := by
  have hS : listed.getD iS false = false := by
    cases e : listed.getD iS false with
    | false => rfl
    | true => rw [h.ordS e] at hun; cases hun
  obtain ⟨c0, st, e1, e2, _⟩ := h.ent hE hS
  refine ⟨c0, st, e1, h.kept, ?_, ?_, ?_, ?_, ?_⟩
  · rw [getD_set_same hl, getD_set_other h1]; exact fun _ => hE
  · rw [getD_set_other h2, hS]; intro e; cases e
  · rw [getD_set_other h1, hE]; intro e; cases e
  · exact fun _ _ => ⟨c0, st, by rw [put_slot h3]; exact e1, e2, fun _ => put_here hs⟩
  · rw [getD_set_other h2, hS]; intro e; cases e
theorem Gm.store (h : Gm b n kl key D w0 iE iX iS sE sX listed a W) (hX : listed.getD iX false = true) (hun : listed.getD iS false = false) (hl : iS < listed.size) (h1 : iS ≠ iE) (h2 : iS ≠ iX) (c : Int) (hc : (Lit.int .i64 c).wf = true) (u : Value) :
    ∃ (st : Nat) (w3 : World), a.tmps[sX]?.getD undef = goInt st ∧ (Instr.entryStore 96 (.map (some b)) (goInt st) (.int .i64 c)).run Tryz.prog W = .ok () w3 ∧ Gm b n kl key D w0 iE iX iS sE sX (listed.setIfInBounds iS true) (a.put none u) w3 := by
  have hE := h.ordX hX
  obtain ⟨c0, st, e1, e2, e3⟩ := h.ent hE hun
  obtain ⟨w3, hr, hk, hg⟩ := e2.2 W c hc rfl
  refine ⟨st, w3, e3 hX, hr, Kept.grown (S := fun u => u = b) h.kept hg (fun k hk => .inl (Option.some.inj hk).symm), ?_, ?_, ?_, ?_, ?_⟩
  · rw [getD_set_other h2, getD_set_other h1]; exact h.ordX
  · rw [getD_set_other h2]; exact fun _ => hX
  · rw [getD_set_other h1, hE]; intro e; cases e
  · rw [getD_set_same hl]; intro _ e; cases e
  · exact fun _ => ⟨c, hk⟩
end
end Go.Proofs.YtfjdcopndkdbmaaGreatDoor

namespace Go.Proofs.YtfjdcopndkdbmaaGreatDoor
open Go.RowKit Go.ChangeMaps

/-- What the map holds behind k secrets. -/
structure Seen (K : Va.Key → Lit) (l : List Va.Sec) (k : Nat) (D : DataW Unit) : Prop where
  has : ∀ t ∈ l, (Maps.has D (K t.key) = true ↔ t.key ∈ (l.take k).map Va.Sec.key)
  size : Maps.size D ≤ k
  nod : Maps.size D = k ↔ ((l.take k).map Va.Sec.key).Nodup
theorem Seen.more {K : Va.Key → Lit} {l : List Va.Sec} {k : Nat} {D : DataW Unit} (h : Seen K l k D) (hk : k < l.length) (hD : Maps.Tidy D) (hi : ∀ s ∈ l, ∀ t ∈ l, K s.key = K t.key → s.key = t.key) (hK : ∀ s ∈ l, WideAt.IsKeyLit (K s.key)) (d : DataW Unit) :
    Seen K l (k + 1) (D.put (K l[k].key) d) := by
  have hm := List.getElem_mem hk
  have ht : (l.take (k + 1)).map Va.Sec.key = (l.take k).map Va.Sec.key ++ [l[k].key] := by rw [List.take_succ_eq_append_getElem hk, List.map_append]; rfl
  have hsz := Maps.size_put (k := K l[k].key) hD d
  have hh := h.has _ hm
  have h0 := h.size
  refine ⟨fun t htl => ?_, ?_, ?_⟩
  · by_cases e : t.key = l[k].key
    · rw [e, Maps.has_put_same hD.isMap (hK _ hm), ht]
      simp
    · rw [Maps.has_put_other (fun e2 => e (hi _ htl _ hm e2)), h.has t htl, ht, List.mem_append, List.mem_singleton]
      exact ⟨.inl, fun h => h.elim id (fun e2 => absurd e2 e)⟩
  · rw [hsz]
    split <;> omega
  · rw [ht, hsz]
    by_cases e : Maps.has D (K l[k].key) = true
    · rw [if_pos e]
      constructor
      · intro h2; omega
      · intro h2
        rw [List.nodup_append] at h2
        exact absurd rfl (h2.2.2 _ (hh.1 e) _ (by simp))
    · rw [if_neg e]
      have h3 := h.nod
      constructor
      · intro h2
        rw [List.nodup_append]
        exact ⟨h3.1 (by omega), by simp, fun a ha b hb => by rw [List.mem_singleton] at hb; subst hb; rintro rfl; exact e (hh.2 ha)⟩
      · intro h2
        rw [List.nodup_append] at h2
        have := h3.2 h2.1
        omega
theorem wrap_wf (x : Int) : (Lit.int .i64 (IntKind.i64.wrap x)).wf = true := by
  rw [IntKind.wrap_i64]
  simp [Lit.wf, IntKind.min, IntKind.max, IntKind.bits, IntKind.signed]
  omega
/-- What each operation of the drawn statement leaves. -/
def Vq8 (s : Va.Sec) (gb : Nat) : Nat → Value → Prop
  | 0, v => v = .map (some gb)
  | 1, v => v = .agg #[.string s.digest, .int .i64 s.account, .int .i64 s.purpose, .string s.channel, .int .i64 s.expires, .int .i64 s.tries]
  | 2, v => v = .agg #[.int .i64 s.account, .int .i64 s.purpose, .string s.channel]
  | 3, v => ∃ c, v = .int .i64 c ∧ (Lit.int .i64 c).wf = true
  | 4, v => ∃ c, v = .int .i64 c ∧ (Lit.int .i64 c).wf = true
  | 5, v => True ∨ v = v
  | 6, v => True ∨ v = v
  | 7, v => True ∨ v = v
  | _, _ => True
theorem make_map (W : World) : (Instr.makeMap 96 none).run Tryz.prog W = .ok (.map (some W.heap.size)) (W.alloc (.map #[] 0)) := rfl
set_option maxRecDepth 100000 in
set_option maxHeartbeats 8000000 in
theorem check_any {S : Nat → Prop} (A : Option Addr) (cp : Nat) (l : List Va.Sec) (hl : l.length ≤ 900000) (hch : ∀ s ∈ l, s.channel.size ≤ 50000) (hko : ∀ s ∈ l, KeyOk s.key) (w : World) (hM : MaxIs w) (hA : Lies S w A (secs l)) :
    Calls Tryz.prog 18 #[.slice A l.length cp] w fun e w' => e = .returned (.bool (checkB l)) ∧ Below w.heap.size w w' := by
  by_cases h40 : (l.length : Int) > 40
  · have hcb : checkB l = false := by unfold checkB; rw [decide_eq_false (show ¬ l.length ≤ 40 by omega), Bool.and_false]
    rw [hcb]
    clear hA
    go_enter Tryz.func18, Tryz.ntmps18
    go_wp2_with fail
    go_ret
    exact ⟨rfl, Below.refl _ w⟩
  · have HMM := fun W => make_map W
    have HA := Lib.hid hA
    have HMX := Lib.hid hM
    have HCH := Lib.hid hch
    have HKO := Lib.hid hko
    obtain ⟨K, hK⟩ : ∃ K : Va.Key → Lit, ∀ k, KeyOk k → keyOf Tryz.prog 80 (keyV k) = some (K k) := by
      refine ⟨fun k => (keyOf Tryz.prog 80 (keyV k)).getD (.bool false), fun k hk => ?_⟩
      obtain ⟨kl, h⟩ := key_reads hk
      simp only [h, Option.getD_some]
    have HKK := Lib.hid hK
    have HINJ := Lib.hid (show ∀ s ∈ l, ∀ t ∈ l, K s.key = K t.key → s.key = t.key from fun s hs t ht e => keyV_inj (key_law.inj (hK _ (hko s hs)) (by rw [e]; exact hK _ (hko t ht))))
    have HLIT := Lib.hid (show ∀ s ∈ l, WideAt.IsKeyLit (K s.key) from fun s hs => by
      obtain ⟨x, hx⟩ := key_law.str (hK _ (hko s hs))
      rw [hx]
      exact trivial)
    have hmade := World.ownsMap_made (H := Unit) w Tryz.prog 80 (plainElem Tryz.prog 3)
    have HMADE := Lib.hid hmade
    have HB0 := Lib.hid (show Below w.heap.size w (w.alloc (.map #[] 0)) from (Below.refl _ w).alloc (Nat.le_refl _) _)
    clear hA hM hch hko hK hmade
    go_enter Tryz.func18, Tryz.ntmps18
    go_wp2_with fail
    clear HMM
    go_loopw [5, 12] (fun _ i wr => ∃ (k : Nat) (D : DataW Unit), i = .int .i64 (k : Int) ∧ k ≤ l.length ∧ Seen K l k D ∧ (∀ j (hj : j < l.length), j < k → rightS l[j] = true) ∧ KM wr w.heap.size k D ∧ Below w.heap.size w wr) (fun _ i _ => l.length - (intOf i).toNat)
    case atStart => exact ⟨0, .map [], rfl, by omega, ⟨fun t ht => by simp [Maps.has_eq], by simp [Maps.size_eq], by simp [Maps.size_eq]⟩, fun j _ hj => absurd hj (by omega), HMADE.out, HB0.out⟩
    case round =>
      obtain ⟨k, D, rfl, hk, hseen, hri, hkm, hB⟩ := hrel
      have HS := Lib.hid hseen
      have HRI := Lib.hid hri
      have HKM := Lib.hid hkm
      have HB := Lib.hid hB
      clear hseen hri hkm hB
      by_cases hlt : k < l.length
      · have hki : (k : Int) < (l.length : Int) := by omega
        obtain ⟨ad, hAe, sa⟩ := lies_sec (HA.out.below HB.out) k hlt
        subst hAe
        obtain ⟨q, hq⟩ : ∃ q, ad.add (k * 6) = q := ⟨_, rfl⟩
        rw [hq] at sa
        have hmem := List.getElem_mem hlt
        have hkey := HKK.out _ (HKO.out _ hmem)
        have hcs := HCH.out _ hmem
        obtain ⟨s, hs⟩ : ∃ s, l[k] = s := ⟨_, rfl⟩
        have HSS := Lib.hid hs
        rw [hs] at sa hkey hcs
        obtain ⟨s0, s1, s2, s3, s4, s5, _⟩ := sa
        have hal : Below wr.heap.size wr (wr.alloc (.cells (secC s).toArray 26)) := (Below.refl _ wr).alloc (Nat.le_refl _) _
        have hx0 := Blk.new wr 26 (secC s).toArray
        have HR := Lib.hid (right_any s.digest s.account s.purpose s.channel s.expires s.tries hcs (wr.alloc (.cells (secC s).toArray 26)) (HMX.out.below (HB.out.trans (hal.mono HB.out.size))))
        rw [sec_row] at hal hx0 HR
        change Hid (Calls _ _ #[.agg #[.string s.digest, .int .i64 s.account, .int .i64 s.purpose, .string s.channel, .int .i64 s.expires, .int .i64 s.tries]] _ fun e w' => e = .returned (.bool (rightS s)) ∧ _) at HR
        have HX0 := Lib.hid hx0
        have HBA := Lib.hid (HB.out.trans (hal.mono HB.out.size))
        have HKA := Lib.hid (show KM _ w.heap.size k D from HKM.out.alloc (.cells #[.string s.digest, .int .i64 s.account, .int .i64 s.purpose, .string s.channel, .int .i64 s.expires, .int .i64 s.tries] 26))
        have HKY := Lib.hid hkey
        obtain ⟨R, hR⟩ : ∃ R, rightS s = R := ⟨_, rfl⟩
        rw [hR] at HR
        have HRR := Lib.hid hR
        clear hs hal hx0 hkey hR
        cases R with
        | false =>
          have HCB := Lib.hid (show checkB l = false from check_bad k hlt (by rw [HSS.out]; exact HRR.out))
          go_wp2_with fail
          refine HR.out.mono ?_
          rintro e w1 ⟨rfl, hb⟩
          have HB1 := Lib.hid (HBA.out.trans (hb.mono HBA.out.size))
          clear hb
          go_wp2_with fail
          go_ret
          exact ⟨congrArg (fun z => Ending.returned (.bool z)) HCB.out.symm, HB1.out⟩
        | true =>
          go_wp2_with fail
          refine HR.out.mono ?_
          rintro e w1 ⟨rfl, hb⟩
          have HB1 := Lib.hid (HBA.out.trans (hb.mono HBA.out.size))
          have HX1 := Lib.hid (HX0.out.of (hb.block _ HX0.out.lt))
          have HK1 := Lib.hid (show KM w1 w.heap.size k D from by
            obtain ⟨es, cl, h1, h2, h3, h4⟩ := HKA.out
            exact ⟨es, cl, (hb.block _ HKA.out.lt).trans h1, h2, h3, h4⟩)
          clear hb
          go_upto_region 9 with fail
          generalize wr.heap.size = g5 at HX1 ⊢
          obtain ⟨gb, hgb⟩ : ∃ b, w.heap.size = b := ⟨_, rfl⟩
          rw [hgb] at HK1
          simp only [hgb]
          have HGB := Lib.hid HK1.out.lt
          have hnk : k < maxLen := by unfold maxLen; omega
          obtain ⟨kl, hkl⟩ : ∃ kl, K s.key = kl := ⟨_, rfl⟩
          rw [hkl] at HKY
          have HKE := Lib.hid (fun W => key_any s W)
          have HN5 : Hid (¬ g5 = gb) := Lib.hid (fun e => by
            obtain ⟨es, cl, h1, _⟩ := HK1.out
            have h2 := HX1.out
            rw [e] at h2
            have h3 := h1.symm.trans h2
            injection h3 with h3
            cases h3)
          clear s0 s1 s2 s3 s4 s5
          refine wp_region_some (by kernel_rfl) (fun i v _ => Vq8 s gb i v) (fun listed x W => Gm gb k kl (keyV s.key) D w1 5 6 7 24 25 listed x W) (fun _ _ => True) (by kernel_rfl) (by kernel_rfl) 32 rfl (by kernel_rfl) (fun _ _ _ _ h _ => by exact h) (fun _ => trivial) (by exact Gm.start HK1.out 8 _) ?_ ?_
          · intro i o ho listed x W hs hdep hun hg hk
            match i, ho with
            | 0, ho =>
              cases ho
              have q3 : x.tmps[3]?.getD undef = .map (some gb) := hk.fix 3 (by kernel_rfl)
              refine .inl ⟨wanted_plain rfl, ?_⟩
              refine wp_value (v := .map (some gb)) (w' := W) ?_ ⟨_, rfl, rfl, trivial, hg.quiet 0 (by decide) (by decide) (by decide) (some 19) (by decide) (by decide) _⟩
              go_simp
            | 1, ho =>
              cases ho
              have q5 : x.tmps[5]?.getD undef = .pointer (some ⟨g5, 0, none⟩) := hk.fix 5 (by kernel_rfl)
              refine .inl ⟨wanted_plain rfl, ?_⟩
              have hbx := HX1.out.of (hg.kept.block _ HX1.out.lt HN5.out)
              refine wp_value (run_load_op _ _ rfl _ ((eval_slot x 5).trans q5) _ _ hbx _ Tryz.underlying26 rfl sec_size) ⟨_, rfl, rfl, trivial, hg.quiet 1 (by decide) (by decide) (by decide) (some 20) (by decide) (by decide) _⟩
            | 2, ho =>
              cases ho
              have q20 : x.tmps[20]?.getD undef = .agg #[.string s.digest, .int .i64 s.account, .int .i64 s.purpose, .string s.channel, .int .i64 s.expires, .int .i64 s.tries] := hk.dep 1 20 (by kernel_rfl) (by kernel_rfl)
              refine .inl ⟨wanted_plain rfl, ?_⟩
              refine wp_enter (f := 38) (args := #[.agg #[.string s.digest, .int .i64 s.account, .int .i64 s.purpose, .string s.channel, .int .i64 s.expires, .int .i64 s.tries]]) (w' := W) (S := fun v w1 => v = .agg #[.int .i64 s.account, .int .i64 s.purpose, .string s.channel] ∧ Below W.heap.size W w1) ?_ ((HKE.out W).mono fun e w' h => ⟨_, h.1, rfl, h.2⟩) ?_
              · go_simp
              · rintro v W' ⟨rfl, hb⟩
                exact ⟨_, rfl, rfl, trivial, hg.calls HGB.out hb 2 (by decide) (by decide) (by decide) (some 21) (by decide) (by decide) _⟩
            | 3, ho =>
              cases ho
              have q19 : x.tmps[19]?.getD undef = .map (some gb) := hk.dep 0 19 (by kernel_rfl) (by kernel_rfl)
              have q21 : x.tmps[21]?.getD undef = .agg #[.int .i64 s.account, .int .i64 s.purpose, .string s.channel] := hk.dep 2 21 (by kernel_rfl) (by kernel_rfl)
              refine .inl ⟨wanted_plain rfl, ?_⟩
              obtain ⟨c, hlk, hwc⟩ := hg.look HKY.out
              refine wp_value (v := .int .i64 c) (w' := W) ?_ ⟨_, rfl, ⟨c, rfl, hwc⟩, trivial, hg.quiet 3 (by decide) (by decide) (by decide) (some 22) (by decide) (by decide) _⟩
              unfold keyV Va.Sec.key at hlk
              go_simp
            | 4, ho =>
              cases ho
              refine .inl ⟨wanted_plain rfl, ?_⟩
              obtain ⟨c, q22, hwc⟩ : ∃ c, x.tmps[22]?.getD undef = .int .i64 c ∧ (Lit.int .i64 c).wf = true := hk.dep 3 22 (by kernel_rfl) (by kernel_rfl)
              refine wp_value (v := .int .i64 (IntKind.i64.wrap (c + 1))) (w' := W) ?_ ⟨_, rfl, ⟨_, rfl, wrap_wf _⟩, trivial, hg.quiet 4 (by decide) (by decide) (by decide) (some 23) (by decide) (by decide) _⟩
              go_simp
            | 5, ho =>
              cases ho
              have q19 : x.tmps[19]?.getD undef = .map (some gb) := hk.dep 0 19 (by kernel_rfl) (by kernel_rfl)
              have q21 : x.tmps[21]?.getD undef = .agg #[.int .i64 s.account, .int .i64 s.purpose, .string s.channel] := hk.dep 2 21 (by kernel_rfl) (by kernel_rfl)
              refine .inl ⟨wanted_plain rfl, ?_⟩
              obtain ⟨u, w8, hen, hgm⟩ := hg.entry hnk HKY.out hun (by rw [hs]; decide) (by decide) (by decide) (Nat.lt_of_lt_of_eq (by decide : 24 < 32) (hk.size.trans rfl).symm)
              refine wp_value (v := u) (w' := w8) ?_ ⟨_, rfl, .inl trivial, trivial, hgm⟩
              unfold keyV Va.Sec.key at hen
              go_simp
            | 6, ho =>
              cases ho
              refine .inl ⟨wanted_plain rfl, ?_⟩
              obtain ⟨c0, st, q24, hgm⟩ := hg.extract (hdep 5 (by kernel_rfl)) hun (by rw [hs]; decide) (by decide) (by decide) (by decide) (Nat.lt_of_lt_of_eq (by decide : 25 < 32) (hk.size.trans rfl).symm)
              refine wp_value (v := goInt st) (w' := W) ?_ ⟨_, rfl, .inl trivial, trivial, hgm⟩
              go_simp
            | 7, ho =>
              cases ho
              have q19 : x.tmps[19]?.getD undef = .map (some gb) := hk.dep 0 19 (by kernel_rfl) (by kernel_rfl)
              refine .inl ⟨wanted_plain rfl, ?_⟩
              obtain ⟨c, q23, hwc⟩ : ∃ c, x.tmps[23]?.getD undef = .int .i64 c ∧ (Lit.int .i64 c).wf = true := hk.dep 4 23 (by kernel_rfl) (by kernel_rfl)
              obtain ⟨st, w8, q25, hst, hgm⟩ := hg.store (hdep 6 (by kernel_rfl)) hun (by rw [hs]; decide) (by decide) (by decide) c hwc undef
              refine wp_skip (w' := w8) ?_ ⟨undef, rfl, .inl trivial, trivial, hgm⟩
              simp only [goInt] at hst q25
              go_simp
            | _ + 8, ho => cases ho
          intro listed x w4 hall hg hk
          have e19 : x.tmps[19]?.getD undef = .map (some gb) := hk.last 0 19 (by decide) (by kernel_rfl)
          have e20 : x.tmps[20]?.getD undef = .agg #[.string s.digest, .int .i64 s.account, .int .i64 s.purpose, .string s.channel, .int .i64 s.expires, .int .i64 s.tries] := hk.last 1 20 (by decide) (by kernel_rfl)
          have e21 : x.tmps[21]?.getD undef = .agg #[.int .i64 s.account, .int .i64 s.purpose, .string s.channel] := hk.last 2 21 (by decide) (by kernel_rfl)
          obtain ⟨z24, hz24⟩ : ∃ z, x.tmps[24]?.getD undef = z := ⟨_, rfl⟩
          obtain ⟨z25, hz25⟩ : ∃ z, x.tmps[25]?.getD undef = z := ⟨_, rfl⟩
          obtain ⟨z22, hz22⟩ : ∃ z, x.tmps[22]?.getD undef = z := ⟨_, rfl⟩
          obtain ⟨z23, hz23⟩ : ∃ z, x.tmps[23]?.getD undef = z := ⟨_, rfl⟩
          have hkp := Lib.hid hg.kept
          have hfin := hg.fin (hall 7 (by decide))
          have hx := hk.act [19, 20, 21, 22, 23, 24, 25] (by kernel_rfl)
          clear hk hg hall
          simp only [List.foldl_cons, List.foldl_nil, e19, e20, e21, hz24, hz25, hz22, hz23] at hx
          clear e19 e20 e21 hz24 hz25 hz22 hz23
          subst hx
          simp only [Act.put, List.setIfInBounds_toArray, List.set_cons_succ, List.set_cons_zero]
          obtain ⟨c, hkm⟩ := hfin
          have HKM4 := Lib.hid hkm
          have HB4 := Lib.hid (Kept.below HB1.out hkp.out (fun q h => by rw [h, hgb]; exact Nat.le_refl _) HB1.out.size)
          have hmore := HS.out.more hlt (HK1.out.tidy keyed) HINJ.out HLIT.out (.lit (.int .i64 c))
          rw [HSS.out, hkl] at hmore
          have HMO := Lib.hid hmore
          clear hmore hkm hkp
          subst hgb
          go_wp2_with fail
          go_roundw
          case rel => exact ⟨k + 1, _, by go_num, by omega, HMO.out, fun j hj1 hj2 => by
            rcases Nat.lt_or_ge j k with h | h
            · exact HRI.out j hj1 h
            · have e : j = k := by omega
              subst e
              rw [HSS.out]
              exact HRR.out, HKM4.out, HB4.out⟩
          case measure => simp [intOf]; omega
      · obtain rfl : k = l.length := by omega
        have hlen := fun ty => HKM.out.len (w := wr) Tryz.underlying96 ty
        have hn := HS.out.nod
        rw [List.take_length] at hn
        replace hn : Maps.size D = l.length ↔ Rw.Uniq Va.Sec.key l := hn
        have hall : l.all rightS = true := by
          rw [List.all_eq_true]
          intro x hx
          obtain ⟨j, hj, rfl⟩ := List.mem_iff_getElem.1 hx
          exact HRI.out j hj hj
        have HCB := Lib.hid (show checkB l = ((Maps.size D : Int) == (l.length : Int)) from by
          unfold checkB
          rw [hall, decide_eq_true (show l.length ≤ 40 by omega), Bool.and_true, Bool.true_and]
          by_cases h : Maps.size D = l.length
          · rw [decide_eq_true (hn.1 h), h]; simp
          · rw [decide_eq_false (fun h2 => h (hn.2 h2))]
            symm
            exact beq_eq_false_iff_ne.2 (by omega))
        clear hn hall
        generalize Maps.size D = z at hlen HCB
        go_wp2_with fail
        go_ret
        exact ⟨congrArg (fun z => Ending.returned (.bool z)) HCB.out.symm, HB.out⟩
end Go.Proofs.YtfjdcopndkdbmaaGreatDoor
