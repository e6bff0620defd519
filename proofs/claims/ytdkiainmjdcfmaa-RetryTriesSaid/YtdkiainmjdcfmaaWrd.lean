/-
  Words for memory and texts, for every later layer: rows of values that lie in memory, texts as lists of bytes, appends that say where the new row lies, conversions, comparisons; how slices of texts and numbers that came in are laid out as lists. They stand for every program of a seat that has the types string and uint8. No condition.
-/
import Derived.Test.YtdkiainmjdcfmaaRows
import Derived.Test.YtdkiainmjdcfmaaMem
import Derived.Test.YtdkiainmjdcfmaaOpen
import Derived.RegionTactic
import Derived.ChangeAlike
import Derived.IntWalk
import Derived.WalkLawsBesides
import Derived.Lib.AppendStr
import Derived.Deep.QuietTactic
import Derived.BigQuiet
namespace Go.Proofs.Ytdkiainmjdcfmaa
open Go.RowKit

theorem info_parts {P : Program} {t : TypeId} {z : Value} {s b : Nat} (h : (P.info? t).map (fun i => (i.zero, i.size, i.bytes)) = some (some z, s, b)) : ∃ i, P.info? t = some i ∧ i.zero = some z ∧ i.size = s ∧ i.bytes = b := by
  cases hq : P.info? t with
  | none => simp [hq] at h
  | some i =>
    simp [hq] at h
    exact ⟨i, rfl, h.1, h.2.1, h.2.2⟩
theorem info_u8 : ∃ i, Try.prog.info? 5 = some i ∧ i.zero = some (.int .u8 0) ∧ i.size = 1 ∧ i.bytes = 1 := info_parts (by kernel_rfl)
theorem info_str : ∃ i, Try.prog.info? 9 = some i ∧ i.zero = some (.string ⟨#[]⟩) ∧ i.size = 1 ∧ i.bytes = 16 := info_parts (by kernel_rfl)

section
variable {P : Program}
/-- A text appended to a row of bytes: where it lies. -/
theorem run_append_text (w : World) (t u ty e : TypeId) (i : TypeInfo) (ht : P.underlying t = some (.slice e)) (hu : P.underlying u = some .string) (hi : P.info? e = some i) (hz : i.zero = some (.int .u8 0)) (hsize : i.size = 1) (hby : i.bytes = 1)
    (v : Value) (n : Nat) (xs : List Value) (hown : w.ownsRow 0 e 1 v n xs) (s : ByteArray) (hn : n + s.size ≤ 140737488355328) :
    ∃ A c w', (Builtin.append_ #[t, u] ty #[v, .string s]).run P w = .ok (.slice A (n + s.size) c) w' ∧ w'.ownsRow 0 e 1 (.slice A (n + s.size) c) (n + s.size) (xs ++ cb s.data.toList) ∧ w.grownBy w' v.ownBlock ∧
      ∀ k, (Value.slice A (n + s.size) c).ownBlock = some k → v.ownBlock = some k ∨ w.heap.size ≤ k := by
  have hform : ∀ {w' : World} {v' : Value} {m : Nat} {ys : List Value} {base : Nat}, w'.ownsRow base e 1 v' m ys → ∃ A c, v' = .slice A m c := fun h => by
    rcases h.2 with ⟨rfl, rfl⟩ | ⟨g, cap, cur, rfl, _⟩
    · exact ⟨_, _, rfl⟩
    · exact ⟨_, _, rfl⟩
  rcases hown.2 with ⟨hv, h0⟩ | ⟨g, cap, cur, hv, hbg, hg, hnc, hcm, hcs, htake⟩
  · subst hv; subst h0
    have hx : xs = [] := List.eq_nil_of_length_eq_zero (by simpa using hown.1)
    subst hx
    obtain ⟨v', w', hr, h1, h2, _⟩ := Lib.run_append_own_string (P := P) w w.heap.size t u ty e i ht hu hi hz hsize hby _ 0 [] (World.ownsRow_nil w _ e 1) s (by unfold maxLen; omega) (by omega) (Nat.le_refl _)
    obtain ⟨A, c, rfl⟩ := hform h1
    refine ⟨A, c, w', hr, ?_, h2, fun k hk => .inr ?_⟩
    · refine ⟨h1.1, ?_⟩
      rcases h1.2 with h | ⟨g, cap, cur, a, b, r⟩
      · exact .inl h
      · exact .inr ⟨g, cap, cur, a, Nat.zero_le _, r⟩
    · rcases h1.2 with ⟨h, _⟩ | ⟨g, cap, cur, a, b, r⟩
      · rw [h] at hk; cases hk
      · rw [a] at hk
        have : g = k := by simpa [Value.ownBlock] using hk
        omega
  · obtain ⟨v', w', hr, h1, h2, _⟩ := Lib.run_append_own_string (P := P) w 0 t u ty e i ht hu hi hz hsize hby v n xs hown s (by unfold maxLen; omega) (by omega) (Nat.zero_le _)
    subst hv
    have hcs' : cur.size = cap := by simpa using hcs
    have hxl : xs.length = n := by simpa using hown.1
    by_cases hroom : n + s.size ≤ cap
    · have hr2 := Lib.run_append_room_string (P := P) w t u ty e i ht hu hi hsize g n cap cur hg s hroom (by omega)
      rw [hr2] at hr
      injection hr with e1 e2
      subst e1; subst e2
      exact ⟨_, _, _, hr2, h1, h2, fun k hk => .inl hk⟩
    · have holds : ∀ j u, xs[j]? = some u → w.cell? ((⟨g, 0, none⟩ : Addr).add j) = some u := hown.cells (g := g) rfl
      have hr2 := Lib.run_append_grow_string (P := P) w t u ty e i (.int .u8 0) ht hu hi hz ⟨g, 0, none⟩ n cap xs (by rw [hsize]; simpa using hxl) holds s (by omega) (by omega) (by rw [hby]; exact growslice_fits (by omega) (by omega))
      rw [hr2] at hr
      injection hr with e1 e2
      subst e1; subst e2
      refine ⟨_, _, _, hr2, h1, h2, fun k hk => .inr ?_⟩
      have : w.heap.size = k := by simpa [Value.ownBlock] using hk
      omega
end

/-- An append whose run is known, at the list of operations. -/
theorem wpList_append_run {P : Program} {w w' : World} {ops : Array Oper} {rest : List Oper} {o : Oper} {a : Act} {Q : Exit → Act → World → Prop} (hgd : o.guard = none) (s x : Operand) (t u : TypeId)
    (ho : o.op = .call { callee := .builtin .append, args := #[s, x], argTypes := #[t, u] }) (v y v' : Value) (hs : a.eval s = v) (hx : a.eval x = y)
    (hr : (Builtin.append_ #[t, u] o.type #[v, y]).run P w = .ok v' w') (h : wpList P ops Q rest (a.put o.dst v') w') : wpList P ops Q (o :: rest) a w := by
  refine wpList_plain hgd fun K hK => ?_
  unfold Oper.wp execOp
  simp only [ho, resolve, invoke, builtin, Sem.run_bind, Sem.run_pure, Result.andThen_ok, List.map_toArray, List.map_cons, List.map_nil, hs, hx, hr]
  exact hK _ _ h

/-- A row of values that lies in memory, off some blocks. -/
def Lies (S : Nat → Prop) (w : World) (A : Option Addr) (vs : List Value) : Prop := ∀ i u, vs[i]? = some u → ∃ a, A = some a ∧ a.block < w.heap.size ∧ ¬ S a.block ∧ w.cell? (a.add i) = some u
theorem add_block (a : Addr) (i : Nat) : (a.add i).block = a.block := by unfold Addr.add; split <;> rfl
section
variable {S T : Nat → Prop} {w w' : World} {A : Option Addr} {vs : List Value}
theorem Lies.kept (h : Lies S w A vs) (hk : Kept S w w') : Lies S w' A vs := fun i u hi => by
  obtain ⟨a, h1, h2, h3, h4⟩ := h i u hi
  refine ⟨a, h1, Nat.lt_of_lt_of_le h2 hk.size, h3, ?_⟩
  rw [← h4]
  exact World.cell?_of_block (by rw [add_block]; exact hk.block _ h2 h3)
theorem Lies.mono (h : Lies S w A vs) (hT : ∀ k, k < w.heap.size → T k → S k) : Lies T w A vs := fun i u hi => by
  obtain ⟨a, h1, h2, h3, h4⟩ := h i u hi
  exact ⟨a, h1, h2, fun ht => h3 (hT _ h2 ht), h4⟩
theorem Lies.below (h : Lies S w A vs) (hb : Below w.heap.size w w') : Lies S w' A vs := h.kept (Kept.of_below hb)
theorem Lies.none (w : World) (A : Option Addr) : Lies S w A [] := fun i u hi => by simp at hi
/-- A row that a call has made. -/
theorem Lies.own {base n : Nat} {e : TypeId} {c : Nat} (h : w.ownsRow base e 1 (.slice A n c) n vs) (hS : ∀ g, A = some ⟨g, 0, .none⟩ → base ≤ g → ¬ S g) : Lies S w A vs := fun i u hi => by
  have hlen := h.1
  have hi' := (List.getElem?_eq_some_iff.1 hi).1
  rcases h.2 with ⟨_, h0⟩ | ⟨g, cap, cur, hv, hb, hh, _⟩
  · omega
  · have : A = some ⟨g, 0, .none⟩ := by injection hv
    subst this
    refine ⟨_, rfl, Blk.lt (t := e) (cs := cur) hh, hS g rfl hb, ?_⟩
    exact h.cells (g := g) rfl i u hi
end
def cn (l : List Nat) : List Value := l.map fun n : Nat => .int .u64 (n : Int)
def cs (l : List ByteArray) : List Value := l.map .string
def tx (l : List ByteArray) : List (List UInt8) := l.map fun s => s.data.toList
theorem cn_get (l : List Nat) (i : Nat) (h : i < l.length) : (cn l)[i]? = some (.int .u64 (l[i] : Int)) := by simp [cn, h]
theorem cs_get (l : List ByteArray) (i : Nat) (h : i < l.length) : (cs l)[i]? = some (.string l[i]) := by simp [cs, h]
theorem take_more {α : Type} (l : List α) (i : Nat) (h : i < l.length) : l.take (i + 1) = l.take i ++ [l[i]] := by simp

/-- One value in a block of its own. -/
theorem Lies.one {S : Nat → Prop} (w : World) (t : TypeId) (u : Value) (hS : ∀ k, S k → k < w.heap.size) : Lies S (w.alloc (.cells #[u] t)) (some ⟨w.heap.size, 0, .none⟩) [u] := by
  intro i x hi
  have hi' := (List.getElem?_eq_some_iff.1 hi).1
  have : i = 0 := by simp at hi'; omega
  subst this
  refine ⟨_, rfl, by simp, fun hf => by have := hS _ hf; simp at this, ?_⟩
  rw [show (⟨w.heap.size, 0, .none⟩ : Addr).add 0 = ⟨w.heap.size, 0, .none⟩ from rfl, (Blk.new w t _).cell]
  simpa using hi

def ba (l : List UInt8) : ByteArray := ⟨l.toArray⟩
theorem ba_list (l : List UInt8) : (ba l).data.toList = l := by simp [ba]
theorem ba_back (s : ByteArray) : ba s.data.toList = s := by simp [ba]
theorem ba_size (l : List UInt8) : (ba l).size = l.length := by simp [ba, ByteArray.size]
theorem ba_append (a b : List UInt8) : ba a ++ ba b = ba (a ++ b) := by
  apply ByteArray.ext
  simp [ba]
theorem ba_inj {a b : List UInt8} (h : ba a = ba b) : a = b := by
  have := congrArg (fun s : ByteArray => s.data.toList) h
  simpa [ba] using this

theorem own_form {w : World} {base n : Nat} {e : TypeId} {v : Value} {xs : List Value} (h : w.ownsRow base e 1 v n xs) : ∃ A c, v = .slice A n c := by
  rcases h.2 with ⟨rfl, rfl⟩ | ⟨g, cap, cur, rfl, _⟩
  · exact ⟨_, _, rfl⟩
  · exact ⟨_, _, rfl⟩
theorem cell_on {w w' : World} (h : Below w.heap.size w w') (z : Int) : ∀ g, w.cell? ⟨g, 0, none⟩ = some (.int .u8 z) → w'.cell? ⟨g, 0, none⟩ = some (.int .u8 z) := fun g hg => by
  rcases Nat.lt_or_ge g w.heap.size with hlt | hge
  · rw [h.cell (p := ⟨g, 0, none⟩) hlt, hg]
  · simp [World.cell?, Array.getElem?_eq_none hge] at hg
/-- A text of at most n bytes. -/
def cut (s : ByteArray) (n : Nat) : ByteArray := if n < s.size then s.extract 0 n else s
theorem cut_size (s : ByteArray) (n : Nat) : (cut s n).size ≤ n := by
  unfold cut
  split
  · simp; omega
  · omega
theorem own_base {w : World} {base : Nat} {e : TypeId} {size n : Nat} {v : Value} {xs : List Value} (h : w.ownsRow base e size v n xs) {b : Nat} (hb : v.ownBlock = some b) : base ≤ b := by
  rcases h.2 with ⟨rfl, _⟩ | ⟨g', cap, cur, rfl, hl, _⟩
  · simp [Value.ownBlock] at hb
  · have : g' = b := by simpa [Value.ownBlock] using hb
    omega
theorem exists_list {α : Type} {n : Nat} {P : Nat → α → Prop} (h : ∀ i, i < n → ∃ s, P i s) : ∃ l : List α, l.length = n ∧ ∀ i (hi : i < l.length), P i l[i] := by
  refine ⟨List.ofFn fun i : Fin n => (h i.1 i.2).choose, by simp, fun i hi => ?_⟩
  rw [List.getElem_ofFn]
  exact (h i (by simpa using hi)).choose_spec

theorem str_beq (x y : ByteArray) : (x.toList == y.toList) = decide (x = y) := by
  rw [ByteArray.toList_eq, ByteArray.toList_eq, Bool.eq_iff_iff, beq_iff_eq, decide_eq_true_iff]
  constructor
  · intro h
    exact ByteArray.ext (Array.toList_inj.1 h)
  · rintro rfl
    rfl
theorem str_ne {x y : ByteArray} (h : x ≠ y) : (x.toList == y.toList) = false := by rw [str_beq, decide_eq_false h]
theorem below_drewN {B : Nat} {a b : World} (h : Below B a b) (n : Nat) : Below B a (b.drewN n) := ⟨h.os, h.tape, h.output, h.size, h.block⟩
theorem ext_drop (s : ByteArray) (k : Nat) : s.extract k s.size = ba (s.data.toList.drop k) := by
  have : (s.extract k s.size).data.toList = s.data.toList.drop k := by
    have e : s.data.toList.length = s.size := by simp
    simp
    apply List.take_of_length_le
    simp
  rw [← ba_back (s.extract k s.size), this]
theorem ext_take (s : ByteArray) (k : Nat) : s.extract 0 k = ba (s.data.toList.take k) := by
  have : (s.extract 0 k).data.toList = s.data.toList.take k := by
    simp
  rw [← ba_back (s.extract 0 k), this]
theorem tx_ba (l : List ByteArray) : (tx l).map ba = l := by
  unfold tx
  rw [List.map_map]
  conv => rhs; rw [← List.map_id l]
  apply List.map_congr_left
  intro s _
  exact ba_back s
theorem lies_off {S : Nat → Prop} {w2 wi : World} {A : Option Addr} {vs : List Value} (h : Lies (fun _ => False) w2 A vs) (hb : Below w2.heap.size w2 wi) (hf : ∀ k, S k → w2.heap.size ≤ k) : Lies S wi A vs := fun i u hi => by
  obtain ⟨a, h1, h2, _, h4⟩ := h i u hi
  refine ⟨a, h1, Nat.lt_of_lt_of_le h2 hb.size, fun hs => by have := hf _ hs; omega, ?_⟩
  rw [← h4]
  exact World.cell?_of_block (by rw [add_block]; exact hb.block _ h2)
theorem bounds_int {x : Int} (h : (Lit.int .i64 x).wf = true) : -9223372036854775808 ≤ x ∧ x ≤ 9223372036854775807 := by
  simpa [Lit.wf, IntKind.min, IntKind.max, IntKind.signed, IntKind.bits] using h
theorem bounds_u64 {x : Int} (h : (Lit.int .u64 x).wf = true) : ∃ n : Nat, x = (n : Int) ∧ n ≤ 18446744073709551615 := by
  have h' : 0 ≤ x ∧ x ≤ 18446744073709551615 := by simpa [Lit.wf, IntKind.min, IntKind.max, IntKind.signed, IntKind.bits] using h
  exact ⟨x.toNat, by omega, by omega⟩
theorem bounds_u8 {x : Int} (h : (Lit.int .u8 x).wf = true) : ∃ n : Nat, x = (n : Int) ∧ n ≤ 255 := by
  have h' : 0 ≤ x ∧ x ≤ 255 := by simpa [Lit.wf, IntKind.min, IntKind.max, IntKind.signed, IntKind.bits] using h
  exact ⟨x.toNat, by omega, by omega⟩
section
open Go.ChangeShapes Go.WideShapes Go.ChangeAt
theorem opened_texts {W : World} {v : Value} (h : ∃ (A : Option Addr) (n c : Nat), v = .slice A n c ∧ n ≤ maxLen ∧ ∀ i, i < n → ∃ s : ByteArray, ∃ a, A = some a ∧ a.block < W.heap.size ∧ s.size ≤ maxLen ∧ W.cell? (a.add i) = some (.string s)) :
    ∃ (A : Option Addr) (c : Nat) (l : List ByteArray), v = .slice A l.length c ∧ l.length ≤ maxLen ∧ (∀ s ∈ l, s.size ≤ maxLen) ∧ Lies (fun _ => False) W A (cs l) := by
  obtain ⟨A, n, c, rfl, hn, hel⟩ := h
  obtain ⟨l, rfl, hl⟩ := exists_list hel
  refine ⟨A, c, l, rfl, hn, fun s hs => ?_, fun i u hi => ?_⟩
  · obtain ⟨i, hi, rfl⟩ := List.mem_iff_getElem.1 hs
    obtain ⟨a, _, _, h3, _⟩ := hl i hi
    exact h3
  · have hi' := (List.getElem?_eq_some_iff.1 hi).1
    have hi2 : i < l.length := by simpa [cs] using hi'
    obtain ⟨a, h1, h2, _, h4⟩ := hl i hi2
    rw [cs_get l i hi2] at hi
    exact ⟨a, h1, h2, fun hf => hf, by rw [h4, hi]⟩
theorem opened_nums {H : Type} {enc : TypeId × Value → H} {P : Program} {W : World} {base : Nat} {held : Bool} {e : TypeId} {v : Value}
    (h : ∃ (A : Option Addr) (n c : Nat), v = .slice A n c ∧ n ≤ maxLen ∧ ∀ i, i < n → ∃ (a : Addr) (cs : List Value) (fuel : Nat) (x : DataW H × List MemPlace), A = some a ∧ a.block < W.heap.size ∧ cs.length = 1 ∧ (∀ j, j < 1 → W.cell? ((a.add (i * 1)).add j) = cs[j]?) ∧
      DataW.trod enc P W base (fun _ => true) held fuel e cs = some x) (he : P.underlying e = some (.int .u64)) :
    ∃ (A : Option Addr) (c : Nat) (l : List Nat), v = .slice A l.length c ∧ l.length ≤ maxLen ∧ (∀ n ∈ l, n ≤ 18446744073709551615) ∧ Lies (fun _ => False) W A (cn l) := by
  obtain ⟨A, n, c, rfl, hn, hel⟩ := h
  have hel2 : ∀ i, i < n → ∃ z : Nat, z ≤ 18446744073709551615 ∧ ∃ a, A = some a ∧ a.block < W.heap.size ∧ W.cell? (a.add i) = some (.int .u64 (z : Int)) := by
    intro i hi
    obtain ⟨a, cs, fuel, x, hA, hb, hl, hc, htr⟩ := hel i hi
    obtain ⟨z, rfl, _, hz⟩ := DataW.trod_int he htr
    obtain ⟨n, rfl, hn⟩ := bounds_u64 hz
    have := hc 0 (by omega)
    have h0 : (a.add (i * 1)).add 0 = a.add i := by rw [Nat.mul_one]; rfl
    rw [h0] at this
    exact ⟨n, hn, a, hA, hb, this⟩
  obtain ⟨l, rfl, hl⟩ := exists_list hel2
  refine ⟨A, c, l, rfl, hn, fun s hs => ?_, fun i u hi => ?_⟩
  · obtain ⟨i, hi, rfl⟩ := List.mem_iff_getElem.1 hs
    exact (hl i hi).1
  · have hi' := (List.getElem?_eq_some_iff.1 hi).1
    have hi2 : i < l.length := by simpa [cn] using hi'
    obtain ⟨_, a, h1, h2, h4⟩ := hl i hi2
    rw [cn_get l i hi2] at hi
    exact ⟨a, h1, h2, fun hf => hf, by rw [h4, hi]⟩
/-- A slice's length is within its room. -/
theorem open_cap {H : Type} {enc : TypeId × Value → H} {P : Program} {W : World} {base : Nat} {held : Bool} {t e : TypeId} {A : Option Addr} {n c : Nat} {d : DataW H} {ps : List MemPlace}
    (ht : P.underlying t = some (.slice e)) (h : DataW.Trod enc P W base (fun _ => true) held t (.slice A n c) d ps) : n ≤ c := by
  obtain ⟨fuel, hf⟩ := h
  rcases Go.Deep.open_slice ht hf with ⟨hcs, _⟩ | ⟨a, len', cap', m, n', D, Pl, hcs, _, hl, _⟩
  · simp [Value.cells] at hcs
    omega
  · simp [Value.cells] at hcs
    obtain ⟨_, rfl, rfl⟩ := hcs
    exact hl
end
end Go.Proofs.Ytdkiainmjdcfmaa
