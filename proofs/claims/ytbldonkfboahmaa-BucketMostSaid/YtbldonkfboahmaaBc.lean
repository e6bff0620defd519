/-
  Rows of buckets in memory: a bucket's three cells, a row of them that lies somewhere, one element of it, rows appended to a row that a call has made, cuts. No condition.
-/
import Derived.Deep.MidRow
import Derived.Test.YtbldonkfboahmaaWrd
namespace Go.Proofs.Ytbldonkfboahmaa
open Go.RowKit

/-- A bucket as it lies in memory. -/
structure Bu where
  key : ByteArray
  left : Int
  at_ : Int
def buC (s : Bu) : List Value := [.string s.key, .int .i64 s.left, .int .i64 s.at_]
/-- A row's cells. -/
def bus (l : List Bu) : List Value := l.flatMap buC
theorem bus_nil : bus [] = [] := rfl
theorem bus_cons (s : Bu) (l : List Bu) : bus (s :: l) = buC s ++ bus l := by simp [bus]
theorem bus_append (l m : List Bu) : bus (l ++ m) = bus l ++ bus m := by simp [bus]
theorem bus_one (s : Bu) : bus [s] = buC s := by simp [bus]
theorem bus_length (l : List Bu) : (bus l).length = l.length * 3 := by
  induction l with
  | nil => rfl
  | cons s l ih => rw [bus_cons, List.length_append, ih, List.length_cons]; show 3 + l.length * 3 = _; omega
theorem bus_cell (l : List Bu) : ∀ u ∈ bus l, u.oneCell' = true := by
  intro u hu
  obtain ⟨s, _, h⟩ := List.mem_flatMap.1 hu
  simp only [buC, List.mem_cons, List.not_mem_nil, or_false] at h
  rcases h with rfl | rfl | rfl <;> rfl
theorem buC_cell (s : Bu) : ∀ u ∈ buC s, u.oneCell' = true := fun u hu => bus_cell [s] u (by rw [bus_one]; exact hu)
theorem bus_get (l : List Bu) (i k : Nat) (hi : i < l.length) (hk : k < 3) : (bus l)[i * 3 + k]? = (buC l[i])[k]? := by
  induction l generalizing i with
  | nil => simp at hi
  | cons s l ih =>
    rw [bus_cons]
    cases i with
    | zero =>
      rw [Nat.zero_mul, Nat.zero_add, List.getElem?_append_left (by show k < 3; exact hk)]
      rfl
    | succ i =>
      rw [List.getElem?_append_right (by show 3 ≤ _; omega), show (i + 1) * 3 + k - (buC s).length = i * 3 + k by show _ - 3 = _; omega, ih i (by simpa using hi)]
      rfl
theorem bus_take (l : List Bu) (n : Nat) : bus (l.take n) = (bus l).take (n * 3) := by
  induction l generalizing n with
  | nil => simp [bus]
  | cons s l ih =>
    cases n with
    | zero => simp [bus]
    | succ n =>
      rw [List.take_succ_cons, bus_cons, bus_cons, ih, List.take_append, show (buC s).length = 3 from rfl, List.take_of_length_le (l := buC s) (by show 3 ≤ (n + 1) * 3; omega), show (n + 1) * 3 - 3 = n * 3 by omega]
theorem bus_drop (l : List Bu) (n : Nat) : bus (l.drop n) = (bus l).drop (n * 3) := by
  induction l generalizing n with
  | nil => simp [bus]
  | cons s l ih =>
    cases n with
    | zero => simp [bus]
    | succ n =>
      rw [List.drop_succ_cons, bus_cons, ih, List.drop_append, show (buC s).length = 3 from rfl, show (buC s).drop ((n + 1) * 3) = [] from List.drop_eq_nil_of_le (by show 3 ≤ (n + 1) * 3; omega), show (n + 1) * 3 - 3 = n * 3 by omega, List.nil_append]
/-- One bucket at an address. -/
structure BuAt (W : World) (p : Addr) (s : Bu) : Prop where
  c0 : W.cell? p = some (.string s.key)
  c1 : W.cell? ⟨p.block, p.off + 1, none⟩ = some (.int .i64 s.left)
  c2 : W.cell? ⟨p.block, p.off + 2, none⟩ = some (.int .i64 s.at_)
  lt : p.block < W.heap.size
theorem BuAt.below {W w : World} {p : Addr} {s : Bu} (h : BuAt W p s) (hb : Below W.heap.size W w) : BuAt w p s :=
  ⟨(hb.cell h.lt).trans h.c0, (hb.cell (p := ⟨p.block, p.off + 1, none⟩) h.lt).trans h.c1, (hb.cell (p := ⟨p.block, p.off + 2, none⟩) h.lt).trans h.c2, Nat.lt_of_lt_of_le h.lt hb.size⟩
theorem add_add (a : Addr) (i k : Nat) (hk : 0 < k) : a.add (i + k) = ⟨(a.add i).block, (a.add i).off + k, none⟩ := by
  unfold Addr.add
  rw [if_neg (by omega)]
  split
  · rename_i h; subst h; simp
  · simp; omega
/-- ONE ELEMENT OF A ROW. -/
theorem lies_bu {S : Nat → Prop} {w : World} {A : Option Addr} {l : List Bu} (h : Lies S w A (bus l)) (i : Nat) (hi : i < l.length) : ∃ a, A = some a ∧ BuAt w (a.add (i * 3)) l[i] := by
  obtain ⟨a, rfl, hb, _, h0⟩ := h (i * 3 + 0) _ ((bus_get l i 0 hi (by decide)).trans rfl)
  have at_ : ∀ k u, 0 < k → (buC l[i])[k]? = some u → k < 3 → w.cell? ⟨(a.add (i * 3)).block, (a.add (i * 3)).off + k, none⟩ = some u := by
    intro k u hk hu h6
    obtain ⟨a', e, _, _, hc⟩ := h (i * 3 + k) u ((bus_get l i k hi h6).trans hu)
    injection e with e
    subst e
    rw [← add_add _ _ _ hk]
    exact hc
  exact ⟨a, rfl, h0, at_ 1 _ (by decide) rfl (by decide), at_ 2 _ (by decide) rfl (by decide), by rw [add_block]; exact hb⟩
/-- A row that a call has made. -/
theorem lies_made {S : Nat → Prop} {w : World} {base n c size : Nat} {e : TypeId} {A : Option Addr} {vs : List Value} (h : w.ownsRow base e size (.slice A n c) n vs) (hS : ∀ g, base ≤ g → ¬ S g) : Lies S w A vs := fun i u hi => by
  rcases h.2 with ⟨hv, h0⟩ | ⟨g, cap, cur, hv, hb, hh, h1, h2, h3, h4⟩
  · have := h.1
    rw [h0, Nat.zero_mul] at this
    have hn := List.eq_nil_of_length_eq_zero this
    subst hn
    simp at hi
  · have hA : A = some ⟨g, 0, none⟩ := by injection hv
    subst hA
    have hlt : g < w.heap.size := by
      rcases Nat.lt_or_ge g w.heap.size with hlt | hge
      · exact hlt
      · rw [Array.getElem?_eq_none hge] at hh; cases hh
    refine ⟨⟨g, 0, none⟩, rfl, hlt, hS g hb, ?_⟩
    have hadd : (⟨g, 0, none⟩ : Addr).add i = ⟨g, i, none⟩ := by unfold Addr.add; split <;> simp_all
    rw [hadd, cell_of_row w g i cur e (0, 0) hh, ← Array.getElem?_toList]
    rw [← h4] at hi
    have hl : i < n * size := by
      rcases Nat.lt_or_ge i (n * size) with h | h
      · exact h
      · rw [List.getElem?_take, if_neg (by omega)] at hi; cases hi
    rw [List.getElem?_take, if_pos hl] at hi
    exact hi
section
variable {P : Program}
/-- A slice of values of some cells each, wherever it lies, appended to a row that a call has made. -/
theorem run_append_rows (w : World) (base size : Nat) (hsz : 0 < size) (t ty e : TypeId) (i : TypeInfo) (z : Value) (bytes : Nat) (ht : P.underlying t = some (.slice e)) (hi : P.info? e = some i) (hz : i.zero = some z) (hsize : i.size = size) (hby : i.bytes = bytes) (hzs : z.cells.size = size)
    (v : Value) (n : Nat) (xs : List Value) (hown : w.ownsRow base e size v n xs) {S : Nat → Prop} (A : Option Addr) (m c : Nat) (vs : List Value) (hm : vs.length = m * size) (hA : Lies S w A vs) (h1 : ∀ u ∈ vs, u.oneCell' = true)
    (h63 : n + m ≤ maxLen) (hbytes : (n + m) * bytes ≤ 140737488355328) (hbase : base ≤ w.heap.size) :
    ∃ A' c' w', (Builtin.append_ #[t, t] ty #[v, .slice A m c]).run P w = .ok (.slice A' (n + m) c') w' ∧ w'.ownsRow base e size (.slice A' (n + m) c') (n + m) (xs ++ vs) ∧ w.grownBy w' v.ownBlock := by
  have form : ∀ {w : World} {n : Nat} {v : Value} {xs : List Value}, w.ownsRow base e size v n xs → ∃ A c, v = .slice A n c := by
    intro w n v xs h
    rcases h.2 with ⟨rfl, rfl⟩ | ⟨g, cap, cur, rfl, _⟩
    · exact ⟨_, _, rfl⟩
    · exact ⟨_, _, rfl⟩
  cases A with
  | some a =>
    obtain ⟨v', w', hr, ho, hg, _⟩ := run_append_own (P := P) w base t ty e i z size bytes ht hi hz hsize hby hzs hsz v n xs hown a m c vs hm (fun j u hj => by
      obtain ⟨a', h1, _, _, h4⟩ := hA j u hj
      injection h1 with h1
      subst h1
      exact h4) h1 h63 hbytes hbase
    obtain ⟨A', c', rfl⟩ := form ho
    exact ⟨A', c', w', hr, ho, hg⟩
  | none =>
    have h0 : vs = [] := by
      cases vs with
      | nil => rfl
      | cons u r =>
        obtain ⟨a', h1, _⟩ := hA 0 u rfl
        cases h1
    subst h0
    have hm0 : m = 0 := by
      rcases Nat.eq_zero_or_pos m with h | h
      · exact h
      · have := Nat.mul_pos h hsz
        simp at hm
        omega
    subst hm0
    have hroom : ∃ A' c', v = .slice A' n c' ∧ n ≤ c' := by
      rcases hown.2 with ⟨rfl, rfl⟩ | ⟨g, cap, cur, rfl, _, _, h, _⟩
      · exact ⟨_, _, rfl, Nat.le_refl _⟩
      · exact ⟨_, _, rfl, h⟩
    obtain ⟨A', c', rfl, hc⟩ := hroom
    refine ⟨A', c', w, ?_, ?_, World.grownBy.refl w _⟩
    · cases A' with
      | none => simp [Builtin.append_, run_underlying ht, sizeOf, typeInfo, hi, Builtin.lenOf, hc, Builtin.firstCells]
      | some a => simp [Builtin.append_, run_underlying ht, sizeOf, typeInfo, hi, Builtin.lenOf, hc, Builtin.firstCells, storeCells]
    · simpa using hown
end
/-- A row of buckets, as a value: it lies off S. -/
def Row (S : Nat → Prop) (m : List Bu) (v : Value) (W : World) : Prop := ∃ A c, v = .slice A m.length c ∧ m.length ≤ c ∧ Lies S W A (bus m)
theorem Row.below {S : Nat → Prop} {m : List Bu} {v : Value} {W W' : World} (h : Row S m v W) (hb : Below W.heap.size W W') : Row S m v W' := by
  obtain ⟨A, c, e, hc, hA⟩ := h
  exact ⟨A, c, e, hc, hA.below hb⟩
theorem own_cap {w : World} {base n c size : Nat} {e : TypeId} {A : Option Addr} {vs : List Value} (h : w.ownsRow base e size (.slice A n c) n vs) : n ≤ c := by
  rcases h.2 with ⟨hv, h0⟩ | ⟨g, cap, cur, hv, _, _, h1, _⟩
  · omega
  · injection hv with _ _ hc
    omega
theorem info_bu : ∃ i, Try.prog.info? 54 = some i ∧ i.zero = some (.agg #[.string ⟨#[]⟩, .int .i64 0, .int .i64 0]) ∧ i.size = 3 ∧ i.bytes = 32 := info_parts (by kernel_rfl)
theorem bu_size : (Try.prog.info? 54).map (·.size) = some 3 := by
  obtain ⟨i, h, _, hs, _⟩ := info_bu
  rw [h]
  simp [hs]
theorem filter_more {α : Type} (q : α → Bool) (l : List α) (k : Nat) (h : k < l.length) : (l.take (k + 1)).filter q = (l.take k).filter q ++ (if q l[k] = true then [l[k]] else []) := by
  rw [List.take_succ_eq_append_getElem h, List.filter_append]
  by_cases h1 : q l[k] = true <;> simp [h1]
theorem filter_few {α : Type} (q : α → Bool) (l : List α) (k : Nat) : ((l.take k).filter q).length ≤ k := by
  refine Nat.le_trans (List.length_filter_le _ _) ?_
  rw [List.length_take]
  omega
theorem lies_of_cells {S : Nat → Prop} {w : World} {l : List Bu} (g : Nat) (hg : g < w.heap.size) (hS : ¬ S g) (h : ∀ i k (hi : i < l.length), k < 3 → w.cell? ⟨g, i * 3 + k, .none⟩ = (buC l[i])[k]?) : Lies S w (some ⟨g, 0, .none⟩) (bus l) := by
  intro j u hj
  have hjl : j < l.length * 3 := by
    have := (List.getElem?_eq_some_iff.1 hj).1
    rwa [bus_length] at this
  have hi : j / 3 < l.length := by omega
  have he : j = j / 3 * 3 + j % 3 := by omega
  have hc := h (j / 3) (j % 3) hi (by omega)
  have hs := bus_get l (j / 3) (j % 3) hi (by omega)
  rw [← he] at hc hs
  refine ⟨⟨g, 0, .none⟩, rfl, hg, hS, ?_⟩
  rw [Addr.add_mid, Nat.zero_add, hc, ← hs, hj]
theorem cells_of_own {w : World} {base n c : Nat} {e : TypeId} {A : Option Addr} {l : List Bu} (h : w.ownsRow base e 3 (.slice A n c) n (bus l)) (hn : n = l.length) (hp : 0 < n) :
    ∃ g, A = some ⟨g, 0, none⟩ ∧ base ≤ g ∧ g < w.heap.size ∧ (∀ i k (hi : i < l.length), k < 3 → w.cell? ⟨g, i * 3 + k, none⟩ = (buC l[i])[k]?) ∧ ∀ j, w.frozen? ⟨g, j, none⟩ = false := by
  rcases h.2 with ⟨hv, h0⟩ | ⟨g, cap, cur, hv, hb, hh, h1, h2, h3, h4⟩
  · omega
  · have hA : A = some ⟨g, 0, none⟩ := by injection hv
    have hbk : Blk w g e cur := hh
    refine ⟨g, hA, hb, hbk.lt, fun i k hi hk => ?_, fun j => hbk.frozen j⟩
    rw [hbk.cell, ← Array.getElem?_toList, ← bus_get l i k hi hk, ← h4, List.getElem?_take, if_pos (by omega)]
theorem own_none (w : World) (e : TypeId) : (w.alloc (.cells #[] e)).ownsRow w.heap.size e 3 (.slice (some ⟨w.heap.size, 0, none⟩) 0 0) 0 [] :=
  ⟨rfl, .inr ⟨w.heap.size, 0, #[], rfl, Nat.le_refl _, Blk.new w e #[], Nat.le_refl _, by unfold maxLen; omega, rfl, rfl⟩⟩
theorem own_nil (w : World) (base : Nat) (e : TypeId) : w.ownsRow base e 3 (.slice none 0 0) 0 (bus []) := ⟨rfl, .inl ⟨rfl, rfl⟩⟩
theorem setCells_size (g : Nat) : ∀ (vs : List Value) (o : Nat) (w : World), (w.setCells g o vs).heap.size = w.heap.size
  | [], _, _ => rfl
  | v :: vs, o, w => by
    rw [World.setCells, setCells_size g vs (o + 1)]
    simp
theorem setCells_below {B g : Nat} {w0 : World} (hg : B ≤ g) : ∀ (vs : List Value) (o : Nat) (w : World), Below B w0 w → Below B w0 (w.setCells g o vs)
  | [], _, _, h => h
  | v :: vs, o, w, h => by
    rw [World.setCells]
    exact setCells_below hg vs (o + 1) _ (h.setCell (p := ⟨g, o, none⟩) hg v)
theorem bu_row (s : Bu) : (buC s).toArray = #[.string s.key, .int .i64 s.left, .int .i64 s.at_] := rfl
/-- A row appended to none. -/
theorem copy_rows {S : Nat → Prop} (w : World) (A : Option Addr) (cp : Nat) (l : List Bu) (hl : l.length ≤ 1000000) (hA : Lies S w A (bus l)) (ty : TypeId) :
    ∃ A' c' w', (Builtin.append_ #[23, 23] ty #[.slice (some ⟨w.heap.size, 0, none⟩) 0 0, .slice A l.length cp]).run Try.prog (w.alloc (.cells #[] 54)) = .ok (.slice A' l.length c') w' ∧
      w'.ownsRow w.heap.size 54 3 (.slice A' l.length c') l.length (bus l) ∧ Below w.heap.size w w' := by
  obtain ⟨i0, hi, hz, hs, hb⟩ := info_bu
  have hb1 : Below w.heap.size w (w.alloc (.cells #[] 54)) := (Below.refl _ w).alloc (Nat.le_refl _) _
  obtain ⟨A', c', w', hr, ho, hg⟩ := run_append_rows (P := Try.prog) (w.alloc (.cells #[] 54)) w.heap.size 3 (by decide) 23 ty 54 i0 _ 32 Try.underlying23 hi hz hs hb rfl _ 0 [] (own_none w 54) A l.length cp (bus l) (bus_length l) (hA.below hb1) (bus_cell l) (by unfold maxLen; omega) (by omega) (by simp)
  rw [Nat.zero_add, List.nil_append] at *
  exact ⟨A', c', w', hr, ho, hb1.grown hg (by simp) (fun j hj => by injection hj with hj; show _ ≤ j; rw [← hj]; exact Nat.le_refl _)⟩
theorem add_zero_ (a : Addr) : a.add 0 = a := rfl
theorem run_rows_to (A : Option Addr) (n cp i : Nat) (hi : i ≤ n) (hn : n ≤ cp) (W : World) : (Instr.slice 23 (.slice A n cp) none (some (.int .i64 (i : Int))) none).run Try.prog W = .ok (.slice A i cp) W := by
  obtain ⟨t, hq, _, _, _⟩ := info_bu
  have h1 : i ≤ cp := Nat.le_trans hi hn
  cases A <;> simp [Instr.slice, Instr.sliceBounds, Instr.sliceBound, asIntOf, run_underlying Try.underlying23, sizeOf, typeInfo, hq, h1, add_zero_]
theorem lies_take {S : Nat → Prop} {w : World} {A : Option Addr} {l : List Bu} (h : Lies S w A (bus l)) (i : Nat) : Lies S w A (bus (l.take i)) := fun j u hj => by
  rw [bus_take, List.getElem?_take] at hj
  split at hj
  · exact h j u hj
  · cases hj
theorem lies_drop {S : Nat → Prop} {w : World} {A A' : Option Addr} {l : List Bu} (h : Lies S w A (bus l)) (i : Nat) (hA : i < l.length → ∀ a, A = some a → A' = some (a.add (i * 3))) : Lies S w A' (bus (l.drop i)) := fun j u hj => by
  rw [bus_drop, List.getElem?_drop] at hj
  have hi : i < l.length := by
    have h1 := (List.getElem?_eq_some_iff.1 hj).1
    rw [bus_length] at h1
    omega
  obtain ⟨a, rfl, h1, h2, h3⟩ := h _ u hj
  refine ⟨a.add (i * 3), hA hi a rfl, by rw [add_block]; exact h1, by rw [add_block]; exact h2, ?_⟩
  have e : (a.add (i * 3)).add j = a.add (i * 3 + j) := by
    rcases Nat.eq_zero_or_pos j with h0 | h0
    · subst h0; rfl
    · rw [add_add _ _ _ h0]
      unfold Addr.add
      rw [if_neg (by omega)]
  rw [e]
  exact h3
/-- An append whose run is known, as a step of a statement whose order is open. -/
theorem step_append_run {P : Program} {w w' : World} {ops : Array Oper} {o : Oper} {a : Act} {K : Act → World → Prop} {Q : Exit → Act → World → Prop} {E : Prop} (hgd : o.guard = none) (s x : Operand) (t u : TypeId)
    (ho : o.op = .call { callee := .builtin .append, args := #[s, x], argTypes := #[t, u] }) (v y v' : Value) (hs : a.eval s = v) (hx : a.eval x = y)
    (hr : (Builtin.append_ #[t, u] o.type #[v, y]).run P w = .ok v' w') (h : K (a.put o.dst v') w') :
    if Region.wanted o (yielded ops a.tmps) = true then Oper.wp P o a w K Q else E := by
  have hw : Region.wanted o (yielded ops a.tmps) = true := by simp [Region.wanted, hgd]
  rw [if_pos hw]
  unfold Oper.wp execOp
  simp only [ho, resolve, invoke, builtin, Sem.run_bind, Sem.run_pure, Result.andThen_ok, List.map_toArray, List.map_cons, List.map_nil, hs, hx, hr]
  exact h
end Go.Proofs.Ytbldonkfboahmaa
