/-
  A slice of values of one cell each, wherever it lies, appended to a row that a call has made. No condition.
-/
import Derived.Test.YthaejfbbefpojaaDoorWords
namespace Go.Proofs.YthaejfbbefpojaaDoor
open Go.RowKit
section
variable {P : Program}
theorem run_append_row (w : World) (base : Nat) (t ty e : TypeId) (i : TypeInfo) (z : Value) (bytes : Nat) (ht : P.underlying t = some (.slice e)) (hi : P.info? e = some i) (hz : i.zero = some z) (hsize : i.size = 1) (hby : i.bytes = bytes) (hzs : z.cells.size = 1)
    (v : Value) (n : Nat) (xs : List Value) (hown : w.ownsRow base e 1 v n xs) {S : Nat → Prop} (A : Option Addr) (c : Nat) (vs : List Value) (hA : Lies S w A vs) (h1 : ∀ u ∈ vs, u.oneCell' = true)
    (h63 : n + vs.length ≤ maxLen) (hbytes : (n + vs.length) * bytes ≤ 140737488355328) (hbase : base ≤ w.heap.size) :
    ∃ A' c' w', (Builtin.append_ #[t, t] ty #[v, .slice A vs.length c]).run P w = .ok (.slice A' (n + vs.length) c') w' ∧ w'.ownsRow base e 1 (.slice A' (n + vs.length) c') (n + vs.length) (xs ++ vs) ∧ w.grownBy w' v.ownBlock := by
  cases A with
  | some a =>
    obtain ⟨v', w', hr, ho, hg, _⟩ := run_append_own (P := P) w base t ty e i z 1 bytes ht hi hz hsize hby hzs (by decide) v n xs hown a vs.length c vs (by simp) (fun j u hj => by
      obtain ⟨a', h1, _, _, h4⟩ := hA j u hj
      injection h1 with h1
      subst h1
      exact h4) h1 h63 hbytes hbase
    obtain ⟨A', c', rfl⟩ := own_form ho
    exact ⟨A', c', w', hr, ho, hg⟩
  | none =>
    have h0 : vs = [] := by
      cases vs with
      | nil => rfl
      | cons u r =>
        obtain ⟨a', h1, _⟩ := hA 0 u rfl
        cases h1
    subst h0
    have hroom : ∃ A' c', v = .slice A' n c' ∧ n ≤ c' := by
      rcases hown.2 with ⟨rfl, rfl⟩ | ⟨g, cap, cur, rfl, _, _, h, _⟩
      · exact ⟨_, _, rfl, Nat.le_refl _⟩
      · exact ⟨_, _, rfl, h⟩
    obtain ⟨A', c', rfl, hc⟩ := hroom
    refine ⟨A', c', w, ?_, ?_, World.grownBy.refl w _⟩
    · cases A' with
      | none => simp [Builtin.append_, run_underlying ht, sizeOf, typeInfo, hi, Builtin.lenOf, hc, Builtin.firstCells]
      | some a => simp [Builtin.append_, run_underlying ht, sizeOf, typeInfo, hi, Builtin.lenOf, hc, Builtin.firstCells, storeCells]
    · simpa using hown
end
theorem cs_length (l : List ByteArray) : (cs l).length = l.length := by simp [cs]
theorem cs_one (l : List ByteArray) : ∀ u ∈ cs l, u.oneCell' = true := by
  intro u hu
  obtain ⟨s, _, rfl⟩ := List.mem_map.1 hu
  rfl
theorem cs_append (l m : List ByteArray) : cs (l ++ m) = cs l ++ cs m := by simp [cs]
theorem tx_append (l m : List ByteArray) : tx (l ++ m) = tx l ++ tx m := by simp [tx]
/-- Texts appended to a row of texts. -/
theorem run_append_texts (w : World) (base : Nat) (ty : TypeId) (v : Value) (l : List ByteArray) (hown : w.ownsRow base 9 1 v l.length (cs l)) {S : Nat → Prop} (A : Option Addr) (c : Nat) (m : List ByteArray) (hA : Lies S w A (cs m))
    (h : l.length + m.length ≤ 1000000) (hbase : base ≤ w.heap.size) :
    ∃ A' c' w', (Builtin.append_ #[30, 30] ty #[v, .slice A m.length c]).run Tryd.prog w = .ok (.slice A' (l ++ m).length c') w' ∧ w'.ownsRow base 9 1 (.slice A' (l ++ m).length c') (l ++ m).length (cs (l ++ m)) ∧ w.grownBy w' v.ownBlock := by
  obtain ⟨i, hi, hz, hs, hb⟩ := info_str
  have := run_append_row (P := Tryd.prog) w base 30 ty 9 i (.string ⟨#[]⟩) 16 Tryd.underlying30 hi hz hs hb rfl v l.length (cs l) hown A c (cs m) hA (cs_one m) (by rw [cs_length]; unfold maxLen; omega) (by rw [cs_length]; omega) hbase
  rw [cs_length, ← cs_append, ← List.length_append] at this
  exact this
/-- An empty slice that was made. -/
theorem own_empty (w : World) (e : TypeId) : (w.alloc (.cells #[] e)).ownsRow w.heap.size e 1 (.slice (some ⟨w.heap.size, 0, none⟩) 0 0) 0 [] :=
  ⟨rfl, .inr ⟨w.heap.size, 0, #[], rfl, Nat.le_refl _, Blk.new w e #[], Nat.le_refl _, by unfold maxLen; omega, rfl, rfl⟩⟩
end Go.Proofs.YthaejfbbefpojaaDoor
