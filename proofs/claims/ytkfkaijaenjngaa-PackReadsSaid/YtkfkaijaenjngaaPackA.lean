/-
  Contracts of package pack, the writer: number, text, String. What a writer is in memory; how a text is appended to it. Condition: the writer lies in memory as its calls lay it.
-/
import Derived.Test.YtkfkaijaenjngaaRows
import Derived.Test.YtkfkaijaenjngaaMem
import Derived.Test.YtkfkaijaenjngaaPk
import Derived.RegionTactic
import Derived.ChangeAlike
import Derived.IntWalk
import Derived.WalkLawsBesides
import Derived.Lib.AppendStr
namespace Go.Proofs.Ytkfkaijaenjngaa
open Go.RowKit

theorem info_parts {P : Program} {t : TypeId} {z : Value} {s b : Nat} (h : (P.info? t).map (fun i => (i.zero, i.size, i.bytes)) = some (some z, s, b)) : ∃ i, P.info? t = some i ∧ i.zero = some z ∧ i.size = s ∧ i.bytes = b := by
  cases hq : P.info? t with
  | none => simp [hq] at h
  | some i =>
    simp [hq] at h
    exact ⟨i, rfl, h.1, h.2.1, h.2.2⟩
theorem info_u8 : ∃ i, Try.prog.info? 5 = some i ∧ i.zero = some (.int .u8 0) ∧ i.size = 1 ∧ i.bytes = 1 := info_parts (by kernel_rfl)
theorem info_str : ∃ i, Try.prog.info? 9 = some i ∧ i.zero = some (.string ⟨#[]⟩) ∧ i.size = 1 ∧ i.bytes = 16 := info_parts (by kernel_rfl)

section
variable {P : Program}
/-- A text appended to a row of bytes: where it lies. -/
theorem run_append_text (w : World) (t u ty e : TypeId) (i : TypeInfo) (ht : P.underlying t = some (.slice e)) (hu : P.underlying u = some .string) (hi : P.info? e = some i) (hz : i.zero = some (.int .u8 0)) (hsize : i.size = 1) (hby : i.bytes = 1)
    (v : Value) (n : Nat) (xs : List Value) (hown : w.ownsRow 0 e 1 v n xs) (s : ByteArray) (hn : n + s.size ≤ 140737488355328) :
    ∃ A c w', (Builtin.append_ #[t, u] ty #[v, .string s]).run P w = .ok (.slice A (n + s.size) c) w' ∧ w'.ownsRow 0 e 1 (.slice A (n + s.size) c) (n + s.size) (xs ++ cb s.data.toList) ∧ w.grownBy w' v.ownBlock ∧
      ∀ k, (Value.slice A (n + s.size) c).ownBlock = some k → v.ownBlock = some k ∨ w.heap.size ≤ k := by
  have hform : ∀ {w' : World} {v' : Value} {m : Nat} {ys : List Value} {base : Nat}, w'.ownsRow base e 1 v' m ys → ∃ A c, v' = .slice A m c := fun h => by
    rcases h.2 with ⟨rfl, rfl⟩ | ⟨g, cap, cur, rfl, _⟩
    · exact ⟨_, _, rfl⟩
    · exact ⟨_, _, rfl⟩
  rcases hown.2 with ⟨hv, h0⟩ | ⟨g, cap, cur, hv, hbg, hg, hnc, hcm, hcs, htake⟩
  · subst hv; subst h0
    have hx : xs = [] := List.eq_nil_of_length_eq_zero (by simpa using hown.1)
    subst hx
    obtain ⟨v', w', hr, h1, h2, _⟩ := Lib.run_append_own_string (P := P) w w.heap.size t u ty e i ht hu hi hz hsize hby _ 0 [] (World.ownsRow_nil w _ e 1) s (by unfold maxLen; omega) (by omega) (Nat.le_refl _)
    obtain ⟨A, c, rfl⟩ := hform h1
    refine ⟨A, c, w', hr, ?_, h2, fun k hk => .inr ?_⟩
    · refine ⟨h1.1, ?_⟩
      rcases h1.2 with h | ⟨g, cap, cur, a, b, r⟩
      · exact .inl h
      · exact .inr ⟨g, cap, cur, a, Nat.zero_le _, r⟩
    · rcases h1.2 with ⟨h, _⟩ | ⟨g, cap, cur, a, b, r⟩
      · rw [h] at hk; cases hk
      · rw [a] at hk
        have : g = k := by simpa [Value.ownBlock] using hk
        omega
  · obtain ⟨v', w', hr, h1, h2, _⟩ := Lib.run_append_own_string (P := P) w 0 t u ty e i ht hu hi hz hsize hby v n xs hown s (by unfold maxLen; omega) (by omega) (Nat.zero_le _)
    subst hv
    have hcs' : cur.size = cap := by simpa using hcs
    have hxl : xs.length = n := by simpa using hown.1
    by_cases hroom : n + s.size ≤ cap
    · have hr2 := Lib.run_append_room_string (P := P) w t u ty e i ht hu hi hsize g n cap cur hg s hroom (by omega)
      rw [hr2] at hr
      injection hr with e1 e2
      subst e1; subst e2
      exact ⟨_, _, _, hr2, h1, h2, fun k hk => .inl hk⟩
    · have holds : ∀ j u, xs[j]? = some u → w.cell? ((⟨g, 0, none⟩ : Addr).add j) = some u := hown.cells (g := g) rfl
      have hr2 := Lib.run_append_grow_string (P := P) w t u ty e i (.int .u8 0) ht hu hi hz ⟨g, 0, none⟩ n cap xs (by rw [hsize]; simpa using hxl) holds s (by omega) (by omega) (by rw [hby]; exact growslice_fits (by omega) (by omega))
      rw [hr2] at hr
      injection hr with e1 e2
      subst e1; subst e2
      refine ⟨_, _, _, hr2, h1, h2, fun k hk => .inr ?_⟩
      have : w.heap.size = k := by simpa [Value.ownBlock] using hk
      omega
end

/-- A writer in memory. -/
structure WrAt (w : World) (d : Nat) (v : Value) (l : List UInt8) : Prop where
  blk : Blk w d 31 #[v]
  own : w.ownsRow 0 5 1 v l.length (cb l)
def foot (d : Nat) (v : Value) (k : Nat) : Prop := k = d ∨ v.ownBlock = some k
section
variable {w w0 w1 w' : World} {d : Nat} {v v' : Value} {l m : List UInt8}
theorem WrAt.lt (h : WrAt w d v l) : ∀ k, foot d v k → k < w.heap.size := by
  rintro k (rfl | hk)
  · exact h.blk.lt
  · exact own_lt h.own hk
theorem WrAt.of (h : WrAt w d v l) (hk : ∀ k, foot d v k → w'.heap[k]? = w.heap[k]?) : WrAt w' d v l :=
  ⟨h.blk.of (hk _ (.inl rfl)), own_of h.own (fun _ hb => hk _ (.inr hb))⟩
theorem WrAt.below (h : WrAt w d v l) (hb : Below w.heap.size w w') : WrAt w' d v l := h.of (fun k hk => hb.block k (h.lt k hk))
theorem WrAt.kept {S : Nat → Prop} (h : WrAt w d v l) (hb : Kept S w w') (hS : ∀ k, foot d v k → ¬ S k) : WrAt w' d v l := h.of (fun k hk => hb.block k (h.lt k hk) (hS k hk))
theorem WrAt.form (h : WrAt w d v l) : ∃ A c, v = .slice A l.length c := by
  rcases h.own.2 with ⟨rfl, h0⟩ | ⟨g, cap, cur, rfl, _⟩
  · exact ⟨none, 0, by rw [h0]⟩
  · exact ⟨_, _, rfl⟩
theorem WrAt.ne_ (h : WrAt w d v l) : v.ownBlock ≠ some d := own_blk_ne h.own h.blk (by decide)

/-- What a call leaves that writes. -/
def Wrote (w : World) (d : Nat) (v : Value) (l : List UInt8) (w' : World) : Prop :=
  ∃ v', WrAt w' d v' l ∧ Kept (foot d v) w w' ∧ ∀ k, foot d v' k → foot d v k ∨ w.heap.size ≤ k
theorem Wrote.trans {v1 : Value} (hk : Kept (foot d v) w w1) (hf : ∀ k, foot d v1 k → foot d v k ∨ w.heap.size ≤ k) (h : Wrote w1 d v1 l w') : Wrote w d v l w' := by
  obtain ⟨v2, h1, h2, h3⟩ := h
  refine ⟨v2, h1, hk.trans h2 hf, fun k hk2 => ?_⟩
  rcases h3 k hk2 with h | h
  · exact hf k h
  · have := hk.size
    exact .inr (by omega)
theorem WrAt.wrote (h : WrAt w d v l) : Wrote w d v l w := ⟨v, h, Kept.refl _ _, fun _ hk => .inl hk⟩

/-- The step: memory is made, bytes are appended, the writer's cell is stored. -/
theorem WrAt.push (h : WrAt w d v l) (hb : Below w.heap.size w w0) {n : Nat} (hn : n = l.length + m.length) (hown : w1.ownsRow 0 5 1 v' n (cb l ++ cb m)) (hgrow : w0.grownBy w1 v.ownBlock)
    (hat : ∀ k, v'.ownBlock = some k → v.ownBlock = some k ∨ w0.heap.size ≤ k) : Wrote w d v (l ++ m) (w1.setCell ⟨d, 0, none⟩ v') := by
  have h0 := h.below hb
  have hd1 : Blk w1 d 31 #[v] := h0.blk.of (hgrow.block _ h0.blk.lt (fun e => h.ne_ e.symm))
  have k0 : Kept (foot d v) w w0 := Kept.of_below hb
  refine ⟨v', ⟨hd1.set_ 0 v', ?_⟩, ?_, ?_⟩
  · have e1 : cb l ++ cb m = cb (l ++ m) := by simp [cb]
    have e2 : (l ++ m).length = n := by simp [hn]
    rw [e1] at hown
    rw [e2]
    exact own_of hown (fun _ e => Below.heap_setCell _ _ _ _ (fun e' => own_blk_ne hown hd1 (by decide) (by rw [e, e'])))
  · exact (k0.grown hgrow (fun x hx => .inl (.inr hx))).setCell (p := ⟨d, 0, none⟩) (.inl (.inl rfl)) _
  · rintro k (rfl | hk)
    · exact .inl (.inl rfl)
    · rcases hat k hk with e | e
      · exact .inl (.inr e)
      · have := hb.size
        exact .inr (by omega)
end
end Go.Proofs.Ytkfkaijaenjngaa
