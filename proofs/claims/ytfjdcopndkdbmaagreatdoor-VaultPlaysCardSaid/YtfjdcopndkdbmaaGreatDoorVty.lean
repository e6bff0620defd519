/-
  Two secrets compared as Go compares structs. No condition.
  What VaultPlays needs: rows of secrets as they came in, put, presented, dropped, swept; the memory of one round. No condition.
  A frame behind a drawn statement whose slots are its last ones: what stood ahead of them, and they. No condition.
  Rows of secrets that came in, as lists. No condition.
  Contract of law 11's plays. Conditions: rows of at most 42 secrets of plain lengths and numbers; the tables hold what their text says.
-/
import Derived.Test.YtfjdcopndkdbmaaGreatDoorVsd
import Derived.Test.YtfjdcopndkdbmaaGreatDoorVtW
import Derived.Test.YtfjdcopndkdbmaaGreatDoorVsj
import Derived.Test.YtfjdcopndkdbmaaGreatDoorVrG
import Derived.Test.YtfjdcopndkdbmaaGreatDoorOpx
import Derived.Test.YtfjdcopndkdbmaaGreatDoorAnyI
import Derived.Test.YtfjdcopndkdbmaaGreatDoorVsG
import Derived.Test.YtfjdcopndkdbmaaGreatDoorVrF
import Derived.Test.YtfjdcopndkdbmaaGreatDoorVrD
import Derived.Test.YtfjdcopndkdbmaaGreatDoorShort11

namespace Go.Proofs.YtfjdcopndkdbmaaGreatDoor
open Go.RowKit

theorem sec_same (x : Va.Sec) (W : World) :
    (binOp .neq 26 (.agg #[.string x.digest, .int .i64 x.account, .int .i64 x.purpose, .string x.channel, .int .i64 x.expires, .int .i64 x.tries]) (.agg #[.string x.digest, .int .i64 x.account, .int .i64 x.purpose, .string x.channel, .int .i64 x.expires, .int .i64 x.tries])).run Tryz.prog W = .ok (.bool false) W := by
  obtain ⟨d, a, p, c, e, t⟩ := x
  simp only
  go_simp
theorem sec_diff (x y : Va.Sec) (h : x ≠ y) (W : World) :
    (binOp .neq 26 (.agg #[.string x.digest, .int .i64 x.account, .int .i64 x.purpose, .string x.channel, .int .i64 x.expires, .int .i64 x.tries]) (.agg #[.string y.digest, .int .i64 y.account, .int .i64 y.purpose, .string y.channel, .int .i64 y.expires, .int .i64 y.tries])).run Tryz.prog W = .ok (.bool true) W := by
  obtain ⟨d, a, p, c, e, t⟩ := x
  obtain ⟨d', a', p', c', e', t'⟩ := y
  simp only
  by_cases h0 : d = d'
  · have b0 : (d.toList == d'.toList) = true := by rw [h0]; simp
    by_cases h1 : a = a'
    · have b1 : (a == a') = true := by simpa using h1
      by_cases h2 : p = p'
      · have b2 : (p == p') = true := by simpa using h2
        by_cases h3 : c = c'
        · have b3 : (c.toList == c'.toList) = true := by rw [h3]; simp
          by_cases h4 : e = e'
          · have b4 : (e == e') = true := by simpa using h4
            by_cases h5 : t = t'
            · have b5 : (t == t') = true := by simpa using h5
              exact absurd (by rw [h0, h1, h2, h3, h4, h5]) h
            · have b5 : (t == t') = false := by simpa using h5
              clear h h0 h1 h2 h3 h4 h5
              go_simp
          · have b4 : (e == e') = false := by simpa using h4
            clear h h0 h1 h2 h3 h4
            go_simp
        · have b3 : (c.toList == c'.toList) = false := str_ne h3
          clear h h0 h1 h2 h3
          go_simp
      · have b2 : (p == p') = false := by simpa using h2
        clear h h0 h1 h2
        go_simp
    · have b1 : (a == a') = false := by simpa using h1
      clear h h0 h1
      go_simp
  · have b0 : (d.toList == d'.toList) = false := str_ne h0
    clear h h0
    go_simp
end Go.Proofs.YtfjdcopndkdbmaaGreatDoor

namespace Go.Proofs.YtfjdcopndkdbmaaGreatDoor
open Go.RowKit

/-- A secret of plain lengths and numbers. -/
structure Pl (s : Va.Sec) : Prop where
  dig : s.digest.size ≤ 100000
  ch : s.channel.size ≤ 50000
  tr : s.tries ≤ 9223372036854775807
  ok : KeyOk s.key
theorem pl_right {s : Va.Sec} (h : rightS s = true) (hc : s.channel.size ≤ 50000) : Pl s := by
  have h1 := h
  unfold rightS rightB at h1
  simp only [Bool.and_eq_true, decide_eq_true_eq] at h1
  refine ⟨by omega, hc, by have := right_tries h; omega, ?_, ?_, ?_⟩
  · show (Lit.int .i64 s.account).wf = true
    simp [Lit.wf, IntKind.min, IntKind.max, IntKind.bits, IntKind.signed]
    omega
  · show (Lit.int .i64 s.purpose).wf = true
    simp [Lit.wf, IntKind.min, IntKind.max, IntKind.bits, IntKind.signed]
    omega
  · show s.channel.size ≤ maxLen
    unfold maxLen
    omega
theorem pl_sec (q0 q1 q2 q3 n : Int) : Pl (secQ q0 q1 q2 q3 n) := pl_right (sec_right _ _ _ _ _) (ch_size q2)
theorem put_cases (b : Bool) (l : List Va.Sec) (s : Va.Sec) : (Va.put b l s).1 = l ∨ (b = true ∧ ∃ i, (Va.put b l s).1 = l.set i s) ∨ (b = true ∧ l.length < 40 ∧ (Va.put b l s).1 = l ++ [s]) := by
  unfold Va.put
  cases b
  · exact .inl rfl
  · rw [if_pos rfl]
    cases Rw.place Va.Sec.key l s.key with
    | some i => exact .inr (.inl ⟨rfl, i, rfl⟩)
    | none =>
      simp only
      by_cases h : 40 ≤ l.length
      · rw [if_pos h]; exact .inl rfl
      · rw [if_neg h]; exact .inr (.inr ⟨trivial, by omega, rfl⟩)
theorem len_put (b : Bool) (l : List Va.Sec) (s : Va.Sec) (h : l.length ≤ 42) : (Va.put b l s).1.length ≤ 42 := by
  rcases put_cases b l s with e | ⟨_, i, e⟩ | ⟨_, h2, e⟩
  · rw [e]; exact h
  · rw [e, List.length_set]; exact h
  · rw [e, List.length_append]; simp; omega
theorem pl_put (b : Bool) {l : List Va.Sec} {s : Va.Sec} (h : ∀ x ∈ l, Pl x) (hs : Pl s) : ∀ x ∈ (Va.put b l s).1, Pl x := by
  intro x hx
  rcases put_cases b l s with e | ⟨_, i, e⟩ | ⟨_, _, e⟩
  · rw [e] at hx; exact h x hx
  · rw [e] at hx
    rcases List.mem_or_eq_of_mem_set hx with hx | hx
    · exact h x hx
    · rw [hx]; exact hs
  · rw [e] at hx
    rcases List.mem_append.1 hx with hx | hx
    · exact h x hx
    · rw [List.mem_singleton] at hx; rw [hx]; exact hs
theorem pl_present {d : ByteArray} {l : List Va.Sec} {k : Va.Key} {now : Int} (h : ∀ x ∈ l, Pl x) : ∀ x ∈ (Va.present d l k now).1, Pl x :=
  Va.all_present h (fun s h1 h2 => ⟨h1.dig, h1.ch, by have := h1.tr; show s.tries - 1 ≤ _; omega, h1.ok⟩)
theorem pl_drop {l : List Va.Sec} (a p : Int) (h : ∀ x ∈ l, Pl x) : ∀ x ∈ Va.drop l a p, Pl x := fun x hx => h x (List.mem_filter.1 hx).1
theorem pl_sweep {l : List Va.Sec} (n : Int) (h : ∀ x ∈ l, Pl x) : ∀ x ∈ Va.sweep l n, Pl x := fun x hx => h x (List.mem_filter.1 hx).1
theorem len_drop (l : List Va.Sec) (a p : Int) : (Va.drop l a p).length ≤ l.length := List.length_filter_le _ _
theorem len_sweep (l : List Va.Sec) (n : Int) : (Va.sweep l n).length ≤ l.length := List.length_filter_le _ _
theorem told_form (o : Option Va.Sec) : ∃ s : Va.Sec, secOf o = #[.string s.digest, .int .i64 s.account, .int .i64 s.purpose, .string s.channel, .int .i64 s.expires, .int .i64 s.tries] ∧
    ∀ v n, toldC v o n = #[v, .string s.digest, .int .i64 s.account, .int .i64 s.purpose, .string s.channel, .int .i64 s.expires, .int .i64 s.tries, .int .i64 (n : Int)] := by
  cases o with
  | none => exact ⟨⟨⟨#[]⟩, 0, 0, ⟨#[]⟩, 0, 0⟩, rfl, fun _ _ => rfl⟩
  | some s => exact ⟨s, rfl, fun _ _ => rfl⟩
/-- Both presentations, as the law makes them. -/
theorem both_present (L : List Va.Sec) (hL : L.length ≤ 42) (hP : ∀ s ∈ L, Pl s) (a p : Int) (c : ByteArray) (d : List UInt8) (hd : d.length ≤ 50000) (now : Int) : ∃ (L2 : List Va.Sec) (s : Va.Sec) (er : Nat), L2.length ≤ 42 ∧ (∀ s ∈ L2, Pl s) ∧
    (∀ (S : Nat → Prop) (A : Option Addr) (cp : Nat) (_hcp : L.length ≤ cp) (w : World) (_hR : Rdy w) (_hA : Lies S w A (secs L)), Calls Tryz.prog 16 #[.pointer none, .slice A L.length cp, .agg #[.int .i64 a, .int .i64 p, .string c, .string (ba d)], .int .i64 now] w fun e w' =>
      (∃ v, e = .returned (.tuple #[v, .agg #[.string s.digest, .int .i64 s.account, .int .i64 s.purpose, .string s.channel, .int .i64 s.expires, .int .i64 s.tries], .int .i64 (er : Int)]) ∧ Row (fun b => b < w.heap.size) L2 v w') ∧ Below w.heap.size w w') ∧
    (∀ (S : Nat → Prop) (A : Option Addr) (cp : Nat) (_hcp : L.length ≤ cp) (w : World) (_hS : ∀ b, S b → b < w.heap.size) (_hA : Lies S w A (secs L)), Calls Tryz.prog 27 #[.slice A L.length cp, .agg #[.int .i64 a, .int .i64 p, .string c, .string (ba d)], .int .i64 now] w fun e w' =>
      (∃ v, e = .returned (.agg #[v, .string s.digest, .int .i64 s.account, .int .i64 s.purpose, .string s.channel, .int .i64 s.expires, .int .i64 s.tries, .int .i64 (er : Int)]) ∧ Row S L2 v w') ∧ Below w.heap.size w w') := by
  obtain ⟨s, h1, h2⟩ := told_form (Va.present (ba (digL p d)) L (a, p, c) now).2.1
  refine ⟨(Va.present (ba (digL p d)) L (a, p, c) now).1, s, (Va.present (ba (digL p d)) L (a, p, c) now).2.2, Nat.le_trans (Va.length_present _ _ _ _) hL, pl_present hP, fun S A cp hcp w hR hA => ?_, fun S A cp hcp w hS hA => ?_⟩
  · rw [← h1]
    refine (present_any Mt.nil 0 (by decide) A cp L (by omega) hcp a p c d hd now (fun s hs => (hP s hs).tr) (fun s hs => (hP s hs).dig) w trivial hR.tab (hA.mono (fun _ _ h => h.elim))).mono ?_
    rintro e w' ⟨h1, _, h2⟩
    exact ⟨h1, Kept.below (Below.refl _ w) h2 (fun _ h => h.elim) (Nat.le_refl _)⟩
  · have hh := rpresent_any A cp L (by omega) hcp a p c d hd now (fun s hs => (hP s hs).tr) w hS hA
    refine hh.mono ?_
    rintro e w' ⟨⟨v, he, hv⟩, hb⟩
    exact ⟨⟨v, by rw [he, h2], hv⟩, hb⟩
/-- A whole row stored, the world behind it under a name of its own. -/
theorem wpList_store_named {P : Program} {ops : Array Oper} {rest : List Oper} {op : Oper} {a : Act} {w : World} {Q : Exit → Act → World → Prop} (W' : World) (hgd : op.guard = none) (ty : TypeId) (x y : Operand) (ho : op.op = .store ty x y)
    (g : Nat) (cells : Array Value) (hx : a.eval x = .pointer (some ⟨g, 0, none⟩)) (hy : a.eval y = .agg cells) (t : TypeId) (old : Array Value) (hg : Blk w g t old) (hi : (P.info? ty).map (·.size) = some cells.size)
    (hold : old.size = cells.size) (h1 : cells.all (·.oneCell') = true) (hW : w.setRow g cells = W')
    (h : wpList P ops Q rest (a.put op.dst undef) W') : wpList P ops Q (op :: rest) a w :=
  wpList_store_row hgd ty x y ho g cells hx hy t old hg hi hold h1 (hW ▸ h)
theorem op_size : (Tryz.prog.info? 39).map (·.size) = some 17 := by kernel_rfl
theorem OpxAt.cells {W : World} {p : Addr} {o : Opx} (h : OpxAt W p o) : ∀ (j : Nat) (v : Value), ([.int .i64 o.kind, .int .i64 o.ticks, .int .i64 o.n0, .int .i64 o.n1, .int .i64 o.n2, .int .i64 o.n3, .bool o.raw, .string o.s.digest, .int .i64 o.s.account, .int .i64 o.s.purpose, .string o.s.channel, .int .i64 o.s.expires, .int .i64 o.s.tries, .int .i64 o.aa, .int .i64 o.ap, .string o.ac, .string o.al] : List Value)[j]? = some v → W.cell? (p.add j) = some v
  | 0, v, hj => by cases hj; exact h.c0
  | 1, v, hj => by cases hj; exact h.c1
  | 2, v, hj => by cases hj; exact h.c2
  | 3, v, hj => by cases hj; exact h.c3
  | 4, v, hj => by cases hj; exact h.c4
  | 5, v, hj => by cases hj; exact h.c5
  | 6, v, hj => by cases hj; exact h.c6
  | 7, v, hj => by cases hj; exact h.c7
  | 8, v, hj => by cases hj; exact h.c8
  | 9, v, hj => by cases hj; exact h.c9
  | 10, v, hj => by cases hj; exact h.c10
  | 11, v, hj => by cases hj; exact h.c11
  | 12, v, hj => by cases hj; exact h.c12
  | 13, v, hj => by cases hj; exact h.c13
  | 14, v, hj => by cases hj; exact h.c14
  | 15, v, hj => by cases hj; exact h.c15
  | 16, v, hj => by cases hj; exact h.c16
  | _ + 17, v, hj => by cases hj
/-- The memory of one round: the step's own copy, what the document tells, both rows. -/
structure Mid (w : World) (go gt : Nat) (A B : Option Addr) (L : List Va.Sec) (oc tc : Array Value) (W : World) : Prop where
  o : Blk W go 39 oc
  t : Blk W gt 73 tc
  a : Lies (fun b => b = go ∨ b = gt) W A (secs L)
  b : Lies (fun b => b = go ∨ b = gt) W B (secs L)
  bel : Below w.heap.size w W
section
variable {w W : World} {go gt : Nat} {A B : Option Addr} {L : List Va.Sec} {oc tc : Array Value}
theorem Mid.next (h : Mid w go gt A B L oc tc W) {W' : World} (hb : Below W.heap.size W W') : Mid w go gt A B L oc tc W' :=
  ⟨h.o.of (hb.block _ h.o.lt), h.t.of (hb.block _ h.t.lt), h.a.below hb, h.b.below hb, h.bel.trans (hb.mono h.bel.size)⟩
theorem Mid.al (h : Mid w go gt A B L oc tc W) (x : Obj) : Mid w go gt A B L oc tc (W.alloc x) := h.next ((Below.refl _ W).alloc (Nat.le_refl _) x)
theorem Mid.eight (h : Mid w go gt A B L oc tc W) (hg : w.heap.size ≤ gt) (u0 u1 u2 u3 u4 u5 u6 u7 : Value) (hne : go ≠ gt) (ht : ∃ a0 a1 a2 a3 a4 a5 a6 a7, tc = #[a0, a1, a2, a3, a4, a5, a6, a7]) :
    Mid w go gt A B L oc #[u0, u1, u2, u3, u4, u5, u6, u7] ((((((((W.setCell ⟨gt, 0, none⟩ u0).setCell ⟨gt, 1, none⟩ u1).setCell ⟨gt, 2, none⟩ u2).setCell ⟨gt, 3, none⟩ u3).setCell ⟨gt, 4, none⟩ u4).setCell ⟨gt, 5, none⟩ u5).setCell ⟨gt, 6, none⟩ u6).setCell ⟨gt, 7, none⟩ u7) := by
  obtain ⟨a0, a1, a2, a3, a4, a5, a6, a7, rfl⟩ := ht
  have hk := kept_eight (T := fun b => b = go ∨ b = gt) (W := W) (g := gt) (.inr rfl) u0 u1 u2 u3 u4 u5 u6 u7
  exact ⟨(((((((h.o.far (p := ⟨gt, 0, none⟩) hne _).far (p := ⟨gt, 1, none⟩) hne _).far (p := ⟨gt, 2, none⟩) hne _).far (p := ⟨gt, 3, none⟩) hne _).far (p := ⟨gt, 4, none⟩) hne _).far (p := ⟨gt, 5, none⟩) hne _).far (p := ⟨gt, 6, none⟩) hne _).far (p := ⟨gt, 7, none⟩) hne _,
    h.t.eight _ _ _ _ _ _ _ _, h.a.kept hk, h.b.kept hk, below_eight h.bel hg _ _ _ _ _ _ _ _⟩
theorem Mid.trow (h : Mid w go gt A B L oc tc W) (hg : w.heap.size ≤ gt) (hne : go ≠ gt) (cs : Array Value) : Mid w go gt A B L oc cs (W.setRow gt cs) :=
  ⟨h.o.rowFar hne cs, h.t.row cs, h.a.kept ((Kept.refl _ W).setRow (g := gt) (.inl (.inr rfl)) _), h.b.kept ((Kept.refl _ W).setRow (g := gt) (.inl (.inr rfl)) _), below_setRow h.bel hg _⟩
theorem Mid.tset (h : Mid w go gt A B L oc tc W) (hg : w.heap.size ≤ gt) (hne : go ≠ gt) (i : Nat) (u : Value) : Mid w go gt A B L oc (tc.setIfInBounds i u) (W.setCell ⟨gt, i, none⟩ u) :=
  ⟨h.o.far (p := ⟨gt, i, none⟩) hne _, h.t.set_ i u, h.a.kept ((Kept.refl _ W).setCell (p := ⟨gt, i, none⟩) (.inl (.inr rfl)) _), h.b.kept ((Kept.refl _ W).setCell (p := ⟨gt, i, none⟩) (.inl (.inr rfl)) _), h.bel.setCell (p := ⟨gt, i, none⟩) hg _⟩
theorem Mid.oset (h : Mid w go gt A B L oc tc W) (hg : w.heap.size ≤ go) (hne : go ≠ gt) (i : Nat) (u : Value) : Mid w go gt A B L (oc.setIfInBounds i u) tc (W.setCell ⟨go, i, none⟩ u) :=
  ⟨h.o.set_ i u, h.t.far (p := ⟨go, i, none⟩) (fun e => hne e.symm) _, h.a.kept ((Kept.refl _ W).setCell (p := ⟨go, i, none⟩) (.inl (.inl rfl)) _), h.b.kept ((Kept.refl _ W).setCell (p := ⟨go, i, none⟩) (.inl (.inl rfl)) _), h.bel.setCell (p := ⟨go, i, none⟩) hg _⟩
end
/-- A row that a call made, in the round. -/
theorem Row.in_round {w W W' : World} {go gt : Nat} {A B : Option Addr} {L L2 : List Va.Sec} {oc tc : Array Value} {v : Value} (hm : Mid w go gt A B L oc tc W) (h : Row (fun b => b < W.heap.size) L2 v W') : Row (fun b => b = go ∨ b = gt) L2 v W' :=
  h.weaker (fun b hb => by rcases hb with rfl | rfl; exact hm.o.lt; exact hm.t.lt)
theorem Mid.below {w W : World} {go gt : Nat} {A B : Option Addr} {L : List Va.Sec} {oc tc : Array Value} (hm : Mid w go gt A B L oc tc W) : ∀ b, (fun b => b = go ∨ b = gt) b → b < W.heap.size := fun b hb => by rcases hb with rfl | rfl; exact hm.o.lt; exact hm.t.lt
end Go.Proofs.YtfjdcopndkdbmaaGreatDoor

namespace Go.Proofs.YtfjdcopndkdbmaaGreatDoor
open Go.RowKit

theorem Known.tail {ops : Array Oper} {V : Nat → Value → World → Prop} {G : World → Prop} {a0 a : Act} {w : World} {L : Nat → Prop} (hk : Known ops V G a0 L a w) (m : Nat) (hm : (dsts ops).all (fun d => decide (m ≤ d)) = true) (vs : List Value) (hs : a0.tmps.size = m + vs.length)
    (hv : ∀ k, k < vs.length → a.tmps[m + k]?.getD undef = vs[k]?.getD undef) : a = ⟨(a0.tmps.toList.take m ++ vs).toArray, a0.defers⟩ := by
  have hz := hk.size
  have hd := hk.defers
  have hf := hk.fixed
  cases a with
  | mk at_ ad =>
    simp only at hz hd hv
    subst hd
    congr 1
    apply Array.ext
    · simp
      omega
    · intro i h1 h2
      show at_[i] = (List.take m a0.tmps.toList ++ vs)[i]'(by simpa using h2)
      rw [List.getElem_append]
      split
      · rename_i h
        have hlt : i < m := by simp at h; omega
        have he := hf i (fun hmem => by
          have := List.all_eq_true.1 hm i hmem
          simp at this
          omega)
        rw [eval_slot, eval_slot] at he
        have h3 : i < a0.tmps.size := by omega
        simpa [h1, h3] using he
      · rename_i h
        have hge : m ≤ i := by simp at h; omega
        have hki : i - m < vs.length := by omega
        have he := hv (i - m) hki
        rw [show m + (i - m) = i by omega] at he
        simpa [h1, hki, show min m a0.tmps.size = m by omega] using he
end Go.Proofs.YtfjdcopndkdbmaaGreatDoor

namespace Go.Proofs.YtfjdcopndkdbmaaGreatDoor
open Go.ChangeShapes Go.WideShapes Go.ChangeAt Go.RowKit

/-- What is known of a secret that came in. -/
structure SecOk (s : Va.Sec) : Prop where
  dig : s.digest.size ≤ maxLen
  ch : s.channel.size ≤ maxLen
  tr : s.tries ≤ 9223372036854775807
  a : (Lit.int .i64 s.account).wf = true
  p : (Lit.int .i64 s.purpose).wf = true
set_option maxHeartbeats 2000000 in
set_option maxRecDepth 100000 in
theorem open_secs {H : Type} {enc : TypeId × Value → H} {W : World} {base r0 : Nat} {held : Bool} {r : Reach} {v : Value} {d : DataW H} {ps : List MemPlace}
    (hv : Value.okWide Tryz.prog W r r0 22 v) (h : DataW.Trod enc Tryz.prog W base (fun _ => true) held 22 v d ps) :
    ∃ (A : Option Addr) (c : Nat) (l : List Va.Sec), v = .slice A l.length c ∧ l.length ≤ maxLen ∧ ∀ i (hi : i < l.length), SecOk l[i] ∧ ∃ a, A = some a ∧ SecAt W (a.add (i * 6)) l[i] := by
  obtain ⟨A, n, c, rfl, hn, hel⟩ := open_rows Tryz.underlying22 cells_sec (by omega) hv h
  have key : ∀ i, i < n → ∃ s : Va.Sec, SecOk s ∧ ∃ a, A = some a ∧ SecAt W (a.add (i * 6)) s := fun i hi => by
    obtain ⟨a, cs, fuel, x, hA, hb, hl, hc, htr⟩ := hel i hi
    obtain ⟨us, mu, _, _, _, hul, hu⟩ := DataW.trod_struct Tryz.underlying26 htr
    match cs, hl, us, hul with
    | [c0, c1, c2, c3, c4, c5], _, [u0, u1, u2, u3, u4, u5], _ =>
    obtain ⟨s0, es0, _, ws0⟩ := DataW.trod_string Tryz.underlying9 (hu 0 _ rfl)
    have fs0 : c0 = .string s0 := by have := congrArg List.head? es0; simpa [cells_s, cells_sec] using this
    obtain ⟨s1, es1, _, ws1⟩ := DataW.trod_int Tryz.underlying3 (hu 1 _ rfl)
    have fs1 : c1 = .int .i64 s1 := by have := congrArg List.head? es1; simpa [cells_i, cells_s, cells_sec] using this
    obtain ⟨s2, es2, _, ws2⟩ := DataW.trod_int Tryz.underlying3 (hu 2 _ rfl)
    have fs2 : c2 = .int .i64 s2 := by have := congrArg List.head? es2; simpa [cells_i, cells_s, cells_sec] using this
    obtain ⟨s3, es3, _, ws3⟩ := DataW.trod_string Tryz.underlying9 (hu 3 _ rfl)
    have fs3 : c3 = .string s3 := by have := congrArg List.head? es3; simpa [cells_i, cells_s, cells_sec] using this
    obtain ⟨s4, es4, _, ws4⟩ := DataW.trod_int Tryz.underlying2 (hu 4 _ rfl)
    have fs4 : c4 = .int .i64 s4 := by have := congrArg List.head? es4; simpa [cells_i64, cells_i, cells_s, cells_sec] using this
    obtain ⟨s5, es5, _, ws5⟩ := DataW.trod_int Tryz.underlying3 (hu 5 _ rfl)
    have fs5 : c5 = .int .i64 s5 := by have := congrArg List.head? es5; simpa [cells_i64, cells_i, cells_s, cells_sec] using this
    subst fs0 fs1 fs2 fs3 fs4 fs5
    exact ⟨⟨s0, s1, s2, s3, s4, s5⟩, ⟨ws0, ws3, (bounds_int ws5).2, ws1, ws2⟩, a, hA, ⟨hc 0 (by omega), hc 1 (by omega), hc 2 (by omega), hc 3 (by omega), hc 4 (by omega), hc 5 (by omega), by rw [add_block]; exact hb⟩⟩
  obtain ⟨l, hl, hk⟩ := exists_list key
  subst hl
  exact ⟨A, c, l, rfl, hn, fun i hi => hk i hi⟩
end Go.Proofs.YtfjdcopndkdbmaaGreatDoor

namespace Go.Proofs.YtfjdcopndkdbmaaGreatDoor
open Go.RowKit

theorem Known.act_named {ops : Array Oper} {V : Nat → Value → World → Prop} {G : World → Prop} {a0 a : Act} {w : World} {L : Nat → Prop} (hk : Known ops V G a0 L a w) (D : List Nat) (hD : dsts ops = D) :
    ∃ b0, b0 = a0 ∧ a = D.foldl (fun b d => b.put (some d) (a.tmps[d]?.getD undef)) b0 := ⟨a0, rfl, hk.act D hD⟩
theorem setS {α : Type} (a : α) (l : List α) (n : Nat) (x : α) : (a :: l).set (n + 1) x = a :: l.set n x := by cases l <;> simp
theorem setZ {α : Type} (a : α) (l : List α) (x : α) : (a :: l).set 0 x = x :: l := by cases l <;> simp
/-- What VaultPlays' rounds keep. -/
def PlaysRel (w : World) (n : Nat) (av bv nv iv : Value) (wr : World) : Prop := ∃ (i : Nat) (now : Int) (L : List Va.Sec), iv = .int .i64 (i : Int) ∧ nv = .int .i64 now ∧ i ≤ 60 ∧ i ≤ n ∧ 0 ≤ now ∧ now ≤ 63 * (i : Int) ∧ L.length ≤ 42 ∧ (∀ s ∈ L, Pl s) ∧ Row (fun _ => False) L av wr ∧ Row (fun _ => False) L bv wr ∧ Below w.heap.size w wr
/-- What each operation of the drawn statement leaves. -/
def Vy54 (X : Option Addr) (Y : Option Addr) (n : Nat) (cx : Nat) (cy : Nat) (gn : Nat) (s5 : Va.Sec) (hd : Bool) (ck : Bool) (an : Nat) (nf : Int) (q0 : Int) : Nat → Value → Prop
  | 0, v => v = .agg #[.string s5.digest, .int .i64 s5.account, .int .i64 s5.purpose, .string s5.channel, .int .i64 s5.expires, .int .i64 s5.tries]
  | 1, v => v = .agg #[.string s5.digest, .int .i64 s5.account, .int .i64 s5.purpose, .string s5.channel, .int .i64 s5.expires, .int .i64 s5.tries]
  | 2, v => v = .bool false
  | 3, v => v = .bool false
  | 4, v => v = .bool hd
  | 5, v => v = .bool hd
  | 6, v => v = .bool false
  | 7, v => v = .bool false
  | 8, v => v = .bool false
  | 9, v => v = .slice X n cx
  | 10, v => v = .bool ck
  | 11, v => v = .slice Y n cy
  | 12, v => v = .bool ck
  | 13, v => v = .bool false
  | 14, v => v = .bool false
  | 15, v => v = .bool false
  | 16, v => v = .slice X n cx
  | 17, v => v = .pointer (some ⟨gn, 0, none⟩)
  | 18, v => v = .int .i64 q0
  | 19, v => v = .int .i64 (an : Int)
  | 20, v => v = .int .i64 nf
  | 21, v => v = .slice Y n cy
  | 22, v => v = .pointer (some ⟨gn, 0, none⟩)
  | 23, v => v = .int .i64 q0
  | 24, v => v = .int .i64 (an : Int)
  | 25, v => v = .int .i64 nf
  | 26, v => v = .bool false
  | 27, v => v = .bool false
  | _, _ => True
set_option maxRecDepth 100000 in
set_option maxHeartbeats 16000000 in
theorem plays_any (A1 : Option Addr) (c1 : Nat) (L0 : List Va.Sec) (hL0 : L0.length ≤ 42) (hc1 : L0.length ≤ c1) (hP0 : ∀ s ∈ L0, Pl s) (A0 : Option Addr) (c0 : Nat) (l : List Opx) (w : World) (hR : Rdy w) (hlen : l.length ≤ maxLen) (hA1 : Lies (fun _ => False) w A1 (secs L0)) (hA0 : ∀ i (hi : i < l.length), OpxOk l[i] ∧ ∃ a, A0 = some a ∧ OpxAt w (a.add (i * 17)) l[i]) :
    Calls Tryz.prog 12 #[.slice A1 L0.length c1, .slice A0 l.length c0] w fun e w' => e = .returned (.bool true) ∧ Below w.heap.size w w' := by
  have HAT0 := Lib.hid (fun (o : Opx) W => attempt_any o.n0 o.n1 o.n2 o.n3 W)
  have HSE0 := Lib.hid (fun (o : Opx) (n : Int) (hn : 0 ≤ n ∧ n ≤ 1099511627776) W => secret_any o.n0 o.n1 o.n2 o.n3 n hn W)
  have HR := Lib.hid hR
  have HA0 := Lib.hid hA0
  have HA1 := Lib.hid hA1
  have HP0 := Lib.hid hP0
  have hll : (l.length : Int) ≤ 9223372036854775807 := by unfold maxLen at hlen; omega
  clear hR hA0 hlen hA1 hP0
  go_enter Tryz.func12, Tryz.ntmps12
  go_wp2_with fail
  go_loopw [5, 6, 7, 8, 9, 10, 11, 12, 13, 14, 15, 16, 17, 18, 19, 20, 21, 22, 23, 24, 25, 26, 27, 28, 29, 30, 31, 32, 33, 34, 35] (fun av bv nv iv _ _ _ _ _ _ _ _ _ _ _ _ _ _ _ _ _ _ _ _ _ _ _ _ _ _ _ wr => PlaysRel w l.length av bv nv iv wr) (fun _ _ _ iv _ _ _ _ _ _ _ _ _ _ _ _ _ _ _ _ _ _ _ _ _ _ _ _ _ _ _ _ => 60 - (intOf iv).toNat)
  case atStart => exact ⟨0, 0, L0, rfl, rfl, by omega, by omega, by omega, by omega, hL0, HP0.out, ⟨A1, c1, rfl, hc1, HA1.out⟩, ⟨A1, c1, rfl, hc1, HA1.out⟩, Below.refl _ _⟩
  case round =>
    obtain ⟨i, now, L, rfl, rfl, hi60, hil, hn0, hn1, hL42, hPL, ⟨A, cp, rfl, hcp, hA⟩, ⟨B, cq, rfl, hcq, hBB⟩, hB⟩ := hrel
    have HA := Lib.hid hA
    have HBB := Lib.hid hBB
    have HB := Lib.hid hB
    have HCP := Lib.hid hcp
    have HCQ := Lib.hid hcq
    have HPL := Lib.hid hPL
    clear hA hBB hB hcp hcq hPL HA1 HP0 hL0 hc1
    by_cases hl1 : i < l.length
    · have hi1 : (i : Int) < (l.length : Int) := by omega
      by_cases hl2 : i < 60
      · have hi2 : (i : Int) < 60 := by omega
        obtain ⟨hok, ad, hAd, hat⟩ := HA0.out i hl1
        subst hAd
        have hat2 := hat.below HB.out
        obtain ⟨q, hq⟩ : ∃ q, ad.add (i * 17) = q := ⟨_, rfl⟩
        obtain ⟨o, ho⟩ : ∃ o, l[i] = o := ⟨_, rfl⟩
        rw [hq, ho] at hat2
        rw [ho] at hok
        have hcl := hat2.cells
        obtain ⟨k7, hk7, ek⟩ := and_mask o.kind 3 7 (by decide) (by decide)
        obtain ⟨tk, htk, et⟩ := and_mask o.ticks 6 63 (by decide) (by decide)
        rw [show (2 : Nat) ^ 3 = 8 by decide] at hk7
        rw [show (2 : Nat) ^ 6 = 64 by decide] at htk
        obtain ⟨now2, hnow2⟩ : ∃ z, now + (tk : Int) = z := ⟨_, rfl⟩
        have hwn : IntKind.i64.wrap (now + (tk : Int)) = now2 := by rw [IntKind.wrap_i64]; omega
        have hn2 : 0 ≤ now2 ∧ now2 ≤ 63 * ((i : Int) + 1) := by omega
        have HAT := Lib.hid (HAT0.out o)
        unfold plOf at HAT
        have HSE := Lib.hid (fun W => HSE0.out o now2 (by omega) W)
        have HOK := Lib.hid hok
        clear hnow2 ho hat htk hok
        obtain ⟨W0, hW0⟩ : ∃ W, wr.alloc (.cells #[.int .i64 o.kind, .int .i64 o.ticks, .int .i64 o.n0, .int .i64 o.n1, .int .i64 o.n2, .int .i64 o.n3, .bool o.raw, .string o.s.digest, .int .i64 o.s.account, .int .i64 o.s.purpose, .string o.s.channel, .int .i64 o.s.expires, .int .i64 o.s.tries, .int .i64 o.aa, .int .i64 o.ap, .string o.ac, .string o.al] 39) = W := ⟨_, rfl⟩
        have hb0 : Below wr.heap.size wr W0 := hW0 ▸ (Below.refl _ wr).alloc (Nat.le_refl _) _
        have ho0 : Blk W0 wr.heap.size 39 #[.int .i64 o.kind, .int .i64 o.ticks, .int .i64 o.n0, .int .i64 o.n1, .int .i64 o.n2, .int .i64 o.n3, .bool o.raw, .string o.s.digest, .int .i64 o.s.account, .int .i64 o.s.purpose, .string o.s.channel, .int .i64 o.s.expires, .int .i64 o.s.tries, .int .i64 o.aa, .int .i64 o.ap, .string o.ac, .string o.al] := hW0 ▸ Blk.new wr _ _
        have hM : Mid w wr.heap.size W0.heap.size A B L #[.int .i64 o.kind, .int .i64 o.ticks, .int .i64 o.n0, .int .i64 o.n1, .int .i64 o.n2, .int .i64 o.n3, .bool o.raw, .string o.s.digest, .int .i64 o.s.account, .int .i64 o.s.purpose, .string o.s.channel, .int .i64 o.s.expires, .int .i64 o.s.tries, .int .i64 o.aa, .int .i64 o.ap, .string o.ac, .string o.al] #[.slice none 0 0, .string ⟨#[]⟩, .int .i64 0, .int .i64 0, .string ⟨#[]⟩, .int .i64 0, .int .i64 0, .int .i64 0] (W0.alloc (.cells #[.slice none 0 0, .string ⟨#[]⟩, .int .i64 0, .int .i64 0, .string ⟨#[]⟩, .int .i64 0, .int .i64 0, .int .i64 0] 73)) := by
          have hsz := hb0.size
          have hlt := ho0.lt
          have hb : Below wr.heap.size wr (W0.alloc (.cells #[.slice none 0 0, .string ⟨#[]⟩, .int .i64 0, .int .i64 0, .string ⟨#[]⟩, .int .i64 0, .int .i64 0, .int .i64 0] 73)) := hb0.alloc hsz _
          exact ⟨ho0.alloc _, Blk.new _ _ _, (HA.out.mono (fun k hk h => by rcases h with h | h <;> omega)).below hb, (HBB.out.mono (fun k hk h => by rcases h with h | h <;> omega)).below hb, HB.out.trans (hb.mono HB.out.size)⟩
        have hgo : w.heap.size ≤ wr.heap.size := HB.out.size
        have hgt0 : wr.heap.size < W0.heap.size := ho0.lt
        have n1 : W0.cell? ⟨wr.heap.size, 1, none⟩ = some (.int .i64 o.ticks) := (ho0.cell 1).trans rfl
        have n0 : ∀ x, (W0.alloc x).cell? ⟨wr.heap.size, 0, none⟩ = some (.int .i64 o.kind) := fun x => ((ho0.alloc x).cell 0).trans rfl
        have HCL := Lib.hid hcl
        clear hcl hb0 ho0
        subst hW0
        go_upto_block 2 with (refine wpList_load_cells rfl 39 _ rfl q rfl [.int .i64 o.kind, .int .i64 o.ticks, .int .i64 o.n0, .int .i64 o.n1, .int .i64 o.n2, .int .i64 o.n3, .bool o.raw, .string o.s.digest, .int .i64 o.s.account, .int .i64 o.s.purpose, .string o.s.channel, .int .i64 o.s.expires, .int .i64 o.s.tries, .int .i64 o.aa, .int .i64 o.ap, .string o.ac, .string o.al] _ HCL.out Tryz.underlying39 rfl op_size ?_)
        clear HCL n1 n0
        change Code.wp _ _ _ _ ((wr.alloc (.cells #[.int .i64 o.kind, .int .i64 o.ticks, .int .i64 o.n0, .int .i64 o.n1, .int .i64 o.n2, .int .i64 o.n3, .bool o.raw, .string o.s.digest, .int .i64 o.s.account, .int .i64 o.s.purpose, .string o.s.channel, .int .i64 o.s.expires, .int .i64 o.s.tries, .int .i64 o.aa, .int .i64 o.ap, .string o.ac, .string o.al] 39)).alloc (.cells #[.slice none 0 0, .string ⟨#[]⟩, .int .i64 0, .int .i64 0, .string ⟨#[]⟩, .int .i64 0, .int .i64 0, .int .i64 0] 73))
        generalize (wr.alloc (.cells #[.int .i64 o.kind, .int .i64 o.ticks, .int .i64 o.n0, .int .i64 o.n1, .int .i64 o.n2, .int .i64 o.n3, .bool o.raw, .string o.s.digest, .int .i64 o.s.account, .int .i64 o.s.purpose, .string o.s.channel, .int .i64 o.s.expires, .int .i64 o.s.tries, .int .i64 o.aa, .int .i64 o.ap, .string o.ac, .string o.al] 39)).alloc (.cells #[.slice none 0 0, .string ⟨#[]⟩, .int .i64 0, .int .i64 0, .string ⟨#[]⟩, .int .i64 0, .int .i64 0, .int .i64 0] 73) = W1 at hM ⊢
        have hsz0 : (wr.alloc (.cells #[.int .i64 o.kind, .int .i64 o.ticks, .int .i64 o.n0, .int .i64 o.n1, .int .i64 o.n2, .int .i64 o.n3, .bool o.raw, .string o.s.digest, .int .i64 o.s.account, .int .i64 o.s.purpose, .string o.s.channel, .int .i64 o.s.expires, .int .i64 o.s.tries, .int .i64 o.aa, .int .i64 o.ap, .string o.ac, .string o.al] 39)).heap.size = wr.heap.size + 1 := by show (wr.heap.push _).size = _; exact Array.size_push _
        rw [hsz0] at hM hgt0
        generalize wr.heap.size + 1 = gt at hM hgt0 ⊢
        generalize wr.heap.size = go at hM hgo hgt0 ⊢
        have hne : go ≠ gt := by omega
        have hgt : w.heap.size ≤ gt := by omega
        have M1 := Lib.hid hM
        clear hM hgt0 HA HBB HB ek et hwn
        go_cut [10, 11, 13, 14, 15, 16, 17, 18, 19] from 38 to 300 (fun x10 x11 _ _ _ _ _ _ _ wx => ∃ (L2 : List Va.Sec) (X : Option Addr) (cx : Nat) (Y : Option Addr) (cy : Nat) (s2 : Va.Sec) (er : Nat), x10 = .slice X L2.length cx ∧ x11 = .int .i64 (er : Int) ∧ L2.length ≤ 42 ∧ (∀ s ∈ L2, Pl s) ∧ L2.length ≤ cx ∧ L2.length ≤ cy ∧ Lies (fun b => b = go ∨ b = gt) wx X (secs L2) ∧ Lies (fun b => b = go ∨ b = gt) wx Y (secs L2) ∧ Mid w go gt A B L #[.int .i64 o.kind, .int .i64 o.ticks, .int .i64 o.n0, .int .i64 o.n1, .int .i64 o.n2, .int .i64 o.n3, .bool o.raw, .string o.s.digest, .int .i64 o.s.account, .int .i64 o.s.purpose, .string o.s.channel, .int .i64 o.s.expires, .int .i64 o.s.tries, .int .i64 o.aa, .int .i64 o.ap, .string o.ac, .string o.al] #[.slice Y L2.length cy, .string s2.digest, .int .i64 s2.account, .int .i64 s2.purpose, .string s2.channel, .int .i64 s2.expires, .int .i64 s2.tries, .int .i64 (er : Int)] wx)
        case first =>
          by_cases h35 : k7 = 3 ∨ k7 = 4 ∨ k7 = 5
          · obtain ⟨L2, s2, er, hl2, hp2, hpr1, hpr2⟩ := both_present L hL42 HPL.out (accOf o.n0) (purOf o.n1) (chOf o.n2) (plainL (purOf o.n1) (ten10 (d7 o.n3))) (plain_len _ _) now2
            generalize ba (plainL (purOf o.n1) (ten10 (d7 o.n3))) = PL at HAT hpr1 hpr2
            have HP1 := Lib.hid hpr1
            have HP2 := Lib.hid hpr2
            clear hpr1 hpr2 HSE
            rcases h35 with rfl | rfl | rfl
            · as_aux_lemma =>
                have n2 : W1.cell? ⟨go, 2, none⟩ = some (.int .i64 o.n0) := (M1.out.o.cell 2).trans rfl
                have n3 : W1.cell? ⟨go, 3, none⟩ = some (.int .i64 o.n1) := (M1.out.o.cell 3).trans rfl
                have n4 : W1.cell? ⟨go, 4, none⟩ = some (.int .i64 o.n2) := (M1.out.o.cell 4).trans rfl
                have n5 : W1.cell? ⟨go, 5, none⟩ = some (.int .i64 o.n3) := (M1.out.o.cell 5).trans rfl
                go_wp2_with fail
                refine (HAT.out _).mono ?_
                rintro e v1 ⟨rfl, hb⟩
                clear n2 n3 n4 n5
                have M2 := Lib.hid (M1.out.next hb)
                clear hb M1
                go_wp2_with fail
                refine (HP1.out _ _ _ HCP.out _ (HR.out.next M2.out.bel) M2.out.a).mono ?_
                rintro e v2 ⟨⟨v, rfl, hv⟩, hb⟩
                have hv := hv.in_round M2.out
                have M3 := Lib.hid (M2.out.next hb)
                obtain ⟨X, cx, rfl, hcx, hX⟩ := hv
                have HX := Lib.hid hX
                have Hcx := Lib.hid hcx
                clear hX hcx
                clear hb M2
                have n2 : ∀ x, (v2.alloc x).cell? ⟨go, 2, none⟩ = some (.int .i64 o.n0) := fun x => ((M3.out.o.alloc x).cell 2).trans rfl
                have n3 : ∀ x, (v2.alloc x).cell? ⟨go, 3, none⟩ = some (.int .i64 o.n1) := fun x => ((M3.out.o.alloc x).cell 3).trans rfl
                have n4 : ∀ x, (v2.alloc x).cell? ⟨go, 4, none⟩ = some (.int .i64 o.n2) := fun x => ((M3.out.o.alloc x).cell 4).trans rfl
                have n5 : ∀ x, (v2.alloc x).cell? ⟨go, 5, none⟩ = some (.int .i64 o.n3) := fun x => ((M3.out.o.alloc x).cell 5).trans rfl
                have M4 := Lib.hid (M3.out.al (.cells #[.string s2.digest, .int .i64 s2.account, .int .i64 s2.purpose, .string s2.channel, .int .i64 s2.expires, .int .i64 s2.tries] 26))
                have HU4 := Lib.hid (Blk.new v2 26 #[.string s2.digest, .int .i64 s2.account, .int .i64 s2.purpose, .string s2.channel, .int .i64 s2.expires, .int .i64 s2.tries])
                have HX4 := Lib.hid (HX.out.below ((Below.refl _ v2).alloc (Nat.le_refl _) (.cells #[.string s2.digest, .int .i64 s2.account, .int .i64 s2.purpose, .string s2.channel, .int .i64 s2.expires, .int .i64 s2.tries] 26)))
                have hug : v2.heap.size ≠ go ∧ v2.heap.size ≠ gt := ⟨fun h => Nat.lt_irrefl _ (h ▸ M3.out.o.lt), fun h => Nat.lt_irrefl _ (h ▸ M3.out.t.lt)⟩
                clear M3 HX
                go_wp2_with fail
                refine (HAT.out _).mono ?_
                rintro e v5 ⟨rfl, hb⟩
                clear n2 n3 n4 n5
                have M5 := Lib.hid (M4.out.next hb)
                have HU5 := Lib.hid (HU4.out.of (hb.block _ HU4.out.lt))
                have HX5 := Lib.hid (HX4.out.below hb)
                clear hb M4 HU4 HX4
                go_wp2_with fail
                refine (HP2.out _ _ _ HCQ.out _ M5.out.below M5.out.b).mono ?_
                rintro e v6 ⟨⟨v, rfl, hv⟩, hb⟩
                have M6 := Lib.hid (M5.out.next hb)
                obtain ⟨Y, cy, rfl, hcy, hY⟩ := hv
                have HY := Lib.hid hY
                have Hcy := Lib.hid hcy
                clear hY hcy
                have HU6 := Lib.hid (HU5.out.of (hb.block _ HU5.out.lt))
                have HX6 := Lib.hid (HX5.out.below hb)
                clear hb M5 HU5 HX5
                generalize v2.heap.size = gu at HU6 hug ⊢
                obtain ⟨W7, hW7⟩ : ∃ W, v6.setRow gt #[.slice Y L2.length cy, .string s2.digest, .int .i64 s2.account, .int .i64 s2.purpose, .string s2.channel, .int .i64 s2.expires, .int .i64 s2.tries, .int .i64 (er : Int)] = W := ⟨_, rfl⟩
                have hm := M6.out.trow hgt hne #[.slice Y L2.length cy, .string s2.digest, .int .i64 s2.account, .int .i64 s2.purpose, .string s2.channel, .int .i64 s2.expires, .int .i64 s2.tries, .int .i64 (er : Int)]
                have hk8 : Kept (fun b => b = go ∨ b = gt) v6 (v6.setRow gt #[.slice Y L2.length cy, .string s2.digest, .int .i64 s2.account, .int .i64 s2.purpose, .string s2.channel, .int .i64 s2.expires, .int .i64 s2.tries, .int .i64 (er : Int)]) := (Kept.refl _ v6).setRow (g := gt) (.inl (.inr rfl)) _
                rw [hW7] at hm hk8
                have M7 := Lib.hid hm
                have HW7 := Lib.hid hW7
                have HONE := Lib.hid (show (#[.slice Y L2.length cy, .string s2.digest, .int .i64 s2.account, .int .i64 s2.purpose, .string s2.channel, .int .i64 s2.expires, .int .i64 s2.tries, .int .i64 (er : Int)] : Array Value).all (·.oneCell') = true by simp [Value.oneCell'])
                clear hm hW7
                go_upto_region 23 with (refine wpList_store_named W7 rfl 73 _ _ rfl gt #[.slice Y L2.length cy, .string s2.digest, .int .i64 s2.account, .int .i64 s2.purpose, .string s2.channel, .int .i64 s2.expires, .int .i64 s2.tries, .int .i64 (er : Int)] rfl rfl 73 _ M6.out.t told_size rfl HONE.out HW7.out ?_)
                clear M6 HW7 HONE
                have hu7 := HU6.out.of (hk8.block _ HU6.out.lt (fun h => by rcases h with h | h; exact hug.1 h; exact hug.2 h))
                have HX7 := Lib.hid (HX6.out.kept hk8)
                have HY7 := Lib.hid (HY.out.kept hk8)
                have u0 : W7.cell? ⟨gu, 0, none⟩ = some (.string s2.digest) := (hu7.cell 0).trans rfl
                have u1 : W7.cell? ⟨gu, 1, none⟩ = some (.int .i64 s2.account) := (hu7.cell 1).trans rfl
                have u2 : W7.cell? ⟨gu, 2, none⟩ = some (.int .i64 s2.purpose) := (hu7.cell 2).trans rfl
                have u3 : W7.cell? ⟨gu, 3, none⟩ = some (.string s2.channel) := (hu7.cell 3).trans rfl
                have u4 : W7.cell? ⟨gu, 4, none⟩ = some (.int .i64 s2.expires) := (hu7.cell 4).trans rfl
                have u5 : W7.cell? ⟨gu, 5, none⟩ = some (.int .i64 s2.tries) := (hu7.cell 5).trans rfl
                have t1 : W7.cell? ⟨gt, 1, none⟩ = some (.string s2.digest) := (M7.out.t.cell 1).trans rfl
                have t2 : W7.cell? ⟨gt, 2, none⟩ = some (.int .i64 s2.account) := (M7.out.t.cell 2).trans rfl
                have t3 : W7.cell? ⟨gt, 3, none⟩ = some (.int .i64 s2.purpose) := (M7.out.t.cell 3).trans rfl
                have t4 : W7.cell? ⟨gt, 4, none⟩ = some (.string s2.channel) := (M7.out.t.cell 4).trans rfl
                have t5 : W7.cell? ⟨gt, 5, none⟩ = some (.int .i64 s2.expires) := (M7.out.t.cell 5).trans rfl
                have t6 : W7.cell? ⟨gt, 6, none⟩ = some (.int .i64 s2.tries) := (M7.out.t.cell 6).trans rfl
                have hsm := fun W => sec_same s2 W
                clear HX6 HY HU6 hk8 hu7
                go_wp2_with fail
                go_meet
                exact ⟨L2, X, cx, Y, cy, s2, er, rfl, rfl, hl2, hp2, Hcx.out, Hcy.out, HX7.out, HY7.out, M7.out⟩
            · as_aux_lemma =>
                have n2 : W1.cell? ⟨go, 2, none⟩ = some (.int .i64 o.n0) := (M1.out.o.cell 2).trans rfl
                have n3 : W1.cell? ⟨go, 3, none⟩ = some (.int .i64 o.n1) := (M1.out.o.cell 3).trans rfl
                have n4 : W1.cell? ⟨go, 4, none⟩ = some (.int .i64 o.n2) := (M1.out.o.cell 4).trans rfl
                have n5 : W1.cell? ⟨go, 5, none⟩ = some (.int .i64 o.n3) := (M1.out.o.cell 5).trans rfl
                go_wp2_with fail
                refine (HAT.out _).mono ?_
                rintro e v1 ⟨rfl, hb⟩
                clear n2 n3 n4 n5
                have M2 := Lib.hid (M1.out.next hb)
                clear hb M1
                go_wp2_with fail
                refine (HP1.out _ _ _ HCP.out _ (HR.out.next M2.out.bel) M2.out.a).mono ?_
                rintro e v2 ⟨⟨v, rfl, hv⟩, hb⟩
                have hv := hv.in_round M2.out
                have M3 := Lib.hid (M2.out.next hb)
                obtain ⟨X, cx, rfl, hcx, hX⟩ := hv
                have HX := Lib.hid hX
                have Hcx := Lib.hid hcx
                clear hX hcx
                clear hb M2
                have n2 : ∀ x, (v2.alloc x).cell? ⟨go, 2, none⟩ = some (.int .i64 o.n0) := fun x => ((M3.out.o.alloc x).cell 2).trans rfl
                have n3 : ∀ x, (v2.alloc x).cell? ⟨go, 3, none⟩ = some (.int .i64 o.n1) := fun x => ((M3.out.o.alloc x).cell 3).trans rfl
                have n4 : ∀ x, (v2.alloc x).cell? ⟨go, 4, none⟩ = some (.int .i64 o.n2) := fun x => ((M3.out.o.alloc x).cell 4).trans rfl
                have n5 : ∀ x, (v2.alloc x).cell? ⟨go, 5, none⟩ = some (.int .i64 o.n3) := fun x => ((M3.out.o.alloc x).cell 5).trans rfl
                have M4 := Lib.hid (M3.out.al (.cells #[.string s2.digest, .int .i64 s2.account, .int .i64 s2.purpose, .string s2.channel, .int .i64 s2.expires, .int .i64 s2.tries] 26))
                have HU4 := Lib.hid (Blk.new v2 26 #[.string s2.digest, .int .i64 s2.account, .int .i64 s2.purpose, .string s2.channel, .int .i64 s2.expires, .int .i64 s2.tries])
                have HX4 := Lib.hid (HX.out.below ((Below.refl _ v2).alloc (Nat.le_refl _) (.cells #[.string s2.digest, .int .i64 s2.account, .int .i64 s2.purpose, .string s2.channel, .int .i64 s2.expires, .int .i64 s2.tries] 26)))
                have hug : v2.heap.size ≠ go ∧ v2.heap.size ≠ gt := ⟨fun h => Nat.lt_irrefl _ (h ▸ M3.out.o.lt), fun h => Nat.lt_irrefl _ (h ▸ M3.out.t.lt)⟩
                clear M3 HX
                go_wp2_with fail
                refine (HAT.out _).mono ?_
                rintro e v5 ⟨rfl, hb⟩
                clear n2 n3 n4 n5
                have M5 := Lib.hid (M4.out.next hb)
                have HU5 := Lib.hid (HU4.out.of (hb.block _ HU4.out.lt))
                have HX5 := Lib.hid (HX4.out.below hb)
                clear hb M4 HU4 HX4
                go_wp2_with fail
                refine (HP2.out _ _ _ HCQ.out _ M5.out.below M5.out.b).mono ?_
                rintro e v6 ⟨⟨v, rfl, hv⟩, hb⟩
                have M6 := Lib.hid (M5.out.next hb)
                obtain ⟨Y, cy, rfl, hcy, hY⟩ := hv
                have HY := Lib.hid hY
                have Hcy := Lib.hid hcy
                clear hY hcy
                have HU6 := Lib.hid (HU5.out.of (hb.block _ HU5.out.lt))
                have HX6 := Lib.hid (HX5.out.below hb)
                clear hb M5 HU5 HX5
                generalize v2.heap.size = gu at HU6 hug ⊢
                obtain ⟨W7, hW7⟩ : ∃ W, v6.setRow gt #[.slice Y L2.length cy, .string s2.digest, .int .i64 s2.account, .int .i64 s2.purpose, .string s2.channel, .int .i64 s2.expires, .int .i64 s2.tries, .int .i64 (er : Int)] = W := ⟨_, rfl⟩
                have hm := M6.out.trow hgt hne #[.slice Y L2.length cy, .string s2.digest, .int .i64 s2.account, .int .i64 s2.purpose, .string s2.channel, .int .i64 s2.expires, .int .i64 s2.tries, .int .i64 (er : Int)]
                have hk8 : Kept (fun b => b = go ∨ b = gt) v6 (v6.setRow gt #[.slice Y L2.length cy, .string s2.digest, .int .i64 s2.account, .int .i64 s2.purpose, .string s2.channel, .int .i64 s2.expires, .int .i64 s2.tries, .int .i64 (er : Int)]) := (Kept.refl _ v6).setRow (g := gt) (.inl (.inr rfl)) _
                rw [hW7] at hm hk8
                have M7 := Lib.hid hm
                have HW7 := Lib.hid hW7
                have HONE := Lib.hid (show (#[.slice Y L2.length cy, .string s2.digest, .int .i64 s2.account, .int .i64 s2.purpose, .string s2.channel, .int .i64 s2.expires, .int .i64 s2.tries, .int .i64 (er : Int)] : Array Value).all (·.oneCell') = true by simp [Value.oneCell'])
                clear hm hW7
                go_upto_region 23 with (refine wpList_store_named W7 rfl 73 _ _ rfl gt #[.slice Y L2.length cy, .string s2.digest, .int .i64 s2.account, .int .i64 s2.purpose, .string s2.channel, .int .i64 s2.expires, .int .i64 s2.tries, .int .i64 (er : Int)] rfl rfl 73 _ M6.out.t told_size rfl HONE.out HW7.out ?_)
                clear M6 HW7 HONE
                have hu7 := HU6.out.of (hk8.block _ HU6.out.lt (fun h => by rcases h with h | h; exact hug.1 h; exact hug.2 h))
                have HX7 := Lib.hid (HX6.out.kept hk8)
                have HY7 := Lib.hid (HY.out.kept hk8)
                have u0 : W7.cell? ⟨gu, 0, none⟩ = some (.string s2.digest) := (hu7.cell 0).trans rfl
                have u1 : W7.cell? ⟨gu, 1, none⟩ = some (.int .i64 s2.account) := (hu7.cell 1).trans rfl
                have u2 : W7.cell? ⟨gu, 2, none⟩ = some (.int .i64 s2.purpose) := (hu7.cell 2).trans rfl
                have u3 : W7.cell? ⟨gu, 3, none⟩ = some (.string s2.channel) := (hu7.cell 3).trans rfl
                have u4 : W7.cell? ⟨gu, 4, none⟩ = some (.int .i64 s2.expires) := (hu7.cell 4).trans rfl
                have u5 : W7.cell? ⟨gu, 5, none⟩ = some (.int .i64 s2.tries) := (hu7.cell 5).trans rfl
                have t1 : W7.cell? ⟨gt, 1, none⟩ = some (.string s2.digest) := (M7.out.t.cell 1).trans rfl
                have t2 : W7.cell? ⟨gt, 2, none⟩ = some (.int .i64 s2.account) := (M7.out.t.cell 2).trans rfl
                have t3 : W7.cell? ⟨gt, 3, none⟩ = some (.int .i64 s2.purpose) := (M7.out.t.cell 3).trans rfl
                have t4 : W7.cell? ⟨gt, 4, none⟩ = some (.string s2.channel) := (M7.out.t.cell 4).trans rfl
                have t5 : W7.cell? ⟨gt, 5, none⟩ = some (.int .i64 s2.expires) := (M7.out.t.cell 5).trans rfl
                have t6 : W7.cell? ⟨gt, 6, none⟩ = some (.int .i64 s2.tries) := (M7.out.t.cell 6).trans rfl
                have hsm := fun W => sec_same s2 W
                clear HX6 HY HU6 hk8 hu7
                go_wp2_with fail
                go_meet
                exact ⟨L2, X, cx, Y, cy, s2, er, rfl, rfl, hl2, hp2, Hcx.out, Hcy.out, HX7.out, HY7.out, M7.out⟩
            · as_aux_lemma =>
                have n2 : W1.cell? ⟨go, 2, none⟩ = some (.int .i64 o.n0) := (M1.out.o.cell 2).trans rfl
                have n3 : W1.cell? ⟨go, 3, none⟩ = some (.int .i64 o.n1) := (M1.out.o.cell 3).trans rfl
                have n4 : W1.cell? ⟨go, 4, none⟩ = some (.int .i64 o.n2) := (M1.out.o.cell 4).trans rfl
                have n5 : W1.cell? ⟨go, 5, none⟩ = some (.int .i64 o.n3) := (M1.out.o.cell 5).trans rfl
                go_wp2_with fail
                refine (HAT.out _).mono ?_
                rintro e v1 ⟨rfl, hb⟩
                clear n2 n3 n4 n5
                have M2 := Lib.hid (M1.out.next hb)
                clear hb M1
                go_wp2_with fail
                refine (HP1.out _ _ _ HCP.out _ (HR.out.next M2.out.bel) M2.out.a).mono ?_
                rintro e v2 ⟨⟨v, rfl, hv⟩, hb⟩
                have hv := hv.in_round M2.out
                have M3 := Lib.hid (M2.out.next hb)
                obtain ⟨X, cx, rfl, hcx, hX⟩ := hv
                have HX := Lib.hid hX
                have Hcx := Lib.hid hcx
                clear hX hcx
                clear hb M2
                have n2 : ∀ x, (v2.alloc x).cell? ⟨go, 2, none⟩ = some (.int .i64 o.n0) := fun x => ((M3.out.o.alloc x).cell 2).trans rfl
                have n3 : ∀ x, (v2.alloc x).cell? ⟨go, 3, none⟩ = some (.int .i64 o.n1) := fun x => ((M3.out.o.alloc x).cell 3).trans rfl
                have n4 : ∀ x, (v2.alloc x).cell? ⟨go, 4, none⟩ = some (.int .i64 o.n2) := fun x => ((M3.out.o.alloc x).cell 4).trans rfl
                have n5 : ∀ x, (v2.alloc x).cell? ⟨go, 5, none⟩ = some (.int .i64 o.n3) := fun x => ((M3.out.o.alloc x).cell 5).trans rfl
                have M4 := Lib.hid (M3.out.al (.cells #[.string s2.digest, .int .i64 s2.account, .int .i64 s2.purpose, .string s2.channel, .int .i64 s2.expires, .int .i64 s2.tries] 26))
                have HU4 := Lib.hid (Blk.new v2 26 #[.string s2.digest, .int .i64 s2.account, .int .i64 s2.purpose, .string s2.channel, .int .i64 s2.expires, .int .i64 s2.tries])
                have HX4 := Lib.hid (HX.out.below ((Below.refl _ v2).alloc (Nat.le_refl _) (.cells #[.string s2.digest, .int .i64 s2.account, .int .i64 s2.purpose, .string s2.channel, .int .i64 s2.expires, .int .i64 s2.tries] 26)))
                have hug : v2.heap.size ≠ go ∧ v2.heap.size ≠ gt := ⟨fun h => Nat.lt_irrefl _ (h ▸ M3.out.o.lt), fun h => Nat.lt_irrefl _ (h ▸ M3.out.t.lt)⟩
                clear M3 HX
                go_wp2_with fail
                refine (HAT.out _).mono ?_
                rintro e v5 ⟨rfl, hb⟩
                clear n2 n3 n4 n5
                have M5 := Lib.hid (M4.out.next hb)
                have HU5 := Lib.hid (HU4.out.of (hb.block _ HU4.out.lt))
                have HX5 := Lib.hid (HX4.out.below hb)
                clear hb M4 HU4 HX4
                go_wp2_with fail
                refine (HP2.out _ _ _ HCQ.out _ M5.out.below M5.out.b).mono ?_
                rintro e v6 ⟨⟨v, rfl, hv⟩, hb⟩
                have M6 := Lib.hid (M5.out.next hb)
                obtain ⟨Y, cy, rfl, hcy, hY⟩ := hv
                have HY := Lib.hid hY
                have Hcy := Lib.hid hcy
                clear hY hcy
                have HU6 := Lib.hid (HU5.out.of (hb.block _ HU5.out.lt))
                have HX6 := Lib.hid (HX5.out.below hb)
                clear hb M5 HU5 HX5
                generalize v2.heap.size = gu at HU6 hug ⊢
                obtain ⟨W7, hW7⟩ : ∃ W, v6.setRow gt #[.slice Y L2.length cy, .string s2.digest, .int .i64 s2.account, .int .i64 s2.purpose, .string s2.channel, .int .i64 s2.expires, .int .i64 s2.tries, .int .i64 (er : Int)] = W := ⟨_, rfl⟩
                have hm := M6.out.trow hgt hne #[.slice Y L2.length cy, .string s2.digest, .int .i64 s2.account, .int .i64 s2.purpose, .string s2.channel, .int .i64 s2.expires, .int .i64 s2.tries, .int .i64 (er : Int)]
                have hk8 : Kept (fun b => b = go ∨ b = gt) v6 (v6.setRow gt #[.slice Y L2.length cy, .string s2.digest, .int .i64 s2.account, .int .i64 s2.purpose, .string s2.channel, .int .i64 s2.expires, .int .i64 s2.tries, .int .i64 (er : Int)]) := (Kept.refl _ v6).setRow (g := gt) (.inl (.inr rfl)) _
                rw [hW7] at hm hk8
                have M7 := Lib.hid hm
                have HW7 := Lib.hid hW7
                have HONE := Lib.hid (show (#[.slice Y L2.length cy, .string s2.digest, .int .i64 s2.account, .int .i64 s2.purpose, .string s2.channel, .int .i64 s2.expires, .int .i64 s2.tries, .int .i64 (er : Int)] : Array Value).all (·.oneCell') = true by simp [Value.oneCell'])
                clear hm hW7
                go_upto_region 23 with (refine wpList_store_named W7 rfl 73 _ _ rfl gt #[.slice Y L2.length cy, .string s2.digest, .int .i64 s2.account, .int .i64 s2.purpose, .string s2.channel, .int .i64 s2.expires, .int .i64 s2.tries, .int .i64 (er : Int)] rfl rfl 73 _ M6.out.t told_size rfl HONE.out HW7.out ?_)
                clear M6 HW7 HONE
                have hu7 := HU6.out.of (hk8.block _ HU6.out.lt (fun h => by rcases h with h | h; exact hug.1 h; exact hug.2 h))
                have HX7 := Lib.hid (HX6.out.kept hk8)
                have HY7 := Lib.hid (HY.out.kept hk8)
                have u0 : W7.cell? ⟨gu, 0, none⟩ = some (.string s2.digest) := (hu7.cell 0).trans rfl
                have u1 : W7.cell? ⟨gu, 1, none⟩ = some (.int .i64 s2.account) := (hu7.cell 1).trans rfl
                have u2 : W7.cell? ⟨gu, 2, none⟩ = some (.int .i64 s2.purpose) := (hu7.cell 2).trans rfl
                have u3 : W7.cell? ⟨gu, 3, none⟩ = some (.string s2.channel) := (hu7.cell 3).trans rfl
                have u4 : W7.cell? ⟨gu, 4, none⟩ = some (.int .i64 s2.expires) := (hu7.cell 4).trans rfl
                have u5 : W7.cell? ⟨gu, 5, none⟩ = some (.int .i64 s2.tries) := (hu7.cell 5).trans rfl
                have t1 : W7.cell? ⟨gt, 1, none⟩ = some (.string s2.digest) := (M7.out.t.cell 1).trans rfl
                have t2 : W7.cell? ⟨gt, 2, none⟩ = some (.int .i64 s2.account) := (M7.out.t.cell 2).trans rfl
                have t3 : W7.cell? ⟨gt, 3, none⟩ = some (.int .i64 s2.purpose) := (M7.out.t.cell 3).trans rfl
                have t4 : W7.cell? ⟨gt, 4, none⟩ = some (.string s2.channel) := (M7.out.t.cell 4).trans rfl
                have t5 : W7.cell? ⟨gt, 5, none⟩ = some (.int .i64 s2.expires) := (M7.out.t.cell 5).trans rfl
                have t6 : W7.cell? ⟨gt, 6, none⟩ = some (.int .i64 s2.tries) := (M7.out.t.cell 6).trans rfl
                have hsm := fun W => sec_same s2 W
                clear HX6 HY HU6 hk8 hu7
                go_wp2_with fail
                go_meet
                exact ⟨L2, X, cx, Y, cy, s2, er, rfl, rfl, hl2, hp2, Hcx.out, Hcy.out, HX7.out, HY7.out, M7.out⟩
          · have f3 : ((k7 : Int) == 3) = false := by simp; omega
            have f4 : ((k7 : Int) == 4) = false := by simp; omega
            have f5 : ((k7 : Int) == 5) = false := by simp; omega
            clear HAT
            by_cases h6 : k7 = 6
            · subst h6
              clear HSE f3 f4 f5
              as_aux_lemma =>
                obtain ⟨an, han, ean⟩ := and_mask o.n0 2 3 (by decide) (by decide)
                rw [show (2 : Nat) ^ 2 = 4 by decide] at han
                have hwa : IntKind.i64.wrap (1 + (an : Int)) = 1 + (an : Int) := by rw [IntKind.wrap_i64]; omega
                have t1 := Int.tmod_lt_of_pos o.n1 (show (0 : Int) < 7 by decide)
                have t2 : -7 < o.n1.tmod 7 := by
                  have := Int.tmod_lt_of_pos (-o.n1) (show (0 : Int) < 7 by decide)
                  rw [Int.neg_tmod] at this
                  omega
                obtain ⟨t7, et7⟩ : ∃ t, o.n1.tmod 7 = t := ⟨_, rfl⟩
                rw [et7] at t1 t2
                have hwt : IntKind.i64.wrap (t7 + 7) = t7 + 7 := by rw [IntKind.wrap_i64]; omega
                obtain ⟨p7, ep7⟩ : ∃ t, (t7 + 7).tmod 7 = t := ⟨_, rfl⟩
                obtain ⟨L2, hL2⟩ : ∃ l, Va.drop L (1 + (an : Int)) p7 = l := ⟨_, rfl⟩
                have hl2 : L2.length ≤ 42 := by have := len_drop L (1 + (an : Int)) p7; rw [hL2] at this; omega
                have hp2 : ∀ s ∈ L2, Pl s := hL2 ▸ pl_drop _ _ HPL.out
                have hd1 := fun W hW => drop_any (S := fun b => b = go ∨ b = gt) A cp L (by omega) HCP.out (1 + (an : Int)) p7 W hW
                have hd2 := fun W hW => rdrop_any (S := fun b => b = go ∨ b = gt) B cq L (by omega) (1 + (an : Int)) p7 W hW
                rw [hL2] at hd1 hd2
                have HD1 := Lib.hid hd1
                have HD2 := Lib.hid hd2
                clear hd1 hd2 hL2 t1 t2
                have n2 : W1.cell? ⟨go, 2, none⟩ = some (.int .i64 o.n0) := (M1.out.o.cell 2).trans rfl
                have n3 : W1.cell? ⟨go, 3, none⟩ = some (.int .i64 o.n1) := (M1.out.o.cell 3).trans rfl
                go_wp2_with fail
                refine (HD1.out _ M1.out.a).mono ?_
                rintro e v2 ⟨⟨v, rfl, hv⟩, hb⟩
                have hv := hv.in_round M1.out
                have M3 := Lib.hid (M1.out.next hb)
                obtain ⟨X, cx, rfl, hcx, hX⟩ := hv
                have HX := Lib.hid hX
                have Hcx := Lib.hid hcx
                clear hX hcx
                clear hb M1
                clear n2 n3
                have n2 : v2.cell? ⟨go, 2, none⟩ = some (.int .i64 o.n0) := (M3.out.o.cell 2).trans rfl
                have n3 : v2.cell? ⟨go, 3, none⟩ = some (.int .i64 o.n1) := (M3.out.o.cell 3).trans rfl
                go_wp2_with fail
                refine (HD2.out _ M3.out.b).mono ?_
                rintro e v6 ⟨⟨v, rfl, hv⟩, hb⟩
                have hv := hv.in_round M3.out
                have M6 := Lib.hid (M3.out.next hb)
                obtain ⟨Y, cy, rfl, hcy, hY⟩ := hv
                have HY := Lib.hid hY
                have Hcy := Lib.hid hcy
                clear hY hcy
                have HX6 := Lib.hid (HX.out.below hb)
                clear hb M3 HX
                clear n2 n3
                have t0 : v6.cell? ⟨gt, 0, none⟩ = some (.slice none 0 0) := (M6.out.t.cell 0).trans rfl
                have f0 : v6.frozen? ⟨gt, 0, none⟩ = false := M6.out.t.frozen 0
                go_upto_region 33 with fail
                clear t0 f0
                obtain ⟨W7, hW7⟩ : ∃ W, v6.setCell ⟨gt, 0, none⟩ (.slice Y L2.length cy) = W := ⟨_, rfl⟩
                have hm : Mid w go gt A B L #[.int .i64 o.kind, .int .i64 o.ticks, .int .i64 o.n0, .int .i64 o.n1, .int .i64 o.n2, .int .i64 o.n3, .bool o.raw, .string o.s.digest, .int .i64 o.s.account, .int .i64 o.s.purpose, .string o.s.channel, .int .i64 o.s.expires, .int .i64 o.s.tries, .int .i64 o.aa, .int .i64 o.ap, .string o.ac, .string o.al] #[.slice Y L2.length cy, .string ⟨#[]⟩, .int .i64 0, .int .i64 0, .string ⟨#[]⟩, .int .i64 0, .int .i64 0, .int .i64 0] (v6.setCell ⟨gt, 0, none⟩ (.slice Y L2.length cy)) := M6.out.tset hgt hne 0 (.slice Y L2.length cy)
                have hk8 : Kept (fun b => b = go ∨ b = gt) v6 (v6.setCell ⟨gt, 0, none⟩ (.slice Y L2.length cy)) := (Kept.refl _ v6).setCell (p := ⟨gt, 0, none⟩) (.inl (.inr rfl)) _
                rw [hW7] at hm hk8
                simp only [hW7]
                have M7 := Lib.hid hm
                clear hm M6 hW7
                have HX7 := Lib.hid (HX6.out.kept hk8)
                have HY7 := Lib.hid (HY.out.kept hk8)
                clear HX6 HY hk8
                go_meet
                exact ⟨L2, X, cx, Y, cy, ⟨⟨#[]⟩, 0, 0, ⟨#[]⟩, 0, 0⟩, 0, rfl, rfl, hl2, hp2, Hcx.out, Hcy.out, HX7.out, HY7.out, M7.out⟩
            · have f6 : ((k7 : Int) == 6) = false := by simp; omega
              by_cases h7 : k7 = 7
              · subst h7
                clear HSE f3 f4 f5 f6
                as_aux_lemma =>
                  obtain ⟨L2, hL2⟩ : ∃ l, Va.sweep L now2 = l := ⟨_, rfl⟩
                  have hl2 : L2.length ≤ 42 := by have := len_sweep L now2; rw [hL2] at this; omega
                  have hp2 : ∀ s ∈ L2, Pl s := hL2 ▸ pl_sweep _ HPL.out
                  have hd1 := fun W hW => sweep_any (S := fun b => b = go ∨ b = gt) A cp L (by omega) HCP.out now2 W hW
                  have hd2 := fun W hW => rsweep_any (S := fun b => b = go ∨ b = gt) B cq L (by omega) now2 W hW
                  rw [hL2] at hd1 hd2
                  have HW1 := Lib.hid hd1
                  have HW2 := Lib.hid hd2
                  clear hd1 hd2 hL2
                  go_wp2_with fail
                  refine (HW1.out _ M1.out.a).mono ?_
                  rintro e v2 ⟨⟨v, rfl, hv⟩, hb⟩
                  have hv := hv.in_round M1.out
                  have M3 := Lib.hid (M1.out.next hb)
                  obtain ⟨X, cx, rfl, hcx, hX⟩ := hv
                  have HX := Lib.hid hX
                  have Hcx := Lib.hid hcx
                  clear hX hcx
                  clear hb M1
                  go_wp2_with fail
                  refine (HW2.out _ M3.out.b).mono ?_
                  rintro e v6 ⟨⟨v, rfl, hv⟩, hb⟩
                  have hv := hv.in_round M3.out
                  have M6 := Lib.hid (M3.out.next hb)
                  obtain ⟨Y, cy, rfl, hcy, hY⟩ := hv
                  have HY := Lib.hid hY
                  have Hcy := Lib.hid hcy
                  clear hY hcy
                  have HX6 := Lib.hid (HX.out.below hb)
                  clear hb M3 HX
                  have t0 : v6.cell? ⟨gt, 0, none⟩ = some (.slice none 0 0) := (M6.out.t.cell 0).trans rfl
                  have f0 : v6.frozen? ⟨gt, 0, none⟩ = false := M6.out.t.frozen 0
                  go_upto_region 33 with fail
                  clear t0 f0
                  obtain ⟨W7, hW7⟩ : ∃ W, v6.setCell ⟨gt, 0, none⟩ (.slice Y L2.length cy) = W := ⟨_, rfl⟩
                  have hm : Mid w go gt A B L #[.int .i64 o.kind, .int .i64 o.ticks, .int .i64 o.n0, .int .i64 o.n1, .int .i64 o.n2, .int .i64 o.n3, .bool o.raw, .string o.s.digest, .int .i64 o.s.account, .int .i64 o.s.purpose, .string o.s.channel, .int .i64 o.s.expires, .int .i64 o.s.tries, .int .i64 o.aa, .int .i64 o.ap, .string o.ac, .string o.al] #[.slice Y L2.length cy, .string ⟨#[]⟩, .int .i64 0, .int .i64 0, .string ⟨#[]⟩, .int .i64 0, .int .i64 0, .int .i64 0] (v6.setCell ⟨gt, 0, none⟩ (.slice Y L2.length cy)) := M6.out.tset hgt hne 0 (.slice Y L2.length cy)
                  have hk8 : Kept (fun b => b = go ∨ b = gt) v6 (v6.setCell ⟨gt, 0, none⟩ (.slice Y L2.length cy)) := (Kept.refl _ v6).setCell (p := ⟨gt, 0, none⟩) (.inl (.inr rfl)) _
                  rw [hW7] at hm hk8
                  simp only [hW7]
                  have M7 := Lib.hid hm
                  clear hm M6 hW7
                  have HX7 := Lib.hid (HX6.out.kept hk8)
                  have HY7 := Lib.hid (HY.out.kept hk8)
                  clear HX6 HY hk8
                  go_meet
                  exact ⟨L2, X, cx, Y, cy, ⟨⟨#[]⟩, 0, 0, ⟨#[]⟩, 0, 0⟩, 0, rfl, rfl, hl2, hp2, Hcx.out, Hcy.out, HX7.out, HY7.out, M7.out⟩
              · have f7 : ((k7 : Int) == 7) = false := by simp; omega
                clear h35 h6 h7
                as_aux_lemma =>
                  have hpl := pl_sec o.n0 o.n1 o.n2 o.n3 now2
                  have hrt := sec_right o.n0 o.n1 o.n2 o.n3 now2
                  generalize secQ o.n0 o.n1 o.n2 o.n3 now2 = S0 at hpl hrt HSE
                  rw [sec_row] at HSE
                  have hpu1 := fun W hW hW2 => put_any (S := fun b => b = go ∨ b = gt) A cp L (by omega) HCP.out S0 hpl.ch W hW hW2
                  have hpu2 := fun W hW hW2 => rput_any (S := fun b => b = go ∨ b = gt) B cq L (by omega) HCQ.out S0 hpl.ch W hW hW2
                  rw [hrt] at hpu1 hpu2
                  have hl2 := len_put true L S0 hL42
                  have hp2 := pl_put true HPL.out hpl
                  generalize (Va.put true L S0).1 = L2 at hpu1 hpu2 hl2 hp2
                  generalize (Va.put true L S0).2 = er at hpu1 hpu2
                  have HPUT := Lib.hid hpu1
                  have HPUT2 := Lib.hid hpu2
                  clear hpu1 hpu2 hpl hrt
                  have n2 : W1.cell? ⟨go, 2, none⟩ = some (.int .i64 o.n0) := (M1.out.o.cell 2).trans rfl
                  have n3 : W1.cell? ⟨go, 3, none⟩ = some (.int .i64 o.n1) := (M1.out.o.cell 3).trans rfl
                  have n4 : W1.cell? ⟨go, 4, none⟩ = some (.int .i64 o.n2) := (M1.out.o.cell 4).trans rfl
                  have n5 : W1.cell? ⟨go, 5, none⟩ = some (.int .i64 o.n3) := (M1.out.o.cell 5).trans rfl
                  go_wp2_with fail
                  refine (HSE.out _).mono ?_
                  rintro e v1 ⟨rfl, hb⟩
                  clear n2 n3 n4 n5
                  have M2 := Lib.hid (M1.out.next hb)
                  clear hb M1
                  go_wp2_with fail
                  refine (HPUT.out _ (HR.out.next M2.out.bel).max M2.out.a).mono ?_
                  rintro e v2 ⟨⟨v, rfl, hv⟩, hb⟩
                  have hv := hv.in_round M2.out
                  have M3 := Lib.hid (M2.out.next hb)
                  obtain ⟨X, cx, rfl, hcx, hX⟩ := hv
                  have HX := Lib.hid hX
                  have Hcx := Lib.hid hcx
                  clear hX hcx
                  clear hb M2
                  have n2 : v2.cell? ⟨go, 2, none⟩ = some (.int .i64 o.n0) := (M3.out.o.cell 2).trans rfl
                  have n3 : v2.cell? ⟨go, 3, none⟩ = some (.int .i64 o.n1) := (M3.out.o.cell 3).trans rfl
                  have n4 : v2.cell? ⟨go, 4, none⟩ = some (.int .i64 o.n2) := (M3.out.o.cell 4).trans rfl
                  have n5 : v2.cell? ⟨go, 5, none⟩ = some (.int .i64 o.n3) := (M3.out.o.cell 5).trans rfl
                  go_wp2_with fail
                  refine (HSE.out _).mono ?_
                  rintro e v5 ⟨rfl, hb⟩
                  clear n2 n3 n4 n5
                  have M5 := Lib.hid (M3.out.next hb)
                  have HX5 := Lib.hid (HX.out.below hb)
                  clear hb M3 HX
                  go_wp2_with fail
                  refine (HPUT2.out _ M5.out.below M5.out.b).mono ?_
                  rintro e v6 ⟨⟨v, rfl, hv⟩, hb⟩
                  have M6 := Lib.hid (M5.out.next hb)
                  obtain ⟨Y, cy, rfl, hcy, hY⟩ := hv
                  have HY := Lib.hid hY
                  have Hcy := Lib.hid hcy
                  clear hY hcy
                  have HX6 := Lib.hid (HX5.out.below hb)
                  clear hb M5 HX5
                  obtain ⟨W7, hW7⟩ : ∃ W, v6.setRow gt #[.slice Y L2.length cy, .string ⟨#[]⟩, .int .i64 0, .int .i64 0, .string ⟨#[]⟩, .int .i64 0, .int .i64 0, .int .i64 (er : Int)] = W := ⟨_, rfl⟩
                  have hm := M6.out.trow hgt hne #[.slice Y L2.length cy, .string ⟨#[]⟩, .int .i64 0, .int .i64 0, .string ⟨#[]⟩, .int .i64 0, .int .i64 0, .int .i64 (er : Int)]
                  have hk8 : Kept (fun b => b = go ∨ b = gt) v6 (v6.setRow gt #[.slice Y L2.length cy, .string ⟨#[]⟩, .int .i64 0, .int .i64 0, .string ⟨#[]⟩, .int .i64 0, .int .i64 0, .int .i64 (er : Int)]) := (Kept.refl _ v6).setRow (g := gt) (.inl (.inr rfl)) _
                  rw [hW7] at hm hk8
                  have M7 := Lib.hid hm
                  have HW7 := Lib.hid hW7
                  have HONE := Lib.hid (show (#[.slice Y L2.length cy, .string ⟨#[]⟩, .int .i64 0, .int .i64 0, .string ⟨#[]⟩, .int .i64 0, .int .i64 0, .int .i64 (er : Int)] : Array Value).all (·.oneCell') = true by simp [Value.oneCell'])
                  clear hm hW7
                  go_upto_region 33 with (refine wpList_store_named W7 rfl 73 _ _ rfl gt #[.slice Y L2.length cy, .string ⟨#[]⟩, .int .i64 0, .int .i64 0, .string ⟨#[]⟩, .int .i64 0, .int .i64 0, .int .i64 (er : Int)] rfl rfl 73 _ M6.out.t told_size rfl HONE.out HW7.out ?_)
                  clear M6 HW7 HONE
                  have HX7 := Lib.hid (HX6.out.kept hk8)
                  have HY7 := Lib.hid (HY.out.kept hk8)
                  clear HX6 HY hk8
                  go_meet
                  exact ⟨L2, X, cx, Y, cy, ⟨⟨#[]⟩, 0, 0, ⟨#[]⟩, 0, 0⟩, er, rfl, rfl, hl2, hp2, Hcx.out, Hcy.out, HX7.out, HY7.out, M7.out⟩
        case rest =>
          as_aux_lemma =>
            obtain ⟨L2, X, cx, Y, cy, s2, er, rfl, rfl, hl2, hp2, hcx, hcy, hX, hY, hM⟩ := hcut
            have HX := Lib.hid hX
            have HY := Lib.hid hY
            have HCX := Lib.hid hcx
            have HCY := Lib.hid hcy
            have HP2 := Lib.hid hp2
            have M1 := Lib.hid hM
            have HSM := Lib.hid (rsame_any X Y cx cy L2 (by omega) wc hX hY)
            have t0 : wc.cell? ⟨gt, 0, none⟩ = some (.slice Y L2.length cy) := (hM.t.cell 0).trans rfl
            clear hX hY hcx hcy hp2 hM HAT HSE HCP HCQ HPL hL42
            go_wp2_with fail
            refine HSM.out.mono ?_
            rintro e v1 ⟨rfl, hb⟩
            have HM := M1.out.next hb
            have M2 : Hid (Mid w go gt X Y L2 #[.int .i64 o.kind, .int .i64 o.ticks, .int .i64 o.n0, .int .i64 o.n1, .int .i64 o.n2, .int .i64 o.n3, .bool o.raw, .string o.s.digest, .int .i64 o.s.account, .int .i64 o.s.purpose, .string o.s.channel, .int .i64 o.s.expires, .int .i64 o.s.tries, .int .i64 o.aa, .int .i64 o.ap, .string o.ac, .string o.al] #[.slice Y L2.length cy, .string s2.digest, .int .i64 s2.account, .int .i64 s2.purpose, .string s2.channel, .int .i64 s2.expires, .int .i64 s2.tries, .int .i64 (er : Int)] v1) := Lib.hid ⟨HM.o, HM.t, HX.out.below hb, HY.out.below hb, HM.bel⟩
            have t0 : v1.cell? ⟨gt, 0, none⟩ = some (.slice Y L2.length cy) := (HM.t.cell 0).trans rfl
            have t7 : v1.cell? ⟨gt, 7, none⟩ = some (.int .i64 (er : Int)) := (HM.t.cell 7).trans rfl
            have n6 : v1.cell? ⟨go, 6, none⟩ = some (.bool o.raw) := (HM.o.cell 6).trans rfl
            clear hb HM HX HY M1 HSM
            go_upto_if 164 with fail
            clear t0 t7 n6
            go_cut [21, 22, 23, 24, 25, 26, 27, 28, 29, 30] from 38 to 300 (fun _ _ _ _ _ _ _ _ _ _ wx => ∃ oc, Mid w go gt X Y L2 oc #[.slice Y L2.length cy, .string s2.digest, .int .i64 s2.account, .int .i64 s2.purpose, .string s2.channel, .int .i64 s2.expires, .int .i64 s2.tries, .int .i64 (er : Int)] wx ∧ oc[2]? = some (.int .i64 o.n0) ∧ oc[3]? = some (.int .i64 o.n1) ∧ oc[4]? = some (.int .i64 o.n2) ∧ oc[5]? = some (.int .i64 o.n3))
            case first =>
              obtain ⟨rw_, hraw⟩ : ∃ b, o.raw = b := ⟨_, rfl⟩
              simp only [hraw]
              cases rw_
              · go_wp2_with fail
                go_meet
                exact ⟨_, M2.out, rfl, rfl, rfl, rfl⟩
              ·
                as_aux_lemma =>
                  have hd1 := cut_size o.s.digest 40
                  have hc1 := cut_size o.s.channel 50
                  have hc2 := cut_size o.ac 50
                  have hc3 := cut_size o.al 50
                  have SH1 := Lib.hid (fun W => short_any o.s.digest 40 HOK.out.dig W)
                  have SH2 := Lib.hid (fun W => short_any o.s.channel 50 HOK.out.ch W)
                  have SH3 := Lib.hid (fun W => short_any o.ac 50 HOK.out.ac W)
                  have SH4 := Lib.hid (fun W => short_any o.al 50 HOK.out.al W)
                  obtain ⟨D1, hD1⟩ : ∃ D, cut o.s.digest 40 = D := ⟨_, rfl⟩
                  obtain ⟨C1, hC1⟩ : ∃ D, cut o.s.channel 50 = D := ⟨_, rfl⟩
                  obtain ⟨AC, hAC⟩ : ∃ D, cut o.ac 50 = D := ⟨_, rfl⟩
                  obtain ⟨AL, hAL⟩ : ∃ D, cut o.al 50 = D := ⟨_, rfl⟩
                  rw [hD1] at hd1 SH1
                  rw [hC1] at hc1 SH2
                  rw [hAC] at hc2 SH3
                  rw [hAL] at hc3 SH4
                  obtain ⟨dl, hdl⟩ : ∃ d : List UInt8, ba d = AL := ⟨AL.data.toList, ba_back AL⟩
                  have hdn : dl.length ≤ 50000 := by rw [← ba_size, hdl]; omega
                  obtain ⟨L4, s4, er4, hl4, hp4, hpr1, hpr2⟩ := both_present L2 hl2 HP2.out o.aa o.ap AC dl hdn now2
                  rw [hdl] at hpr1 hpr2
                  have HP1 := Lib.hid hpr1
                  have HP3 := Lib.hid hpr2
                  have hpu1 := fun W hW hW2 => put_any (S := fun b => b = go ∨ b = gt) X cx L2 (by omega) HCX.out ⟨D1, o.s.account, o.s.purpose, C1, o.s.expires, o.s.tries⟩ (show C1.size ≤ 50000 by omega) W hW hW2
                  have hpu2 := fun W hW hW2 => rput_any (S := fun b => b = go ∨ b = gt) Y cy L2 (by omega) HCY.out ⟨D1, o.s.account, o.s.purpose, C1, o.s.expires, o.s.tries⟩ (show C1.size ≤ 50000 by omega) W hW hW2
                  obtain ⟨L3, hL3⟩ : ∃ l, (Va.put (rightS ⟨D1, o.s.account, o.s.purpose, C1, o.s.expires, o.s.tries⟩) L2 ⟨D1, o.s.account, o.s.purpose, C1, o.s.expires, o.s.tries⟩).1 = l := ⟨_, rfl⟩
                  obtain ⟨er3, her3⟩ : ∃ l, (Va.put (rightS ⟨D1, o.s.account, o.s.purpose, C1, o.s.expires, o.s.tries⟩) L2 ⟨D1, o.s.account, o.s.purpose, C1, o.s.expires, o.s.tries⟩).2 = l := ⟨_, rfl⟩
                  have hl3 : L3.length ≤ 42 := by rw [← hL3]; exact len_put _ _ _ hl2
                  rw [hL3, her3] at hpu1 hpu2
                  have HU1 := Lib.hid hpu1
                  have HU2 := Lib.hid hpu2
                  clear hpr1 hpr2 hpu1 hpu2 hL3 her3 hdl hD1 hC1 hAC hAL hp4
                  have n7 : v1.cell? ⟨go, 7, none⟩ = some (.string o.s.digest) := (M2.out.o.cell 7).trans rfl
                  have f7 : v1.frozen? ⟨go, 7, none⟩ = false := M2.out.o.frozen 7
                  go_wp2_with fail
                  refine (SH1.out _).mono ?_
                  rintro e w9 ⟨rfl, rfl⟩
                  go_upto_region 40 with fail
                  clear n7 f7
                  obtain ⟨W3, hW3⟩ : ∃ W, v1.setCell ⟨go, 7, none⟩ (.string D1) = W := ⟨_, rfl⟩
                  have hm : Mid w go gt X Y L2 #[.int .i64 o.kind, .int .i64 o.ticks, .int .i64 o.n0, .int .i64 o.n1, .int .i64 o.n2, .int .i64 o.n3, .bool o.raw, .string D1, .int .i64 o.s.account, .int .i64 o.s.purpose, .string o.s.channel, .int .i64 o.s.expires, .int .i64 o.s.tries, .int .i64 o.aa, .int .i64 o.ap, .string o.ac, .string o.al] #[.slice Y L2.length cy, .string s2.digest, .int .i64 s2.account, .int .i64 s2.purpose, .string s2.channel, .int .i64 s2.expires, .int .i64 s2.tries, .int .i64 (er : Int)] (v1.setCell ⟨go, 7, none⟩ (.string D1)) := M2.out.oset hgo hne 7 (.string D1)
                  rw [hW3] at hm
                  simp only [hW3]
                  have M3 := Lib.hid hm
                  clear hm M2 hW3
                  have n10 : W3.cell? ⟨go, 10, none⟩ = some (.string o.s.channel) := (M3.out.o.cell 10).trans rfl
                  have f10 : W3.frozen? ⟨go, 10, none⟩ = false := M3.out.o.frozen 10
                  go_wp2_with fail
                  refine (SH2.out _).mono ?_
                  rintro e w9 ⟨rfl, rfl⟩
                  go_upto_region 41 with fail
                  clear n10 f10
                  obtain ⟨W4, hW4⟩ : ∃ W, W3.setCell ⟨go, 10, none⟩ (.string C1) = W := ⟨_, rfl⟩
                  have hm : Mid w go gt X Y L2 #[.int .i64 o.kind, .int .i64 o.ticks, .int .i64 o.n0, .int .i64 o.n1, .int .i64 o.n2, .int .i64 o.n3, .bool o.raw, .string D1, .int .i64 o.s.account, .int .i64 o.s.purpose, .string C1, .int .i64 o.s.expires, .int .i64 o.s.tries, .int .i64 o.aa, .int .i64 o.ap, .string o.ac, .string o.al] #[.slice Y L2.length cy, .string s2.digest, .int .i64 s2.account, .int .i64 s2.purpose, .string s2.channel, .int .i64 s2.expires, .int .i64 s2.tries, .int .i64 (er : Int)] (W3.setCell ⟨go, 10, none⟩ (.string C1)) := M3.out.oset hgo hne 10 (.string C1)
                  rw [hW4] at hm
                  simp only [hW4]
                  have M4 := Lib.hid hm
                  clear hm M3 hW4
                  have n15 : W4.cell? ⟨go, 15, none⟩ = some (.string o.ac) := (M4.out.o.cell 15).trans rfl
                  have f15 : W4.frozen? ⟨go, 15, none⟩ = false := M4.out.o.frozen 15
                  go_wp2_with fail
                  refine (SH3.out _).mono ?_
                  rintro e w9 ⟨rfl, rfl⟩
                  go_upto_region 42 with fail
                  clear n15 f15
                  obtain ⟨W5, hW5⟩ : ∃ W, W4.setCell ⟨go, 15, none⟩ (.string AC) = W := ⟨_, rfl⟩
                  have hm : Mid w go gt X Y L2 #[.int .i64 o.kind, .int .i64 o.ticks, .int .i64 o.n0, .int .i64 o.n1, .int .i64 o.n2, .int .i64 o.n3, .bool o.raw, .string D1, .int .i64 o.s.account, .int .i64 o.s.purpose, .string C1, .int .i64 o.s.expires, .int .i64 o.s.tries, .int .i64 o.aa, .int .i64 o.ap, .string AC, .string o.al] #[.slice Y L2.length cy, .string s2.digest, .int .i64 s2.account, .int .i64 s2.purpose, .string s2.channel, .int .i64 s2.expires, .int .i64 s2.tries, .int .i64 (er : Int)] (W4.setCell ⟨go, 15, none⟩ (.string AC)) := M4.out.oset hgo hne 15 (.string AC)
                  rw [hW5] at hm
                  simp only [hW5]
                  have M5 := Lib.hid hm
                  clear hm M4 hW5
                  have n16 : W5.cell? ⟨go, 16, none⟩ = some (.string o.al) := (M5.out.o.cell 16).trans rfl
                  have f16 : W5.frozen? ⟨go, 16, none⟩ = false := M5.out.o.frozen 16
                  go_wp2_with fail
                  refine (SH4.out _).mono ?_
                  rintro e w9 ⟨rfl, rfl⟩
                  go_upto_region 43 with fail
                  clear n16 f16
                  obtain ⟨W6, hW6⟩ : ∃ W, W5.setCell ⟨go, 16, none⟩ (.string AL) = W := ⟨_, rfl⟩
                  have hm : Mid w go gt X Y L2 #[.int .i64 o.kind, .int .i64 o.ticks, .int .i64 o.n0, .int .i64 o.n1, .int .i64 o.n2, .int .i64 o.n3, .bool o.raw, .string D1, .int .i64 o.s.account, .int .i64 o.s.purpose, .string C1, .int .i64 o.s.expires, .int .i64 o.s.tries, .int .i64 o.aa, .int .i64 o.ap, .string AC, .string AL] #[.slice Y L2.length cy, .string s2.digest, .int .i64 s2.account, .int .i64 s2.purpose, .string s2.channel, .int .i64 s2.expires, .int .i64 s2.tries, .int .i64 (er : Int)] (W5.setCell ⟨go, 16, none⟩ (.string AL)) := M5.out.oset hgo hne 16 (.string AL)
                  rw [hW6] at hm
                  simp only [hW6]
                  have M6 := Lib.hid hm
                  clear hm M5 hW6
                  as_aux_lemma =>
                    have n7 : W6.cell? ⟨go, 7, none⟩ = some (.string D1) := (M6.out.o.cell 7).trans rfl
                    have n8 : W6.cell? ⟨go, 8, none⟩ = some (.int .i64 o.s.account) := (M6.out.o.cell 8).trans rfl
                    have n9 : W6.cell? ⟨go, 9, none⟩ = some (.int .i64 o.s.purpose) := (M6.out.o.cell 9).trans rfl
                    have n10 : W6.cell? ⟨go, 10, none⟩ = some (.string C1) := (M6.out.o.cell 10).trans rfl
                    have n11 : W6.cell? ⟨go, 11, none⟩ = some (.int .i64 o.s.expires) := (M6.out.o.cell 11).trans rfl
                    have n12 : W6.cell? ⟨go, 12, none⟩ = some (.int .i64 o.s.tries) := (M6.out.o.cell 12).trans rfl
                    go_wp2_with fail
                    refine (HU1.out _ (HR.out.next M6.out.bel).max M6.out.a).mono ?_
                    rintro e v7 ⟨⟨v, rfl, hv⟩, hb⟩
                    have hv := hv.in_round M6.out
                    have M7 := Lib.hid (M6.out.next hb)
                    obtain ⟨P3, cp3, rfl, hcp3, hP3⟩ := hv
                    have HP3r := Lib.hid hP3
                    have Hcp3 := Lib.hid hcp3
                    clear hP3 hcp3
                    clear hb M6 n7 n8 n9 n10 n11 n12
                    have n7 : v7.cell? ⟨go, 7, none⟩ = some (.string D1) := (M7.out.o.cell 7).trans rfl
                    have n8 : v7.cell? ⟨go, 8, none⟩ = some (.int .i64 o.s.account) := (M7.out.o.cell 8).trans rfl
                    have n9 : v7.cell? ⟨go, 9, none⟩ = some (.int .i64 o.s.purpose) := (M7.out.o.cell 9).trans rfl
                    have n10 : v7.cell? ⟨go, 10, none⟩ = some (.string C1) := (M7.out.o.cell 10).trans rfl
                    have n11 : v7.cell? ⟨go, 11, none⟩ = some (.int .i64 o.s.expires) := (M7.out.o.cell 11).trans rfl
                    have n12 : v7.cell? ⟨go, 12, none⟩ = some (.int .i64 o.s.tries) := (M7.out.o.cell 12).trans rfl
                    go_wp2_with fail
                    refine (HU2.out _ M7.out.below M7.out.b).mono ?_
                    rintro e v8 ⟨⟨v, rfl, hv⟩, hb⟩
                    have M8 := Lib.hid (M7.out.next hb)
                    have HP38 := Lib.hid (HP3r.out.below hb)
                    obtain ⟨Q3, cq3, rfl, hcq3, hQ3⟩ := hv
                    have HQ3 := Lib.hid hQ3
                    have Hcq3 := Lib.hid hcq3
                    clear hQ3 hcq3
                    clear hb M7 HP3r n7 n8 n9 n10 n11 n12
                    as_aux_lemma =>
                      have n13 : v8.cell? ⟨go, 13, none⟩ = some (.int .i64 o.aa) := (M8.out.o.cell 13).trans rfl
                      have n14 : v8.cell? ⟨go, 14, none⟩ = some (.int .i64 o.ap) := (M8.out.o.cell 14).trans rfl
                      have n15 : v8.cell? ⟨go, 15, none⟩ = some (.string AC) := (M8.out.o.cell 15).trans rfl
                      have n16 : v8.cell? ⟨go, 16, none⟩ = some (.string AL) := (M8.out.o.cell 16).trans rfl
                      go_wp2_with fail
                      refine (HP1.out _ _ _ HCX.out _ (HR.out.next M8.out.bel) M8.out.a).mono ?_
                      rintro e v9 ⟨⟨v, rfl, hv⟩, hb⟩
                      have hv := hv.in_round M8.out
                      have M9 := Lib.hid (M8.out.next hb)
                      have HP39 := Lib.hid (HP38.out.below hb)
                      have HQ39 := Lib.hid (HQ3.out.below hb)
                      obtain ⟨P4, cp4, rfl, hcp4, hP4⟩ := hv
                      have HP4 := Lib.hid hP4
                      have Hcp4 := Lib.hid hcp4
                      clear hP4 hcp4
                      clear hb M8 HP38 HQ3 n13 n14 n15 n16
                      have hal := (Below.refl _ v9).alloc (Nat.le_refl _) (.cells #[.string s4.digest, .int .i64 s4.account, .int .i64 s4.purpose, .string s4.channel, .int .i64 s4.expires, .int .i64 s4.tries] 26)
                      have M10 := Lib.hid (M9.out.next hal)
                      have HPX := Lib.hid (HP39.out.below hal)
                      have HQX := Lib.hid (HQ39.out.below hal)
                      have HP4X := Lib.hid (HP4.out.below hal)
                      have HS4 := Lib.hid (Blk.new v9 26 #[.string s4.digest, .int .i64 s4.account, .int .i64 s4.purpose, .string s4.channel, .int .i64 s4.expires, .int .i64 s4.tries])
                      have n13 : ∀ x, (v9.alloc x).cell? ⟨go, 13, none⟩ = some (.int .i64 o.aa) := fun x => ((M9.out.o.alloc x).cell 13).trans rfl
                      have n14 : ∀ x, (v9.alloc x).cell? ⟨go, 14, none⟩ = some (.int .i64 o.ap) := fun x => ((M9.out.o.alloc x).cell 14).trans rfl
                      have n15 : ∀ x, (v9.alloc x).cell? ⟨go, 15, none⟩ = some (.string AC) := fun x => ((M9.out.o.alloc x).cell 15).trans rfl
                      have n16 : ∀ x, (v9.alloc x).cell? ⟨go, 16, none⟩ = some (.string AL) := fun x => ((M9.out.o.alloc x).cell 16).trans rfl
                      clear hal M9 HP39 HQ39 HP4
                      go_wp2_with fail
                      refine (HP3.out _ _ _ HCY.out _ M10.out.below M10.out.b).mono ?_
                      rintro e v11 ⟨⟨v, rfl, hv⟩, hb⟩
                      have hv := hv
                      have HPY := Lib.hid (HPX.out.below hb)
                      have HQY := Lib.hid (HQX.out.below hb)
                      have HP4Y := Lib.hid (HP4X.out.below hb)
                      have HS4Y := Lib.hid (HS4.out.of (hb.block _ HS4.out.lt))
                      have M11 := Lib.hid (M10.out.next hb)
                      obtain ⟨Q4, cq4, rfl, hcq4, hQ4⟩ := hv
                      have HQ4 := Lib.hid hQ4
                      have Hcq4 := Lib.hid hcq4
                      clear hQ4 hcq4
                      clear hb M10 HPX HQX HP4X HS4 n13 n14 n15 n16
                      have hal := (Below.refl _ v11).alloc (Nat.le_refl _) (.cells #[.slice Q4 L4.length cq4, .string s4.digest, .int .i64 s4.account, .int .i64 s4.purpose, .string s4.channel, .int .i64 s4.expires, .int .i64 s4.tries, .int .i64 (er4 : Int)] 73)
                      have M12 := Lib.hid (M11.out.next hal)
                      have HPZ := Lib.hid (HPY.out.below hal)
                      have HQZ := Lib.hid (HQY.out.below hal)
                      have HP4Z := Lib.hid (HP4Y.out.below hal)
                      have HQ4Z := Lib.hid (HQ4.out.below hal)
                      have HS4Z := Lib.hid (HS4Y.out.of (hal.block _ HS4Y.out.lt))
                      have HT4 := Lib.hid (Blk.new v11 73 #[.slice Q4 L4.length cq4, .string s4.digest, .int .i64 s4.account, .int .i64 s4.purpose, .string s4.channel, .int .i64 s4.expires, .int .i64 s4.tries, .int .i64 (er4 : Int)])
                      have HSM3 := Lib.hid (rsame_any P3 Q3 cp3 cq3 L3 (by omega) _ HPZ.out HQZ.out)
                      clear hal M11 HPY HQY HP4Y HQ4 HS4Y
                      as_aux_lemma =>
                        go_wp2_with fail
                        refine HSM3.out.mono ?_
                        rintro e v13 ⟨rfl, hb⟩
                        have M13 := Lib.hid (M12.out.next hb)
                        have HP4V := Lib.hid (HP4Z.out.below hb)
                        have HQ4V := Lib.hid (HQ4Z.out.below hb)
                        have HS4V := Lib.hid (HS4Z.out.of (hb.block _ HS4Z.out.lt))
                        have HT4V := Lib.hid (HT4.out.of (hb.block _ HT4.out.lt))
                        have HSM4 := Lib.hid (rsame_any P4 Q4 cp4 cq4 L4 (by omega) _ HP4V.out HQ4V.out)
                        have t0 : v13.cell? ⟨v11.heap.size, 0, none⟩ = some (.slice Q4 L4.length cq4) := (HT4V.out.cell 0).trans rfl
                        clear hb M12 HPZ HQZ HP4Z HQ4Z HS4Z HT4 HSM3
                        go_wp2_with fail
                        refine HSM4.out.mono ?_
                        rintro e v14 ⟨rfl, hb⟩
                        have M14 := Lib.hid (M13.out.next hb)
                        have hs4 := HS4V.out.of (hb.block _ HS4V.out.lt)
                        have ht4 := HT4V.out.of (hb.block _ HT4V.out.lt)
                        have u0 : v14.cell? ⟨v9.heap.size, 0, none⟩ = some (.string s4.digest) := (hs4.cell 0).trans rfl
                        have u1 : v14.cell? ⟨v9.heap.size, 1, none⟩ = some (.int .i64 s4.account) := (hs4.cell 1).trans rfl
                        have u2 : v14.cell? ⟨v9.heap.size, 2, none⟩ = some (.int .i64 s4.purpose) := (hs4.cell 2).trans rfl
                        have u3 : v14.cell? ⟨v9.heap.size, 3, none⟩ = some (.string s4.channel) := (hs4.cell 3).trans rfl
                        have u4 : v14.cell? ⟨v9.heap.size, 4, none⟩ = some (.int .i64 s4.expires) := (hs4.cell 4).trans rfl
                        have u5 : v14.cell? ⟨v9.heap.size, 5, none⟩ = some (.int .i64 s4.tries) := (hs4.cell 5).trans rfl
                        have t1 : v14.cell? ⟨v11.heap.size, 1, none⟩ = some (.string s4.digest) := (ht4.cell 1).trans rfl
                        have t2 : v14.cell? ⟨v11.heap.size, 2, none⟩ = some (.int .i64 s4.account) := (ht4.cell 2).trans rfl
                        have t3 : v14.cell? ⟨v11.heap.size, 3, none⟩ = some (.int .i64 s4.purpose) := (ht4.cell 3).trans rfl
                        have t4 : v14.cell? ⟨v11.heap.size, 4, none⟩ = some (.string s4.channel) := (ht4.cell 4).trans rfl
                        have t5 : v14.cell? ⟨v11.heap.size, 5, none⟩ = some (.int .i64 s4.expires) := (ht4.cell 5).trans rfl
                        have t6 : v14.cell? ⟨v11.heap.size, 6, none⟩ = some (.int .i64 s4.tries) := (ht4.cell 6).trans rfl
                        have t7 : v14.cell? ⟨v11.heap.size, 7, none⟩ = some (.int .i64 (er4 : Int)) := (ht4.cell 7).trans rfl
                        have hsm := fun W => sec_same s4 W
                        clear hb M13 HP4V HQ4V HS4V HT4V HSM4 hs4 ht4 t0
                        as_aux_lemma =>
                          go_wp2_with fail
                          go_meet
                          exact ⟨_, M14.out, rfl, rfl, rfl, rfl⟩
            case rest =>
              obtain ⟨oc, hM, o2, o3, o4, o5⟩ := hcut
              have MF := Lib.hid hM
              have n2 : wc.cell? ⟨go, 2, none⟩ = some (.int .i64 o.n0) := (hM.o.cell 2).trans o2
              have n3 : wc.cell? ⟨go, 3, none⟩ = some (.int .i64 o.n1) := (hM.o.cell 3).trans o3
              have n4 : wc.cell? ⟨go, 4, none⟩ = some (.int .i64 o.n2) := (hM.o.cell 4).trans o4
              have n5 : wc.cell? ⟨go, 5, none⟩ = some (.int .i64 o.n3) := (hM.o.cell 5).trans o5
              obtain ⟨an, han, ean⟩ := and_mask o.n0 2 3 (by decide) (by decide)
              obtain ⟨pn, hpn, epn⟩ := and_mask o.n1 3 7 (by decide) (by decide)
              rw [show (2 : Nat) ^ 2 = 4 by decide] at han
              rw [show (2 : Nat) ^ 3 = 8 by decide] at hpn
              have hwa : IntKind.i64.wrap (1 + (an : Int)) = 1 + (an : Int) := by rw [IntKind.wrap_i64]; omega
              obtain ⟨s5, hs5, _⟩ := told_form (Rw.find Va.Sec.key L2 (1 + (an : Int), (pn : Int), ⟨#[97, 64, 98, 46, 99, 100]⟩))
              obtain ⟨hd, hhd⟩ : ∃ b, (Rw.find Va.Sec.key L2 (1 + (an : Int), (pn : Int), ⟨#[97, 64, 98, 46, 99, 100]⟩)).isSome = b := ⟨_, rfl⟩
              have hf1 := fun W hW => find_any (S := fun b => b = go ∨ b = gt) X cx L2 (by omega) (1 + (an : Int)) (pn : Int) ⟨#[97, 64, 98, 46, 99, 100]⟩ W hW
              have hf2 := fun W hW => rfind_any (S := fun b => b = go ∨ b = gt) Y cy L2 (by omega) (1 + (an : Int)) (pn : Int) ⟨#[97, 64, 98, 46, 99, 100]⟩ W hW
              rw [hs5, hhd] at hf1 hf2
              have HF1 := Lib.hid hf1
              have HF2 := Lib.hid hf2
              clear hM o2 o3 o4 o5 hs5 hhd hf1 hf2
              have MG := Lib.hid (MF.out.al (.cells #[.int .i64 o.n0, .int .i64 o.n1, .int .i64 o.n2, .int .i64 o.n3] 35))
              have HN1 := Lib.hid (Blk.new wc 35 #[.int .i64 o.n0, .int .i64 o.n1, .int .i64 o.n2, .int .i64 o.n3])
              go_wp2_with fail
              refine (HF1.out _ MG.out.a).mono ?_
              rintro e v1 ⟨rfl, hb⟩
              have M1 := Lib.hid (MG.out.next hb)
              have MH := Lib.hid (M1.out.al (.cells #[.string s5.digest, .int .i64 s5.account, .int .i64 s5.purpose, .string s5.channel, .int .i64 s5.expires, .int .i64 s5.tries] 26))
              have hn2 := HN1.out.of (hb.block _ HN1.out.lt)
              have HN2 := Lib.hid (hn2.alloc (.cells #[.string s5.digest, .int .i64 s5.account, .int .i64 s5.purpose, .string s5.channel, .int .i64 s5.expires, .int .i64 s5.tries] 26))
              have HU0 := Lib.hid (Blk.new v1 26 #[.string s5.digest, .int .i64 s5.account, .int .i64 s5.purpose, .string s5.channel, .int .i64 s5.expires, .int .i64 s5.tries])
              have m0 : ∀ x, (v1.alloc x).cell? ⟨wc.heap.size, 0, none⟩ = some (.int .i64 o.n0) := fun x => ((hn2.alloc x).cell 0).trans rfl
              have m1 : ∀ x, (v1.alloc x).cell? ⟨wc.heap.size, 1, none⟩ = some (.int .i64 o.n1) := fun x => ((hn2.alloc x).cell 1).trans rfl
              clear hb hn2 MF MG M1 HN1 n2 n3 n4 n5
              go_wp2_with fail
              refine (HF2.out _ MH.out.b).mono ?_
              rintro e v2 ⟨rfl, hb⟩
              have MI := Lib.hid ((MH.out.next hb).al (.cells #[.string s5.digest, .int .i64 s5.account, .int .i64 s5.purpose, .string s5.channel, .int .i64 s5.expires, .int .i64 s5.tries] 26))
              have HN4 := Lib.hid ((HN2.out.of (hb.block _ HN2.out.lt)).alloc (.cells #[.string s5.digest, .int .i64 s5.account, .int .i64 s5.purpose, .string s5.channel, .int .i64 s5.expires, .int .i64 s5.tries] 26))
              have HU1 := Lib.hid ((HU0.out.of (hb.block _ HU0.out.lt)).alloc (.cells #[.string s5.digest, .int .i64 s5.account, .int .i64 s5.purpose, .string s5.channel, .int .i64 s5.expires, .int .i64 s5.tries] 26))
              have HU2 := Lib.hid (Blk.new v2 26 #[.string s5.digest, .int .i64 s5.account, .int .i64 s5.purpose, .string s5.channel, .int .i64 s5.expires, .int .i64 s5.tries])
              clear hb MH HN2 HU0 m0 m1
              as_aux_lemma =>
                go_upto_region 54 with fail
                change Code.wp _ _ _ _ (v2.alloc (.cells #[.string s5.digest, .int .i64 s5.account, .int .i64 s5.purpose, .string s5.channel, .int .i64 s5.expires, .int .i64 s5.tries] 26))
                generalize v2.alloc (.cells #[.string s5.digest, .int .i64 s5.account, .int .i64 s5.purpose, .string s5.channel, .int .i64 s5.expires, .int .i64 s5.tries] 26) = v3 at MI HN4 HU1 HU2 ⊢
                generalize wc.heap.size = gn at HN4 ⊢
                generalize v1.heap.size = g32 at HU1 ⊢
                generalize v2.heap.size = g34 at HU2 ⊢
                have hck := fun W (h : Below v3.heap.size v3 W) => check_any X cx L2 (by omega) (fun s hs => (HP2.out s hs).ch) (fun s hs => (HP2.out s hs).ok) W (HR.out.next (MI.out.bel.trans (h.mono MI.out.bel.size))).max (MI.out.a.below h)
                have hrk := fun W (h : Below v3.heap.size v3 W) => rcheck_any Y cy L2 (by omega) (fun s hs => (HP2.out s hs).ch) W (MI.out.b.below h)
                have hof := fun W (h : Below v3.heap.size v3 W) => of_any X cx L2 (by omega) (an : Int) W (MI.out.a.below h)
                have hro := fun W (h : Below v3.heap.size v3 W) => rof_any Y cy L2 (by omega) (an : Int) W (MI.out.b.below h)
                obtain ⟨n, hn⟩ : ∃ n, L2.length = n := ⟨_, rfl⟩
                simp only [hn]
                generalize checkB L2 = ck at hck hrk
                generalize (Va.of L2 (an : Int) : Int) = nf at hof hro
                rw [hn] at hck hrk hof hro
                obtain ⟨q0, hq0⟩ : ∃ z, o.n0 = z := ⟨_, rfl⟩
                rw [hq0] at ean HN4
                have HCK := Lib.hid hck
                have HRK := Lib.hid hrk
                have HOF := Lib.hid hof
                have HRO := Lib.hid hro
                have HN := Lib.hid hn
                have hsm := fun W => sec_same s5 W
                clear hck hrk hof hro hn hq0
                as_aux_lemma =>
                  refine wp_region_some (by kernel_rfl) (fun i v _ => Vy54 X Y n cx cy gn s5 hd ck an nf q0 i v) (fun _ _ W => Gc v3 W) (fun w w' => Below w.heap.size w w') (by kernel_rfl) (by kernel_rfl) 301 rfl (by kernel_rfl) (fun _ _ _ _ h _ => by exact h) (fun _ => (Below.refl _ _)) (Gc.start v3) ?_ ?_
                  · intro i o ho listed x W hs hdep hun hg hk
                    match i, ho with
                    | 0, ho =>
                      cases ho
                      have q32 : x.tmps[32]?.getD undef = .pointer (some ⟨g32, 0, none⟩) := hk.fix 32 (by kernel_rfl)
                      refine .inl ⟨wanted_plain rfl, ?_⟩
                      refine wp_value (run_load_op _ _ rfl _ ((eval_slot x 32).trans q32) _ _ ((HU1.out.of (hg.below.block _ HU1.out.lt))) _ Tryz.underlying26 rfl sec_size) ⟨_, rfl, rfl, (Below.refl _ _), hg⟩
                    | 1, ho =>
                      cases ho
                      have q34 : x.tmps[34]?.getD undef = .pointer (some ⟨g34, 0, none⟩) := hk.fix 34 (by kernel_rfl)
                      refine .inl ⟨wanted_plain rfl, ?_⟩
                      refine wp_value (run_load_op _ _ rfl _ ((eval_slot x 34).trans q34) _ _ ((HU2.out.of (hg.below.block _ HU2.out.lt))) _ Tryz.underlying26 rfl sec_size) ⟨_, rfl, rfl, (Below.refl _ _), hg⟩
                    | 2, ho =>
                      cases ho
                      have q273 : x.tmps[273]?.getD undef = .agg #[.string s5.digest, .int .i64 s5.account, .int .i64 s5.purpose, .string s5.channel, .int .i64 s5.expires, .int .i64 s5.tries] := hk.dep 0 273 (by kernel_rfl) (by kernel_rfl)
                      have q274 : x.tmps[274]?.getD undef = .agg #[.string s5.digest, .int .i64 s5.account, .int .i64 s5.purpose, .string s5.channel, .int .i64 s5.expires, .int .i64 s5.tries] := hk.dep 1 274 (by kernel_rfl) (by kernel_rfl)
                      refine .inl ⟨wanted_plain rfl, ?_⟩
                      refine wp_value (v := .bool false) (w' := W) ?_ ⟨_, rfl, rfl, (Below.refl _ _), hg⟩
                      go_simp
                    | 3, ho =>
                      cases ho
                      have q275 : x.tmps[275]?.getD undef = .bool false := hk.dep 2 275 (by kernel_rfl) (by kernel_rfl)
                      refine .inl ⟨wanted_plain rfl, ?_⟩
                      refine wp_value (v := .bool false) (w' := W) ?_ ⟨_, rfl, rfl, (Below.refl _ _), hg⟩
                      go_simp
                    | 4, ho =>
                      cases ho
                      have q33 : x.tmps[33]?.getD undef = .bool hd := hk.fix 33 (by kernel_rfl)
                      refine .inl ⟨wanted_guard (g := 3) (d := 276) (by rfl) (by kernel_rfl) (show x.tmps[276]?.getD undef = .bool false from hk.dep 3 276 (by kernel_rfl) (by kernel_rfl)), ?_⟩
                      refine wp_value (v := .bool hd) (w' := W) ?_ ⟨_, rfl, rfl, (Below.refl _ _), hg⟩
                      go_simp
                    | 5, ho =>
                      cases ho
                      have q35 : x.tmps[35]?.getD undef = .bool hd := hk.fix 35 (by kernel_rfl)
                      refine .inl ⟨wanted_guard (g := 3) (d := 276) (by rfl) (by kernel_rfl) (show x.tmps[276]?.getD undef = .bool false from hk.dep 3 276 (by kernel_rfl) (by kernel_rfl)), ?_⟩
                      refine wp_value (v := .bool hd) (w' := W) ?_ ⟨_, rfl, rfl, (Below.refl _ _), hg⟩
                      go_simp
                    | 6, ho =>
                      cases ho
                      have q277 : x.tmps[277]?.getD undef = .bool hd := hk.dep 4 277 (by kernel_rfl) (by kernel_rfl)
                      have q278 : x.tmps[278]?.getD undef = .bool hd := hk.dep 5 278 (by kernel_rfl) (by kernel_rfl)
                      refine .inl ⟨wanted_guard (g := 3) (d := 276) (by rfl) (by kernel_rfl) (show x.tmps[276]?.getD undef = .bool false from hk.dep 3 276 (by kernel_rfl) (by kernel_rfl)), ?_⟩
                      refine wp_value (v := .bool false) (w' := W) ?_ ⟨_, rfl, rfl, (Below.refl _ _), hg⟩
                      go_simp
                    | 7, ho =>
                      cases ho
                      have q276 : x.tmps[276]?.getD undef = .bool false := hk.dep 3 276 (by kernel_rfl) (by kernel_rfl)
                      have q279 : x.tmps[279]?.getD undef = .bool false := hk.dep 6 279 (by kernel_rfl) (by kernel_rfl)
                      refine .inl ⟨wanted_plain rfl, ?_⟩
                      refine wp_value (v := .bool false) (w' := W) ?_ ⟨_, rfl, rfl, (Below.refl _ _), hg⟩
                      go_simp
                    | 8, ho =>
                      cases ho
                      have q280 : x.tmps[280]?.getD undef = .bool false := hk.dep 7 280 (by kernel_rfl) (by kernel_rfl)
                      refine .inl ⟨wanted_plain rfl, ?_⟩
                      refine wp_value (v := .bool false) (w' := W) ?_ ⟨_, rfl, rfl, (Below.refl _ _), hg⟩
                      go_simp
                    | 9, ho =>
                      cases ho
                      have q5 : x.tmps[5]?.getD undef = .slice X n cx := hk.fix 5 (by kernel_rfl)
                      refine .inl ⟨wanted_guard (g := 8) (d := 281) (by rfl) (by kernel_rfl) (show x.tmps[281]?.getD undef = .bool false from hk.dep 8 281 (by kernel_rfl) (by kernel_rfl)), ?_⟩
                      refine wp_value (v := .slice X n cx) (w' := W) ?_ ⟨_, rfl, rfl, (Below.refl _ _), hg⟩
                      go_simp
                    | 10, ho =>
                      cases ho
                      have q282 : x.tmps[282]?.getD undef = .slice X n cx := hk.dep 9 282 (by kernel_rfl) (by kernel_rfl)
                      refine .inl ⟨wanted_guard (g := 8) (d := 281) (by rfl) (by kernel_rfl) (show x.tmps[281]?.getD undef = .bool false from hk.dep 8 281 (by kernel_rfl) (by kernel_rfl)), ?_⟩
                      refine wp_enter (f := 18) (args := #[.slice X n cx]) (w' := W) (S := fun v w1 => v = .bool ck ∧ Below W.heap.size W w1) ?_ ((HCK.out W hg.below).mono fun e w' h => ⟨_, h.1, rfl, h.2⟩) ?_
                      · go_simp
                      · rintro v W' ⟨rfl, hb⟩
                        exact ⟨_, rfl, rfl, hb, hg.calls hb⟩
                    | 11, ho =>
                      cases ho
                      have q6 : x.tmps[6]?.getD undef = .slice Y n cy := hk.fix 6 (by kernel_rfl)
                      refine .inl ⟨wanted_guard (g := 8) (d := 281) (by rfl) (by kernel_rfl) (show x.tmps[281]?.getD undef = .bool false from hk.dep 8 281 (by kernel_rfl) (by kernel_rfl)), ?_⟩
                      refine wp_value (v := .slice Y n cy) (w' := W) ?_ ⟨_, rfl, rfl, (Below.refl _ _), hg⟩
                      go_simp
                    | 12, ho =>
                      cases ho
                      have q284 : x.tmps[284]?.getD undef = .slice Y n cy := hk.dep 11 284 (by kernel_rfl) (by kernel_rfl)
                      refine .inl ⟨wanted_guard (g := 8) (d := 281) (by rfl) (by kernel_rfl) (show x.tmps[281]?.getD undef = .bool false from hk.dep 8 281 (by kernel_rfl) (by kernel_rfl)), ?_⟩
                      refine wp_enter (f := 33) (args := #[.slice Y n cy]) (w' := W) (S := fun v w1 => v = .bool ck ∧ Below W.heap.size W w1) ?_ ((HRK.out W hg.below).mono fun e w' h => ⟨_, h.1, rfl, h.2⟩) ?_
                      · go_simp
                      · rintro v W' ⟨rfl, hb⟩
                        exact ⟨_, rfl, rfl, hb, hg.calls hb⟩
                    | 13, ho =>
                      cases ho
                      have q283 : x.tmps[283]?.getD undef = .bool ck := hk.dep 10 283 (by kernel_rfl) (by kernel_rfl)
                      have q285 : x.tmps[285]?.getD undef = .bool ck := hk.dep 12 285 (by kernel_rfl) (by kernel_rfl)
                      refine .inl ⟨wanted_guard (g := 8) (d := 281) (by rfl) (by kernel_rfl) (show x.tmps[281]?.getD undef = .bool false from hk.dep 8 281 (by kernel_rfl) (by kernel_rfl)), ?_⟩
                      refine wp_value (v := .bool false) (w' := W) ?_ ⟨_, rfl, rfl, (Below.refl _ _), hg⟩
                      go_simp
                    | 14, ho =>
                      cases ho
                      have q281 : x.tmps[281]?.getD undef = .bool false := hk.dep 8 281 (by kernel_rfl) (by kernel_rfl)
                      have q286 : x.tmps[286]?.getD undef = .bool false := hk.dep 13 286 (by kernel_rfl) (by kernel_rfl)
                      refine .inl ⟨wanted_plain rfl, ?_⟩
                      refine wp_value (v := .bool false) (w' := W) ?_ ⟨_, rfl, rfl, (Below.refl _ _), hg⟩
                      go_simp
                    | 15, ho =>
                      cases ho
                      have q287 : x.tmps[287]?.getD undef = .bool false := hk.dep 14 287 (by kernel_rfl) (by kernel_rfl)
                      refine .inl ⟨wanted_plain rfl, ?_⟩
                      refine wp_value (v := .bool false) (w' := W) ?_ ⟨_, rfl, rfl, (Below.refl _ _), hg⟩
                      go_simp
                    | 16, ho =>
                      cases ho
                      have q5 : x.tmps[5]?.getD undef = .slice X n cx := hk.fix 5 (by kernel_rfl)
                      refine .inl ⟨wanted_guard (g := 15) (d := 288) (by rfl) (by kernel_rfl) (show x.tmps[288]?.getD undef = .bool false from hk.dep 15 288 (by kernel_rfl) (by kernel_rfl)), ?_⟩
                      refine wp_value (v := .slice X n cx) (w' := W) ?_ ⟨_, rfl, rfl, (Below.refl _ _), hg⟩
                      go_simp
                    | 17, ho =>
                      cases ho
                      have q31 : x.tmps[31]?.getD undef = .pointer (some ⟨gn, 0, none⟩) := hk.fix 31 (by kernel_rfl)
                      refine .inl ⟨wanted_guard (g := 15) (d := 288) (by rfl) (by kernel_rfl) (show x.tmps[288]?.getD undef = .bool false from hk.dep 15 288 (by kernel_rfl) (by kernel_rfl)), ?_⟩
                      refine wp_value (v := .pointer (some ⟨gn, 0, none⟩)) (w' := W) ?_ ⟨_, rfl, rfl, (Below.refl _ _), hg⟩
                      go_simp
                    | 18, ho =>
                      cases ho
                      have q290 : x.tmps[290]?.getD undef = .pointer (some ⟨gn, 0, none⟩) := hk.dep 17 290 (by kernel_rfl) (by kernel_rfl)
                      refine .inl ⟨wanted_guard (g := 15) (d := 288) (by rfl) (by kernel_rfl) (show x.tmps[288]?.getD undef = .bool false from hk.dep 15 288 (by kernel_rfl) (by kernel_rfl)), ?_⟩
                      have cf : W.cell? ⟨gn, 0, none⟩ = some (.int .i64 q0) := ((HN4.out.of (hg.below.block _ HN4.out.lt)).cell 0).trans rfl
                      refine wp_value (v := .int .i64 q0) (w' := W) ?_ ⟨_, rfl, rfl, (Below.refl _ _), hg⟩
                      go_simp
                    | 19, ho =>
                      cases ho
                      have q291 : x.tmps[291]?.getD undef = .int .i64 q0 := hk.dep 18 291 (by kernel_rfl) (by kernel_rfl)
                      refine .inl ⟨wanted_guard (g := 15) (d := 288) (by rfl) (by kernel_rfl) (show x.tmps[288]?.getD undef = .bool false from hk.dep 15 288 (by kernel_rfl) (by kernel_rfl)), ?_⟩
                      refine wp_value (v := .int .i64 (an : Int)) (w' := W) ?_ ⟨_, rfl, rfl, (Below.refl _ _), hg⟩
                      go_simp
                    | 20, ho =>
                      cases ho
                      have q289 : x.tmps[289]?.getD undef = .slice X n cx := hk.dep 16 289 (by kernel_rfl) (by kernel_rfl)
                      have q292 : x.tmps[292]?.getD undef = .int .i64 (an : Int) := hk.dep 19 292 (by kernel_rfl) (by kernel_rfl)
                      refine .inl ⟨wanted_guard (g := 15) (d := 288) (by rfl) (by kernel_rfl) (show x.tmps[288]?.getD undef = .bool false from hk.dep 15 288 (by kernel_rfl) (by kernel_rfl)), ?_⟩
                      refine wp_enter (f := 23) (args := #[.slice X n cx, .int .i64 (an : Int)]) (w' := W) (S := fun v w1 => v = .int .i64 nf ∧ Below W.heap.size W w1) ?_ ((HOF.out W hg.below).mono fun e w' h => ⟨_, h.1, rfl, h.2⟩) ?_
                      · go_simp
                      · rintro v W' ⟨rfl, hb⟩
                        exact ⟨_, rfl, rfl, hb, hg.calls hb⟩
                    | 21, ho =>
                      cases ho
                      have q6 : x.tmps[6]?.getD undef = .slice Y n cy := hk.fix 6 (by kernel_rfl)
                      refine .inl ⟨wanted_guard (g := 15) (d := 288) (by rfl) (by kernel_rfl) (show x.tmps[288]?.getD undef = .bool false from hk.dep 15 288 (by kernel_rfl) (by kernel_rfl)), ?_⟩
                      refine wp_value (v := .slice Y n cy) (w' := W) ?_ ⟨_, rfl, rfl, (Below.refl _ _), hg⟩
                      go_simp
                    | 22, ho =>
                      cases ho
                      have q31 : x.tmps[31]?.getD undef = .pointer (some ⟨gn, 0, none⟩) := hk.fix 31 (by kernel_rfl)
                      refine .inl ⟨wanted_guard (g := 15) (d := 288) (by rfl) (by kernel_rfl) (show x.tmps[288]?.getD undef = .bool false from hk.dep 15 288 (by kernel_rfl) (by kernel_rfl)), ?_⟩
                      refine wp_value (v := .pointer (some ⟨gn, 0, none⟩)) (w' := W) ?_ ⟨_, rfl, rfl, (Below.refl _ _), hg⟩
                      go_simp
                    | 23, ho =>
                      cases ho
                      have q295 : x.tmps[295]?.getD undef = .pointer (some ⟨gn, 0, none⟩) := hk.dep 22 295 (by kernel_rfl) (by kernel_rfl)
                      refine .inl ⟨wanted_guard (g := 15) (d := 288) (by rfl) (by kernel_rfl) (show x.tmps[288]?.getD undef = .bool false from hk.dep 15 288 (by kernel_rfl) (by kernel_rfl)), ?_⟩
                      have cf : W.cell? ⟨gn, 0, none⟩ = some (.int .i64 q0) := ((HN4.out.of (hg.below.block _ HN4.out.lt)).cell 0).trans rfl
                      refine wp_value (v := .int .i64 q0) (w' := W) ?_ ⟨_, rfl, rfl, (Below.refl _ _), hg⟩
                      go_simp
                    | 24, ho =>
                      cases ho
                      have q296 : x.tmps[296]?.getD undef = .int .i64 q0 := hk.dep 23 296 (by kernel_rfl) (by kernel_rfl)
                      refine .inl ⟨wanted_guard (g := 15) (d := 288) (by rfl) (by kernel_rfl) (show x.tmps[288]?.getD undef = .bool false from hk.dep 15 288 (by kernel_rfl) (by kernel_rfl)), ?_⟩
                      refine wp_value (v := .int .i64 (an : Int)) (w' := W) ?_ ⟨_, rfl, rfl, (Below.refl _ _), hg⟩
                      go_simp
                    | 25, ho =>
                      cases ho
                      have q294 : x.tmps[294]?.getD undef = .slice Y n cy := hk.dep 21 294 (by kernel_rfl) (by kernel_rfl)
                      have q297 : x.tmps[297]?.getD undef = .int .i64 (an : Int) := hk.dep 24 297 (by kernel_rfl) (by kernel_rfl)
                      refine .inl ⟨wanted_guard (g := 15) (d := 288) (by rfl) (by kernel_rfl) (show x.tmps[288]?.getD undef = .bool false from hk.dep 15 288 (by kernel_rfl) (by kernel_rfl)), ?_⟩
                      refine wp_enter (f := 34) (args := #[.slice Y n cy, .int .i64 (an : Int)]) (w' := W) (S := fun v w1 => v = .int .i64 nf ∧ Below W.heap.size W w1) ?_ ((HRO.out W hg.below).mono fun e w' h => ⟨_, h.1, rfl, by rw [h.2]; exact Below.refl _ _⟩) ?_
                      · go_simp
                      · rintro v W' ⟨rfl, hb⟩
                        exact ⟨_, rfl, rfl, hb, hg.calls hb⟩
                    | 26, ho =>
                      cases ho
                      have q293 : x.tmps[293]?.getD undef = .int .i64 nf := hk.dep 20 293 (by kernel_rfl) (by kernel_rfl)
                      have q298 : x.tmps[298]?.getD undef = .int .i64 nf := hk.dep 25 298 (by kernel_rfl) (by kernel_rfl)
                      refine .inl ⟨wanted_guard (g := 15) (d := 288) (by rfl) (by kernel_rfl) (show x.tmps[288]?.getD undef = .bool false from hk.dep 15 288 (by kernel_rfl) (by kernel_rfl)), ?_⟩
                      refine wp_value (v := .bool false) (w' := W) ?_ ⟨_, rfl, rfl, (Below.refl _ _), hg⟩
                      go_simp
                    | 27, ho =>
                      cases ho
                      have q288 : x.tmps[288]?.getD undef = .bool false := hk.dep 15 288 (by kernel_rfl) (by kernel_rfl)
                      have q299 : x.tmps[299]?.getD undef = .bool false := hk.dep 26 299 (by kernel_rfl) (by kernel_rfl)
                      refine .inl ⟨wanted_plain rfl, ?_⟩
                      refine wp_value (v := .bool false) (w' := W) ?_ ⟨_, rfl, rfl, (Below.refl _ _), hg⟩
                      go_simp
                    | _ + 28, ho => cases ho
                  intro listed x v4 hall hg hk
                  have e273 : x.tmps[273]?.getD undef = .agg #[.string s5.digest, .int .i64 s5.account, .int .i64 s5.purpose, .string s5.channel, .int .i64 s5.expires, .int .i64 s5.tries] := hk.last 0 273 (by decide) (by kernel_rfl)
                  have e274 : x.tmps[274]?.getD undef = .agg #[.string s5.digest, .int .i64 s5.account, .int .i64 s5.purpose, .string s5.channel, .int .i64 s5.expires, .int .i64 s5.tries] := hk.last 1 274 (by decide) (by kernel_rfl)
                  have e275 : x.tmps[275]?.getD undef = .bool false := hk.last 2 275 (by decide) (by kernel_rfl)
                  have e276 : x.tmps[276]?.getD undef = .bool false := hk.last 3 276 (by decide) (by kernel_rfl)
                  have e277 : x.tmps[277]?.getD undef = .bool hd := hk.last 4 277 (by decide) (by kernel_rfl)
                  have e278 : x.tmps[278]?.getD undef = .bool hd := hk.last 5 278 (by decide) (by kernel_rfl)
                  have e279 : x.tmps[279]?.getD undef = .bool false := hk.last 6 279 (by decide) (by kernel_rfl)
                  have e280 : x.tmps[280]?.getD undef = .bool false := hk.last 7 280 (by decide) (by kernel_rfl)
                  have e281 : x.tmps[281]?.getD undef = .bool false := hk.last 8 281 (by decide) (by kernel_rfl)
                  have e282 : x.tmps[282]?.getD undef = .slice X n cx := hk.last 9 282 (by decide) (by kernel_rfl)
                  have e283 : x.tmps[283]?.getD undef = .bool ck := hk.last 10 283 (by decide) (by kernel_rfl)
                  have e284 : x.tmps[284]?.getD undef = .slice Y n cy := hk.last 11 284 (by decide) (by kernel_rfl)
                  have e285 : x.tmps[285]?.getD undef = .bool ck := hk.last 12 285 (by decide) (by kernel_rfl)
                  have e286 : x.tmps[286]?.getD undef = .bool false := hk.last 13 286 (by decide) (by kernel_rfl)
                  have e287 : x.tmps[287]?.getD undef = .bool false := hk.last 14 287 (by decide) (by kernel_rfl)
                  have e288 : x.tmps[288]?.getD undef = .bool false := hk.last 15 288 (by decide) (by kernel_rfl)
                  have e289 : x.tmps[289]?.getD undef = .slice X n cx := hk.last 16 289 (by decide) (by kernel_rfl)
                  have e290 : x.tmps[290]?.getD undef = .pointer (some ⟨gn, 0, none⟩) := hk.last 17 290 (by decide) (by kernel_rfl)
                  have e291 : x.tmps[291]?.getD undef = .int .i64 q0 := hk.last 18 291 (by decide) (by kernel_rfl)
                  have e292 : x.tmps[292]?.getD undef = .int .i64 (an : Int) := hk.last 19 292 (by decide) (by kernel_rfl)
                  have e293 : x.tmps[293]?.getD undef = .int .i64 nf := hk.last 20 293 (by decide) (by kernel_rfl)
                  have e294 : x.tmps[294]?.getD undef = .slice Y n cy := hk.last 21 294 (by decide) (by kernel_rfl)
                  have e295 : x.tmps[295]?.getD undef = .pointer (some ⟨gn, 0, none⟩) := hk.last 22 295 (by decide) (by kernel_rfl)
                  have e296 : x.tmps[296]?.getD undef = .int .i64 q0 := hk.last 23 296 (by decide) (by kernel_rfl)
                  have e297 : x.tmps[297]?.getD undef = .int .i64 (an : Int) := hk.last 24 297 (by decide) (by kernel_rfl)
                  have e298 : x.tmps[298]?.getD undef = .int .i64 nf := hk.last 25 298 (by decide) (by kernel_rfl)
                  have e299 : x.tmps[299]?.getD undef = .bool false := hk.last 26 299 (by decide) (by kernel_rfl)
                  have e300 : x.tmps[300]?.getD undef = .bool false := hk.last 27 300 (by decide) (by kernel_rfl)
                  have hB := Lib.hid hg.below
                  have hx := hk.tail 273 (by kernel_rfl) [.agg #[.string s5.digest, .int .i64 s5.account, .int .i64 s5.purpose, .string s5.channel, .int .i64 s5.expires, .int .i64 s5.tries], .agg #[.string s5.digest, .int .i64 s5.account, .int .i64 s5.purpose, .string s5.channel, .int .i64 s5.expires, .int .i64 s5.tries], .bool false, .bool false, .bool hd, .bool hd, .bool false, .bool false, .bool false, .slice X n cx, .bool ck, .slice Y n cy, .bool ck, .bool false, .bool false, .bool false, .slice X n cx, .pointer (some ⟨gn, 0, none⟩), .int .i64 q0, .int .i64 (an : Int), .int .i64 nf, .slice Y n cy, .pointer (some ⟨gn, 0, none⟩), .int .i64 q0, .int .i64 (an : Int), .int .i64 nf, .bool false, .bool false] (by kernel_rfl) (by
                    intro k hk1
                    match k, hk1 with
                    | 0, _ => exact e273
                    | 1, _ => exact e274
                    | 2, _ => exact e275
                    | 3, _ => exact e276
                    | 4, _ => exact e277
                    | 5, _ => exact e278
                    | 6, _ => exact e279
                    | 7, _ => exact e280
                    | 8, _ => exact e281
                    | 9, _ => exact e282
                    | 10, _ => exact e283
                    | 11, _ => exact e284
                    | 12, _ => exact e285
                    | 13, _ => exact e286
                    | 14, _ => exact e287
                    | 15, _ => exact e288
                    | 16, _ => exact e289
                    | 17, _ => exact e290
                    | 18, _ => exact e291
                    | 19, _ => exact e292
                    | 20, _ => exact e293
                    | 21, _ => exact e294
                    | 22, _ => exact e295
                    | 23, _ => exact e296
                    | 24, _ => exact e297
                    | 25, _ => exact e298
                    | 26, _ => exact e299
                    | 27, _ => exact e300
                    | _ + 28, h => exact absurd h (by simp))
                  clear hk hg hall
                  clear e273 e274 e275 e276 e277 e278 e279 e280 e281 e282 e283 e284 e285 e286 e287 e288 e289 e290 e291 e292 e293 e294 e295 e296 e297 e298 e299 e300
                  subst hx
                  simp only [List.take_succ_cons, List.take_zero, List.cons_append, List.nil_append]
                  as_aux_lemma =>
                    have hlz := HN.out
                    subst hlz
                    go_wp2_with fail
                    go_roundw
                    case rel => exact ⟨i + 1, now2, L2, by go_num, rfl, by omega, by omega, by omega, by omega, hl2, HP2.out, ⟨X, cx, rfl, HCX.out, (MI.out.a.below hB.out).mono (fun _ _ h => h.elim)⟩, ⟨Y, cy, rfl, HCY.out, (MI.out.b.below hB.out).mono (fun _ _ h => h.elim)⟩, MI.out.bel.trans (hB.out.mono MI.out.bel.size)⟩
                    case measure => simp [intOf]; omega
      · have hi2 : ¬ (i : Int) < 60 := by omega
        go_wp2_with fail
        go_ret
        exact ⟨rfl, HB.out⟩
    · have hi1 : ¬ (i : Int) < (l.length : Int) := by omega
      go_wp2_with fail
      go_ret
      exact ⟨rfl, HB.out⟩
end Go.Proofs.YtfjdcopndkdbmaaGreatDoor
