/-
  A law for a loop over an iterator that writes a block of its own between two rounds (a buffer), over a body that never leaves the loop. No condition.
-/
import Derived.RangeFuncNested
import Derived.Test.YthaejfbbefpojaaDoorMem
namespace Go.Proofs.YthaejfbbefpojaaDoor
open Go.RowKit
section
variable {F : Fence} {n : Nat} {P : Program}

/-- The iterator's word: all is handed out; what the caller says of memory must outlast the iterator's writes to cells laid since its call began. -/
def SeqWhole {α : Type} (F : Fence) (n : Nat) (P : Program) (g : Nat) (lb : Array Value) (encs : α → Array Value) (Kp : World → World → Prop) (S : List α → Prop) (Ok : α → Prop) (w : World) : Prop :=
  ∀ (l : Nat) (J : List α → World → Prop) (W : World), Below w.heap.size w W →
    (∀ (s : List α) (A B : World) (row : Option Nat), J s A → A.grownBy B row → (∀ r, row = some r → W.heap.size ≤ r) → J s B) →
    (∀ pre x W1, J pre W1 → Ok x → YieldAt F (n - 1) P l (encs x) W1 fun e W' => e = .returned (.bool true) ∧ J (pre ++ [x]) W' ∧ Kp W1 W') →
    J [] W → CallsIn F n P g (#[.func (.yield l) #[] #[]] ++ lb) W fun e W' => (∃ v, e = .returned v) ∧ ∃ xs, S xs ∧ J xs W'

/-- THE LAW. -/
theorem wpIn_rangeWhole {α : Type} {g : Operand} {ps : Array Tmp} {assign body : Code} {Q : Exit → Act → World → Prop} {a : Act} {w : World}
    (hro : F.round = none) (h1 : 1 ≤ n) {gf : Nat} {lb : Array Value} (hg : a.eval g = .func (.func gf) #[] lb) (hFg : F.fn gf) (eg : ∀ args w, (callFunc gf args).run P w = .ok (.enter gf args) w)
    {encs : α → Array Value} {Kp : World → World → Prop} {S : List α → Prop} {Ok : α → Prop} {w0 : World} (hseq : SeqWhole F (n - 1) P gf lb encs Kp S Ok w0)
    (hKt : ∀ {A B C : World}, Kp A B → Kp B C → Kp A C) (hKb : ∀ (W : World) (l : Nat) (o o' : Obj), w.heap.size ≤ l → W.heap[l]? = some o → o.isCells = false → Kp W (W.putObj l o'))
    (hb0 : Below w0.heap.size w0 w) (hps : ∀ x, (encs x).size = ps.size)
    (I : List α → World → Prop) (hI : ∀ (s : List α) (A B : World) (row : Option Nat), I s A → A.grownBy B row → (∀ r, row = some r → w.heap.size ≤ r) → I s B) (h0 : I [] w)
    (Ax : α → Act → World → Prop) (hAx : ∀ (x : α) (a' : Act) (A : World) (l : Nat) (o o' : Obj), Ax x a' A → w.heap.size ≤ l → A.heap[l]? = some o → o.isCells = false → Ax x a' (A.putObj l o'))
    (hassign : ∀ (l : Nat) (pre : List α) (x : α) (W : World) (K : Act → World → Prop), Ok x → I pre W → (∀ a' W', KeepsFrom w.heap.size W W' → Kp W W' → I pre W' → Ax x a' W' → K a' W') →
      assign.wpIn (F.inRound l) (n - 1 - 1) P (Exit.then K (fun _ _ _ => False)) { tmps := (ps.zip (encs x)).foldl (fun t (p, v) => t.setIfInBounds p v) a.tmps, defers := [] } W)
    (hbody : ∀ (l : Nat) (pre : List α) (x : α) (a' : Act) (W : World), I pre W → Ax x a' W → Ok x →
      body.wpIn (F.inRound l) (n - 1 - 1) P (fun e _ W' => e = .normal ∧ KeepsFrom w.heap.size W W' ∧ Kp W W' ∧ I (pre ++ [x]) W') a' W)
    (hdone : ∀ (D : Nat) (xs : List α) (W : World), w.heap.size ≤ D → S xs → I xs W → W.heap[D]? = some (.deferred (some [])) → Q .normal { a with defers := { target := .collected D, args := #[] } :: a.defers } W) :
    (Code.rangeFunc g ps assign body).wpIn F n P Q a w := by
  have hIp : ∀ (s : List α) (W : World) (l : Nat) (o o' : Obj), I s W → w.heap.size ≤ l → W.heap[l]? = some o → I s (W.putObj l o') := fun s W l o o' hi hl _ =>
    hI s W _ (some l) hi (grownBy_putObj' W l o') (fun r e => by cases e; exact hl)
  refine wpIn_rangeFunc fun fn hfn => ?_
  rw [hro]
  -- the block of the rounds' deferred calls, and the loop's record
  let rc : LoopState → Option Code → Loop := fun st pe => { state := st, pending := pe, fn, tmps := a.tmps, params := ps, assign, body, defers := w.heap.size }
  let V : World := (w.alloc (.deferred (some []))).alloc (.loop (rc .ready none))
  have vs : V.heap.size = w.heap.size + 2 := by simp [V]
  have vl : V.heap[w.heap.size + 1]? = some (.loop (rc .ready none)) := by
    have := World.alloc_heap_new (w.alloc (.deferred (some []))) (.loop (rc .ready none))
    rwa [World.size_alloc] at this
  have vd : V.heap[w.heap.size]? = some (.deferred (some [])) := (Below.heap_alloc _ _ _ (by simp)).trans (World.alloc_heap_new w _)
  have vi : I [] V := hI _ _ _ none (hI _ _ _ none h0 (World.grownBy_alloc w _ none) (fun r e => by cases e)) (World.grownBy_alloc _ _ none) (fun r e => by cases e)
  have vb : Below w0.heap.size w0 V := hb0.trans ((((Below.refl _ w).alloc (Nat.le_refl _) _).alloc (by simp) _).mono hb0.size)
  refine ⟨w.heap.size + 1, [{ target := .collected w.heap.size, args := #[] }], V, { target := .fn (.func gf) lb, args := #[.func (.yield (w.heap.size + 1)) #[] #[]] }, V, gf,
    #[.func (.yield (w.heap.size + 1)) #[] #[]] ++ lb, V, run_enterLoop_outer _ _ _ _ _, ?_, ?_, ?_, fun _ => h1, ?_⟩
  · simp only [resolve, hg]
    simp [go_sem]
  · intro f' hf'
    simp [Target.leads] at hf'
    subst hf'
    exact hFg
  · simp [invoke, go_sem, eg]
  clear_value V
  refine (hseq (w.heap.size + 1) (fun pre W => I pre W ∧ W.heap[w.heap.size + 1]? = some (.loop (rc .ready none)) ∧ W.heap[w.heap.size]? = some (.deferred (some []))) V vb ?_ ?_ ⟨vi, vl, vd⟩).mono ?_
  · -- what the caller says outlasts the iterator's own writes
    rintro s A B row ⟨hi, hl, hd⟩ hgr hr
    refine ⟨hI s A B row hi hgr (fun r e => by have := hr r e; omega), ?_, ?_⟩
    · exact (hgr.block _ (Array.getElem?_eq_some_iff.1 hl).1 (fun e => by have := hr _ e.symm; omega)).trans hl
    · exact (hgr.block _ (Array.getElem?_eq_some_iff.1 hd).1 (fun e => by have := hr _ e.symm; omega)).trans hd
  · -- a round
    rintro pre x W ⟨hi, hl, hd⟩ hlen
    have hy := run_yield (P := P) (args := encs x) hl (hps x)
    refine ⟨fn, _, assign, body, hy, roundIn_of_wpIn hfn (hassign _ pre x W _ hlen hi ?_)⟩
    intro a' X kf kp xi xa
    have xl := kf.same _ _ (by omega) hl rfl
    have xd := kf.same _ _ (Nat.le_refl _) hd rfl
    have xlt := (Array.getElem?_eq_some_iff.1 xl).1
    refine ⟨_, run_beginRound xl rfl, ?_⟩
    have yl : (X.putObj (w.heap.size + 1) (.loop { rc .ready none with state := .busy })).heap[w.heap.size + 1]? = some (.loop { rc .ready none with state := .busy }) := World.putObj_heap_same xlt
    have yd : (X.putObj (w.heap.size + 1) (.loop { rc .ready none with state := .busy })).heap[w.heap.size]? = some (.deferred (some [])) := (World.putObj_heap_other (by omega)).trans xd
    have yp := hKb X (w.heap.size + 1) _ (.loop { rc .ready none with state := .busy }) (by omega) xl rfl
    refine wpIn_mono (hbody _ pre x a' _ (hIp _ _ _ _ _ xi (by omega) xl) (hAx _ _ _ _ _ _ xa (by omega) xl rfl) hlen) ?_
    rintro e a3 Z ⟨rfl, zf, zp, zi⟩
    have zl := zf.same _ _ (by omega) yl rfl
    have zd := zf.same _ _ (Nat.le_refl _) yd rfl
    exact ⟨_, _, run_endRound (P := P) none zl, rfl, ⟨hIp _ _ _ _ _ zi (by omega) zl, World.putObj_heap_same (Array.getElem?_eq_some_iff.1 zl).1, (World.putObj_heap_other (by omega)).trans zd⟩,
      hKt kp (hKt (hKt yp zp) (hKb _ _ _ _ (by omega) zl rfl))⟩
  · -- behind the iterator
    rintro e W2 ⟨⟨v, rfl⟩, xs, hS, hi, hl, hd⟩
    exact ⟨none, _, run_endLoop (P := P) hl (by simp [rc]), hdone _ xs _ (Nat.le_refl _) hS (hIp _ _ _ _ _ hi (by omega) hl) ((World.putObj_heap_other (by omega)).trans hd)⟩
end
end Go.Proofs.YthaejfbbefpojaaDoor
