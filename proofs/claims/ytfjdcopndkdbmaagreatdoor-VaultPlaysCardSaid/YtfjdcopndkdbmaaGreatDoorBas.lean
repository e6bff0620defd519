/-
  What every statement's proof of this seat leans on, whatever the law: from the walk ('it returns true and changes nothing that was there') to the row's contract; and how an array of integers that came in by value is opened. No condition.
  The disk's mathematics, without memory: bytes that are put over others; what a crash keeps of pending writes. No condition.
  Words for memory: a block that is known whole, blocks that only some calls may turn, a text copied over a row, a row of pairs cleared. They stand for every program. No condition.
  How slices that came in as arguments are opened: of any elements, to their cells; of texts. No condition.
  Words for memory and texts, for every later layer: rows of values that lie in memory, texts as lists of bytes, appends that say where the new row lies, conversions, comparisons; how slices of texts and numbers that came in are laid out as lists. They stand for every program of a seat that has the types string, uint8, uint64 and their slices. No condition.
  A slice of values of one cell each, wherever it lies, appended to a row that a call has made. No condition.
  Bytes that lie in a block of their own: made from a text, turned one by one, made a text again. No condition.
  General words for all layers: bytes and cuts of texts, rows of integers that came in, comparisons of bytes as the walk shows them. No condition.
-/
import Derived.WalkKit
import Derived.ProofKit
import Derived.OpenShut
import Derived.ShutString
import Derived.ChangeOld
import Derived.Below
import Derived.Laws.OwnMore
import Derived.Laws.CopyOwn
import Derived.Laws.MakeOwn
import Derived.Laws.IdiomStrings
import Derived.Laws.Rows
import Derived.Deep.Draws
import Derived.Deep.AppendLies
import Derived.RegionTactic
import Derived.Lib.Hide
import Derived.SliceStrings
import Derived.Deep.Slices
import Derived.ChangeArms
import Derived.ChangeAlike
import Derived.IntWalk
import Derived.WalkLawsBesides
import Derived.Lib.AppendStr
import Derived.Deep.QuietTactic
import Derived.BigQuiet
import Derived.Lib.ConvBytes
import Derived.Lib.IndexBytes
import Derived.Test.YtfjdcopndkdbmaaGreatDoorRows

namespace Go.Proofs.YtfjdcopndkdbmaaGreatDoor
open Go.ChangeShapes Go.WideShapes Go.ChangeAt Go.RowKit

theorem trodAll_below {H : Type} {enc : TypeId × Value → H} {P : Program} (hl : laidOutB P = true) {W W' : World} (hb : Below W.heap.size W W') :
    ∀ {ts : List TypeId} {vs : List Value} {ds : List (DataW H)} {ps : List MemPlace}, (∀ t ∈ ts, P.readableRec t = true ∧ t < P.types.size) →
      DataW.TrodAll enc P W 0 (fun _ => true) true ts vs ds ps → DataW.TrodAll enc P W' 0 (fun b => decide (b < W.heap.size)) true ts vs ds ps
  | [], [], [], _, _, h => h
  | t :: ts, v :: vs, d :: ds, ps, ht, h => by
    obtain ⟨p, q, h0, hr, rfl⟩ := h
    have lt0 : ∀ x ∈ p, x.block < W.heap.size := by obtain ⟨m, hm⟩ := h0; exact DataW.trod_lt m _ _ _ hm
    obtain ⟨h1, h2⟩ := ht t (by simp)
    exact ⟨p, q, Below.trod hl h1 h2 h0 hb lt0, trodAll_below hl hb (fun u hu => ht u (by simp [hu])) hr, rfl⟩

/-- THE STEP FROM A LAW's WALK TO ITS ROW. -/
theorem law_contract {H : Type} {enc : TypeId × Value → H} {P : Program} {f : FuncId} {fn : Func} {s : ChangeSpec} {W : World} {args : Array Value} {ds gs : List (DataW H)} {before : List MemPlace} {tb : TypeId}
    (hl : laidOutB P = true) (hts : (fn.params.toList.all fun t => P.readableRec t && decide (t < P.types.size)) = true) (hvars : s.vars = []) (hres : fn.resultTypes = #[tb]) (htb : P.underlying tb = some .bool)
    (hfn : s.fn H ds = { results := [.lit (.bool true)], args := ds })
    (hW : DataW.Whole enc P fn.params.toList s.vars false W args.toList ds gs before)
    (walk : Calls P f args W fun e w' => e = .returned (.bool true) ∧ Below W.heap.size W w') :
    Calls P f args W fun e W' => ∃ v, e = .returned v ∧ s.post enc P fn false true false false W args v W' := by
  refine walk.mono fun e W' ⟨he, bel⟩ => ?_
  have hW' := hW
  obtain ⟨p, q, hA, hV, rfl, hfz, hnd⟩ := hW
  rw [hvars] at hV
  obtain ⟨rfl, rfl⟩ := trodVars_none hV
  have ht : ∀ t ∈ fn.params.toList, P.readableRec t = true ∧ t < P.types.size := by
    intro t hm
    have := List.all_eq_true.1 hts t hm
    simpa using this
  refine ⟨_, he, ds, [], _, [], p, [], hW', ?_, ?_, ?_, bel.frame _, fun h => by cases h⟩
  · rw [List.append_nil, hfn, hres]
    exact trodAll_mk1 (shut_bool htb _)
  · rw [List.append_nil, hfn]
    exact trodAll_below hl bel ht hA
  · rw [List.append_nil, hfn, hvars]
    rfl

/-- AN ARRAY OF INTEGERS BY VALUE, OPENED. -/
theorem open_array {H : Type} {enc : TypeId × Value → H} {P : Program} {W : World} {base r0 : Nat} {spare : Nat → Bool} {held : Bool} {r : Reach} {t e : TypeId} {n : Nat} {k : IntKind} {v : Value} {d : DataW H} {ps : List MemPlace}
    (ht : P.underlying t = some (.array n e)) (he : P.underlying e = some (.int k)) (hce : P.cellsOf e = 1) (hct : P.cellsOf t = n)
    (hv : Value.okWide P W r r0 t v) (h : DataW.Trod enc P W base spare held t v d ps) :
    ∃ zs : List Int, v = .agg (zs.map (Value.int k)).toArray ∧ zs.length = n ∧ ∀ z ∈ zs, (Lit.int k z).wf = true := by
  obtain ⟨cs, rfl, hsz⟩ : ∃ cs, v = .agg cs ∧ cs.size = P.cellsOf t := by
    have h' : ∃ cs, v = .agg cs ∧ cs.size = P.cellsOf t ∧ Row.okWide P W r r0 t cs := by simpa [Value.okWide, ht] using hv
    obtain ⟨cs, h1, h2, _⟩ := h'
    exact ⟨cs, h1, h2⟩
  obtain ⟨fuel, hf⟩ := h
  obtain ⟨xs, m, _, _, _, hl, hel⟩ := DataW.trod_array ht hf
  rw [hct] at hsz
  have key : ∀ i, (hi : i < n) → ∃ z, cs[i]? = some (.int k z) ∧ (Lit.int k z).wf = true := by
    intro i hi
    have h1 := hel i hi
    obtain ⟨y, hy⟩ : ∃ y, xs[i]? = some y := ⟨xs[i]'(by omega), by simp [hl, hi]⟩
    rw [hy] at h1
    obtain ⟨z, e1, _, wz⟩ := DataW.trod_int he h1
    refine ⟨z, ?_, wz⟩
    rw [hce, Nat.mul_one] at e1
    have := congrArg (·[0]?) e1
    simpa [List.getElem?_take, List.getElem?_drop, Value.cells] using this
  refine ⟨cs.toList.map intOf, ?_, by simp [hsz], ?_⟩
  · congr 1
    apply Array.ext_getElem?
    intro i
    by_cases hi : i < n
    · obtain ⟨z, hz, _⟩ := key i hi
      simp [hz, intOf]
    · rw [Array.getElem?_eq_none (by omega), Array.getElem?_eq_none (by simp; omega)]
  · intro z hz
    obtain ⟨u, hu, rfl⟩ := List.mem_map.1 hz
    obtain ⟨i, hi, rfl⟩ := List.mem_iff_getElem.1 hu
    obtain ⟨z, hz, wz⟩ := key i (by simpa [hsz] using hi)
    have : cs.toList[i] = .int k z := by
      have h2 : cs.toList[i]? = some (.int k z) := by simpa using hz
      rw [List.getElem?_eq_getElem hi] at h2
      exact Option.some.inj h2
    rw [this]
    exact wz
end Go.Proofs.YtfjdcopndkdbmaaGreatDoor

namespace Go.Proofs.YtfjdcopndkdbmaaGreatDoor.Dk

/-- s over l, from place k on. -/
def put (l : List UInt8) (k : Nat) (s : List UInt8) : List UInt8 := l.take k ++ (s ++ l.drop (k + s.length))
theorem put_length (l : List UInt8) (k : Nat) (s : List UInt8) (h : k + s.length ≤ l.length) : (put l k s).length = l.length := by
  simp [put]; omega
theorem put_nil (l : List UInt8) (k : Nat) : put l k [] = l := by simp [put]
theorem put_getElem? (l : List UInt8) (k : Nat) (s : List UInt8) (h : k + s.length ≤ l.length) (i : Nat) :
    (put l k s)[i]? = if k ≤ i ∧ i < k + s.length then s[i - k]? else l[i]? := by
  unfold put
  rw [List.getElem?_append, List.length_take, Nat.min_eq_left (by omega)]
  by_cases h1 : i < k
  · rw [if_pos h1, if_neg (by omega), List.getElem?_take, if_pos h1]
  · rw [if_neg h1, List.getElem?_append]
    by_cases h2 : i - k < s.length
    · rw [if_pos h2, if_pos (by omega)]
    · rw [if_neg h2, if_neg (by omega), List.getElem?_drop]
      congr 1
      omega

/-- Writes put one over the other. -/
def puts (l : List UInt8) (ps : List (Nat × ByteArray)) : List UInt8 := ps.foldl (fun l p => put l p.1 p.2.data.toList) l
theorem puts_nil (l : List UInt8) : puts l [] = l := rfl
theorem puts_snoc (l : List UInt8) (ps : List (Nat × ByteArray)) (p : Nat × ByteArray) : puts l (ps ++ [p]) = put (puts l ps) p.1 p.2.data.toList := by
  simp [puts, List.foldl_append]
/-- All writes lie within n bytes. -/
def Within (n : Nat) (ps : List (Nat × ByteArray)) : Prop := ∀ p ∈ ps, p.1 + p.2.size ≤ n
theorem puts_length (l : List UInt8) : ∀ (ps : List (Nat × ByteArray)), Within l.length ps → (puts l ps).length = l.length := by
  intro ps
  induction ps generalizing l with
  | nil => intro _; rfl
  | cons p r ih =>
    intro h
    have h1 : (put l p.1 p.2.data.toList).length = l.length := put_length _ _ _ (by have := h p (by simp); simpa using this)
    show (puts (put l p.1 p.2.data.toList) r).length = _
    rw [ih _ (by rw [h1]; exact fun q hq => h q (by simp [hq])), h1]

/-- How many bytes a crash keeps of one write. -/
def keepN (k : Int) (s : ByteArray) : Nat := (min (max k 0) (s.size : Int)).toNat
theorem keepN_le (k : Int) (s : ByteArray) : keepN k s ≤ s.size := by unfold keepN; omega
def cuts : List (Nat × ByteArray) → Int → List (Nat × ByteArray)
  | [], _ => []
  | p :: r, k => (p.1, p.2.extract 0 (keepN k p.2)) :: cuts r (k - keepN k p.2)
def rest : List (Nat × ByteArray) → Int → Int
  | [], k => k
  | p :: r, k => rest r (k - keepN k p.2)
def lost : List (Nat × ByteArray) → Int → Int
  | [], _ => 0
  | p :: r, k => ((p.2.size : Int) - keepN k p.2) + lost r (k - keepN k p.2)
theorem cuts_snoc (p : Nat × ByteArray) : ∀ (ps : List (Nat × ByteArray)) (k : Int), cuts (ps ++ [p]) k = cuts ps k ++ [(p.1, p.2.extract 0 (keepN (rest ps k) p.2))]
  | [], _ => rfl
  | q :: r, k => by simp [cuts, rest, cuts_snoc p r]
theorem rest_snoc (p : Nat × ByteArray) : ∀ (ps : List (Nat × ByteArray)) (k : Int), rest (ps ++ [p]) k = rest ps k - keepN (rest ps k) p.2
  | [], _ => rfl
  | q :: r, k => by simp [rest, rest_snoc p r]
theorem lost_snoc (p : Nat × ByteArray) : ∀ (ps : List (Nat × ByteArray)) (k : Int), lost (ps ++ [p]) k = lost ps k + ((p.2.size : Int) - keepN (rest ps k) p.2)
  | [], _ => by simp [lost, rest]
  | q :: r, k => by simp only [List.cons_append, lost, rest, lost_snoc p r]; omega
theorem rest_bd : ∀ (ps : List (Nat × ByteArray)) (k : Int), rest ps k ≤ k ∧ (k ≤ 0 → rest ps k = k) ∧ (0 ≤ k → 0 ≤ rest ps k)
  | [], k => by simp [rest]
  | p :: r, k => by
    have h := rest_bd r (k - keepN k p.2)
    have hk : (keepN k p.2 : Int) = min (max k 0) (p.2.size : Int) := by unfold keepN; omega
    simp only [rest]
    refine ⟨by omega, fun h0 => ?_, fun h0 => h.2.2 (by omega)⟩
    rw [h.2.1 (by omega)]
    omega
/-- The bytes of all writes. -/
def bytes (ps : List (Nat × ByteArray)) : Nat := (ps.map fun p => p.2.size).sum
theorem bytes_snoc (ps : List (Nat × ByteArray)) (p : Nat × ByteArray) : bytes (ps ++ [p]) = bytes ps + p.2.size := by simp [bytes]
theorem bytes_le (n : Nat) (ps : List (Nat × ByteArray)) (h : Within n ps) : bytes ps ≤ ps.length * n := by
  induction ps with
  | nil => simp [bytes]
  | cons p r ih =>
    have h1 := ih (fun q hq => h q (by simp [hq]))
    have h2 := h p (by simp)
    simp only [bytes, List.map_cons, List.sum_cons, List.length_cons] at h1 ⊢
    rw [Nat.add_mul]
    omega
theorem lost_bd : ∀ (ps : List (Nat × ByteArray)) (k : Int), 0 ≤ lost ps k ∧ lost ps k ≤ bytes ps
  | [], _ => by simp [lost, bytes]
  | p :: r, k => by
    have h := lost_bd r (k - keepN k p.2)
    have h2 := keepN_le k p.2
    simp only [lost, bytes, List.map_cons, List.sum_cons] at h ⊢
    omega
theorem within_take {n : Nat} {ps : List (Nat × ByteArray)} (h : Within n ps) (k : Nat) : Within n (ps.take k) := fun p hp => h p (List.mem_of_mem_take hp)
theorem within_cuts {n : Nat} : ∀ {ps : List (Nat × ByteArray)} (k : Int), Within n ps → Within n (cuts ps k)
  | [], _, _ => by intro p hp; simp [cuts] at hp
  | q :: r, k, h => by
    intro p hp
    simp only [cuts, List.mem_cons] at hp
    rcases hp with rfl | hp
    · have := h q (by simp)
      have h2 := keepN_le k q.2
      simp
      omega
    · exact within_cuts _ (fun q hq => h q (by simp [hq])) p hp
theorem take_snoc' {α : Type} (l : List α) (k : Nat) (h : k < l.length) : l.take (k + 1) = l.take k ++ [l[k]] := List.take_succ_eq_append_getElem h
theorem bytes_take_le (ps : List (Nat × ByteArray)) (k : Nat) : bytes (ps.take k) ≤ bytes ps := by
  conv => rhs; rw [← List.take_append_drop k ps]
  simp only [bytes, List.map_append, List.sum_append]
  omega
end Go.Proofs.YtfjdcopndkdbmaaGreatDoor.Dk

namespace Go.Proofs.YtfjdcopndkdbmaaGreatDoor
open Go.RowKit

/-- Block g is just these cells, none frozen. -/
def Blk (w : World) (g : Nat) (t : TypeId) (cs : Array Value) : Prop := w.heap[g]? = some (.cells cs t (0, 0))
section
variable {w w' : World} {g : Nat} {t : TypeId} {cs : Array Value}
theorem Blk.lt (h : Blk w g t cs) : g < w.heap.size := by
  rcases Nat.lt_or_ge g w.heap.size with hlt | hge
  · exact hlt
  · unfold Blk at h; rw [Array.getElem?_eq_none hge] at h; cases h
theorem Blk.cell (h : Blk w g t cs) (i : Nat) : w.cell? ⟨g, i, none⟩ = cs[i]? := cell_of_row w g i cs t (0, 0) h
theorem Blk.frozen (h : Blk w g t cs) (i : Nat) : w.frozen? ⟨g, i, none⟩ = false := by
  unfold Blk at h
  simp [World.frozen?, h]
theorem Blk.new (w : World) (t : TypeId) (cs : Array Value) : Blk (w.alloc (.cells cs t)) w.heap.size t cs := heap_alloc_new w _
theorem Blk.drew (h : Blk w g t cs) : Blk w.drew g t cs := h
theorem Blk.alloc (h : Blk w g t cs) (o : Obj) : Blk (w.alloc o) g t cs := (Below.heap_alloc w o g h.lt).trans h
theorem Blk.set_ (h : Blk w g t cs) (i : Nat) (u : Value) : Blk (w.setCell ⟨g, i, none⟩ u) g t (cs.setIfInBounds i u) := by
  unfold Blk at h ⊢
  simp [World.setCell, Array.getElem?_modify, h]
theorem Blk.far (h : Blk w g t cs) {p : Addr} (hp : g ≠ p.block) (u : Value) : Blk (w.setCell p u) g t cs := (Below.heap_setCell w p u g hp).trans h
theorem Blk.row (h : Blk w g t cs) (cs' : Array Value) : Blk (w.setRow g cs') g t cs' := setRow_heap w g _ _ t _ h
theorem Blk.rowFar (h : Blk w g t cs) {g' : Nat} (hp : g ≠ g') (cs' : Array Value) : Blk (w.setRow g' cs') g t cs := (setRow_other w g' g cs' hp).trans h
theorem Blk.of (h : Blk w g t cs) (e : w'.heap[g]? = w.heap[g]?) : Blk w' g t cs := e.trans h
theorem Blk.ne_ {g' : Nat} {t' : TypeId} {cs' : Array Value} (h : Blk w g t cs) (h' : Blk w g' t' cs') (hne : t ≠ t') : g ≠ g' := by
  rintro rfl
  unfold Blk at h h'
  rw [h] at h'
  injection h' with h'
  injection h' with _ ht
  exact hne ht
theorem own_blk_ne {base : Nat} {e : TypeId} {size n : Nat} {v : Value} {xs : List Value} (h : w.ownsRow base e size v n xs) (hg : Blk w g t cs) (hne : e ≠ t) : v.ownBlock ≠ some g := by
  rcases h.2 with ⟨rfl, _⟩ | ⟨g', cap, cur, rfl, _, hh, _⟩
  · simp [Value.ownBlock]
  · intro he
    have : g' = g := by simpa [Value.ownBlock] using he
    subst this
    exact Blk.ne_ (t := e) hh hg hne rfl
theorem own_lt {base : Nat} {e : TypeId} {size n : Nat} {v : Value} {xs : List Value} (h : w.ownsRow base e size v n xs) {b : Nat} (hb : v.ownBlock = some b) : b < w.heap.size := by
  rcases h.2 with ⟨rfl, _⟩ | ⟨g', cap, cur, rfl, _, hh, _⟩
  · simp [Value.ownBlock] at hb
  · have : g' = b := by simpa [Value.ownBlock] using hb
    subst this
    exact Blk.lt (t := e) (cs := cur) hh
theorem own_of {base : Nat} {e : TypeId} {size n : Nat} {v : Value} {xs : List Value} (h : w.ownsRow base e size v n xs) (hk : ∀ b, v.ownBlock = some b → w'.heap[b]? = w.heap[b]?) : w'.ownsRow base e size v n xs := by
  obtain ⟨h1, h2⟩ := h
  refine ⟨h1, ?_⟩
  rcases h2 with h2 | ⟨g', cap, cur, rfl, hb, hh, r⟩
  · exact .inl h2
  · exact .inr ⟨g', cap, cur, rfl, hb, (hk g' rfl).trans hh, r⟩
end

/-- Only blocks of S, and new ones, have turned. -/
structure Kept (S : Nat → Prop) (w w' : World) : Prop where
  os : w'.os = w.os
  tape : w'.tape = w.tape
  output : w'.output = w.output
  size : w.heap.size ≤ w'.heap.size
  block : ∀ k, k < w.heap.size → ¬ S k → w'.heap[k]? = w.heap[k]?
theorem Kept.refl (S : Nat → Prop) (w : World) : Kept S w w := ⟨rfl, rfl, rfl, Nat.le_refl _, fun _ _ _ => rfl⟩
theorem Kept.trans {S T : Nat → Prop} {a b c : World} (h : Kept S a b) (k : Kept T b c) (hT : ∀ x, T x → S x ∨ a.heap.size ≤ x) : Kept S a c :=
  ⟨k.os.trans h.os, k.tape.trans h.tape, k.output.trans h.output, Nat.le_trans h.size k.size, fun i hi hn =>
    (k.block i (Nat.lt_of_lt_of_le hi h.size) (fun ht => by rcases hT i ht with h1 | h1; exact hn h1; omega)).trans (h.block i hi hn)⟩
theorem Kept.mono {S T : Nat → Prop} {a b : World} (h : Kept S a b) (hT : ∀ x, S x → T x ∨ a.heap.size ≤ x) : Kept T a b :=
  ⟨h.os, h.tape, h.output, h.size, fun i hi hn => h.block i hi (fun hs => by rcases hT i hs with h1 | h1; exact hn h1; omega)⟩
theorem Kept.drew {S : Nat → Prop} {a w : World} (h : Kept S a w) : Kept S a w.drew := ⟨h.os, h.tape, h.output, h.size, h.block⟩
theorem Kept.alloc {S : Nat → Prop} {a w : World} (h : Kept S a w) (o : Obj) : Kept S a (w.alloc o) :=
  ⟨h.os, h.tape, h.output, Nat.le_trans h.size (by simp), fun i hi hn => (Below.heap_alloc w o i (Nat.lt_of_lt_of_le hi h.size)).trans (h.block i hi hn)⟩
theorem Kept.setCell {S : Nat → Prop} {a w : World} (h : Kept S a w) {p : Addr} (hp : S p.block ∨ a.heap.size ≤ p.block) (u : Value) : Kept S a (w.setCell p u) :=
  ⟨h.os, h.tape, h.output, by simpa [World.setCell] using h.size, fun i hi hn => (Below.heap_setCell w p u i (by
    rintro rfl
    rcases hp with hp | hp
    · exact hn hp
    · omega)).trans (h.block i hi hn)⟩
theorem Kept.setRow {S : Nat → Prop} {a w : World} (h : Kept S a w) {g : Nat} (hp : S g ∨ a.heap.size ≤ g) (cs : Array Value) : Kept S a (w.setRow g cs) :=
  ⟨h.os, h.tape, h.output, by simpa using h.size, fun i hi hn => (setRow_other w g i cs (by
    rintro rfl
    rcases hp with hp | hp
    · exact hn hp
    · omega)).trans (h.block i hi hn)⟩
theorem Kept.grown {S : Nat → Prop} {a w w' : World} {row : Option Nat} (h : Kept S a w) (hg : w.grownBy w' row) (hr : ∀ k, row = some k → S k ∨ a.heap.size ≤ k) : Kept S a w' :=
  h.trans (T := fun k => row = some k) ⟨hg.os, hg.tape, hg.output, hg.size, fun i hi hn => hg.block i hi (fun e => hn e.symm)⟩ hr
theorem Kept.below {S : Nat → Prop} {W w w' : World} {B : Nat} (hb : Below B W w) (h : Kept S w w') (hS : ∀ k, S k → B ≤ k) (hB : B ≤ w.heap.size) : Below B W w' :=
  hb.trans ⟨h.os, h.tape, h.output, h.size, fun k hk => h.block k (by omega) (fun hs => by have := hS k hs; omega)⟩
theorem Kept.of_below {S : Nat → Prop} {w w' : World} (h : Below w.heap.size w w') : Kept S w w' := ⟨h.os, h.tape, h.output, h.size, fun k hk _ => h.block k hk⟩

/-- Bytes as cells. -/
def cb (l : List UInt8) : List Value := l.map fun b => .int .u8 (b.toNat : Int)
theorem cb_length (l : List UInt8) : (cb l).length = l.length := by simp [cb]
theorem cb_get (l : List UInt8) (i : Nat) (h : i < l.length) : (cb l)[i]? = some (.int .u8 (l[i].toNat : Int)) := by simp [cb, h]
theorem cb_put (l : List UInt8) (k : Nat) (s : List UInt8) : splice (cb l) k (cb s) = cb (Dk.put l k s) := by
  simp [splice, cb, Dk.put, List.map_append, List.map_take, List.map_drop]
theorem cb_one (l : List UInt8) : ∀ v ∈ cb l, v.oneCell' = true := by
  intro v hv
  obtain ⟨b, _, rfl⟩ := List.mem_map.1 hv
  rfl

section
variable {P : Program}
theorem run_copy_text (w : World) (dT sT ty elem : TypeId) (hu : P.underlying dT = some (.slice elem)) (hsz : (P.info? elem).map (·.size) = some 1)
    (dp : Option Addr) (dLen dCap : Nat) (s : ByteArray) (hs : s.size ≤ dLen) (g off : Nat) (l : List UInt8) (t : TypeId) (hg : Blk w g t (cb l).toArray)
    (hpos : 0 < s.size → dp = some ⟨g, off, none⟩) (hfit : off + s.size ≤ l.length) :
    (Builtin.copy_ #[dT, sT] ty #[.slice dp dLen dCap, .string s]).run P w = .ok (goInt s.size) (w.setRow g (cb (Dk.put l off s.data.toList)).toArray) := by
  have hn : Nat.min s.size dLen = s.size := Nat.min_eq_left hs
  have hx : List.take s.size (List.map (fun b => Value.int .u8 (b.toNat : Int)) s.data.toList) = cb s.data.toList := List.take_of_length_le (by simp)
  cases hq : P.info? elem with
  | none => simp [hq] at hsz
  | some i =>
    by_cases h0 : s.size = 0
    · have he : s.data.toList = [] := List.eq_nil_of_length_eq_zero (by simpa using h0)
      have hself : w.setRow g (cb (Dk.put l off s.data.toList)).toArray = w := by
        rw [he, Dk.put_nil]
        exact setRow_self w g _ t _ hg
      rw [hself]
      cases dp with
      | none => simp [Builtin.copy_, run_underlying hu, Builtin.lenOf, Builtin.firstCells, sizeOf, typeInfo, hq, h0]
      | some a => simp [Builtin.copy_, run_underlying hu, Builtin.lenOf, Builtin.firstCells, sizeOf, typeInfo, hq, h0, storeCells]
    · obtain rfl := hpos (by omega)
      have hst := run_storeCells_at P g off t (cb s.data.toList) 0 (cb l).toArray w hg (by simp [cb_length]; simpa using hfit) (cb_one _)
      simp only [Nat.add_zero] at hst
      have hput : (((cb l).toArray.toList.take off ++ cb s.data.toList ++ (cb l).toArray.toList.drop (off + (cb s.data.toList).length))).toArray = (cb (Dk.put l off s.data.toList)).toArray := by
        rw [← cb_put]
        simp [splice]
      rw [hput] at hst
      simp [Builtin.copy_, run_underlying hu, Builtin.lenOf, Builtin.firstCells, sizeOf, typeInfo, hq, hn, hx, hst]

/-- A text copied, as a step of a statement whose order is open. -/
theorem step_copy_text {w : World} {ops : Array Oper} {o : Oper} {a : Act} {K : Act → World → Prop} {Q : Exit → Act → World → Prop} {E : Prop} (hgd : o.guard = none) (d x : Operand) (dT sT : TypeId)
    (ho : o.op = .call { callee := .builtin .copy, args := #[d, x], argTypes := #[dT, sT] }) (elem : TypeId) (hu : P.underlying dT = some (.slice elem)) (hsz : (P.info? elem).map (·.size) = some 1)
    (dp : Option Addr) (dLen dCap : Nat) (s : ByteArray) (hd : a.eval d = .slice dp dLen dCap) (hx : a.eval x = .string s) (hs : s.size ≤ dLen) (g off : Nat) (l : List UInt8) (t : TypeId) (hg : Blk w g t (cb l).toArray)
    (hpos : 0 < s.size → dp = some ⟨g, off, none⟩) (hfit : off + s.size ≤ l.length)
    (h : K (a.put o.dst (goInt s.size)) (w.setRow g (cb (Dk.put l off s.data.toList)).toArray)) :
    if Region.wanted o (yielded ops a.tmps) = true then Oper.wp P o a w K Q else E := by
  have hw : Region.wanted o (yielded ops a.tmps) = true := by simp [Region.wanted, hgd]
  rw [if_pos hw]
  have hrun := run_copy_text (P := P) w dT sT o.type elem hu hsz dp dLen dCap s hs g off l t hg hpos hfit
  unfold Oper.wp
  simp [execOp, ho, resolve, invoke, builtin, hd, hx, hrun, Result.andThen]
  exact h

/-- A row of bytes over another one of the same length. -/
theorem run_copy_bytes (w : World) (dT sT ty elem : TypeId) (hu : P.underlying dT = some (.slice elem)) (hsz : (P.info? elem).map (·.size) = some 1)
    (g g' n : Nat) (l m : List UInt8) (t : TypeId) (hg : Blk w g t (cb l).toArray) (hg' : Blk w g' t (cb m).toArray) (hl : l.length = n) (hm : m.length = n) :
    (Builtin.copy_ #[dT, sT] ty #[.slice (some ⟨g, 0, none⟩) n n, .slice (some ⟨g', 0, none⟩) n n]).run P w = .ok (goInt n) (w.setRow g (cb m).toArray) := by
  have h := run_copy_row P w dT sT ty elem g 0 n n ⟨g', 0, none⟩ n n (cb l).toArray t (cb m) hu hsz hg (by rw [cb_length, hm]; exact (Nat.min_self n).symm)
    (fun j v hj => by
      have hadd : (⟨g', 0, none⟩ : Addr).add j = ⟨g', j, none⟩ := by unfold Addr.add; split <;> simp_all
      rw [hadd, hg'.cell]
      simpa using hj) (by simp [cb_length]; omega) (cb_one _)
  rw [h]
  congr 2
  · rw [cb_length, hm]
  · simp [cb_length]
    omega

/-- A cut of a row, from a place on: only where something is left its address is told. -/
theorem run_cut_from (t e : TypeId) (ht : P.underlying t = some (.slice e)) (hsz : (P.info? e).map (·.size) = some 1) (g n k : Nat) (hk : k ≤ n) :
    ∃ A : Option Addr, (k < n → A = some ⟨g, k, none⟩) ∧ ∀ w, (Instr.slice t (.slice (some ⟨g, 0, none⟩) n n) (some (.int .i64 (k : Int))) none none).run P w = .ok (.slice A (n - k) (n - k)) w := by
  cases hq : P.info? e with
  | none => simp [hq] at hsz
  | some i =>
    have hi : i.size = 1 := by simpa [hq] using hsz
    refine ⟨if n = k then some ⟨g, 0, none⟩ else some ((⟨g, 0, none⟩ : Addr).add k), fun h => ?_, fun w => ?_⟩
    · rw [if_neg (by omega)]
      unfold Addr.add
      split <;> simp_all
    · simp [Instr.slice, run_underlying ht, Instr.sliceBounds, Instr.sliceBound, asIntOf, sizeOf, typeInfo, hq, hi]
      intro h
      omega
/-- A cut of a row, from a place to another. -/
theorem run_cut_mid (t e : TypeId) (ht : P.underlying t = some (.slice e)) (hsz : (P.info? e).map (·.size) = some 1) (g n k m : Nat) (hk : k + m ≤ n) :
    ∃ A : Option Addr, A ≠ none ∧ (k < n → A = some ⟨g, k, none⟩) ∧ ∀ w, (Instr.slice t (.slice (some ⟨g, 0, none⟩) n n) (some (.int .i64 (k : Int))) (some (.int .i64 ((k : Int) + (m : Int)))) none).run P w = .ok (.slice A m (n - k)) w := by
  cases hq : P.info? e with
  | none => simp [hq] at hsz
  | some i =>
    have hi : i.size = 1 := by simpa [hq] using hsz
    refine ⟨if n = k then some ⟨g, 0, none⟩ else some ((⟨g, 0, none⟩ : Addr).add k), by split <;> simp, fun h => ?_, fun w => ?_⟩
    · rw [if_neg (by omega)]
      unfold Addr.add
      split <;> simp_all
    · have h1 : (0 : Int) ≤ (k : Int) + (m : Int) ∧ (k : Int) + (m : Int) ≤ (n : Int) := by omega
      have h2 : ((k : Int) + (m : Int)).toNat = k + m := by omega
      have h3 : (0 : Int) ≤ (k : Int) ∧ (k : Int) ≤ ((k + m : Nat) : Int) := by omega
      simp [Instr.slice, run_underlying ht, Instr.sliceBounds, Instr.sliceBound, asIntOf, sizeOf, typeInfo, hq, hi, h1, h2, h3]

/-- A row of elements of several cells, cleared. -/
theorem run_clear_own (w : World) (t e ty : TypeId) (z : Value) (ht : P.underlying t = some (.slice e)) (hv : ∀ w, (zeroValue e).run P w = .ok z w) (hz1 : ∀ u ∈ z.cells, u.oneCell' = true) (size : Nat) (hzs : z.cells.size = size) (hsz : 0 < size)
    (v : Value) (n : Nat) (xs : List Value) (base : Nat) (hown : w.ownsRow base e size v n xs) :
    ∃ w' ys, (Builtin.clear_ #[t] ty #[v]).run P w = .ok (.tuple #[]) w' ∧ w'.ownsRow base e size v n ys ∧ w'.heap.size = w.heap.size ∧ w.grownBy w' v.ownBlock := by
  rcases hown.2 with ⟨rfl, rfl⟩ | ⟨g, cap, cur, rfl, hb, hh, hnc, hcm, hcs, htk⟩
  · refine ⟨w, xs, ?_, hown, rfl, World.grownBy.refl _ _⟩
    simp [Builtin.clear_, run_underlying ht]
  · by_cases h0 : n = 0
    · subst h0
      refine ⟨w, xs, ?_, hown, rfl, World.grownBy.refl _ _⟩
      simp [Builtin.clear_, run_underlying ht]
    · have hzl : (Builtin.zeroCells z.cells n).toList.length = n * size := by simp [Builtin.zeroCells, hzs]
      have hmul : n * size ≤ cap * size := Nat.mul_le_mul_right _ hnc
      have hst := run_storeCells_at P g 0 e (Builtin.zeroCells z.cells n).toList 0 cur w hh (by rw [hzl]; omega) (by
        intro u hu
        simp only [Builtin.zeroCells, Array.toList_map, List.mem_map] at hu
        obtain ⟨j, _, rfl⟩ := hu
        have hlt : j % z.cells.size < z.cells.size := Nat.mod_lt _ (by omega)
        rw [getElem!_pos z.cells _ hlt]
        exact hz1 _ (Array.getElem_mem hlt))
      simp only [Nat.add_zero, Nat.zero_add, List.take_zero, List.nil_append] at hst
      refine ⟨w.setRow g ((Builtin.zeroCells z.cells n).toList ++ List.drop (Builtin.zeroCells z.cells n).toList.length cur.toList).toArray, (Builtin.zeroCells z.cells n).toList, ?_, ⟨hzl, .inr ⟨g, cap, _, rfl, hb, Blk.row (w := w) (t := e) (cs := cur) hh _, hnc, hcm, ?_, ?_⟩⟩, by simp, ?_⟩
      · obtain ⟨m, rfl⟩ : ∃ m, n = m + 1 := ⟨n - 1, by omega⟩
        simp [Builtin.clear_, run_underlying ht, hv, hst]
      · simp [hzl, hcs]
        omega
      · rw [List.toList_toArray, List.take_append_of_le_length (by omega), List.take_of_length_le (by omega)]
      · exact ⟨rfl, rfl, rfl, by simp, fun k hk hne => setRow_other w g k _ (by rintro rfl; exact hne rfl)⟩
end
end Go.Proofs.YtfjdcopndkdbmaaGreatDoor

namespace Go.Proofs.YtfjdcopndkdbmaaGreatDoor
open Go.ChangeShapes Go.WideShapes Go.ChangeAt Go.RowKit

theorem addr_block (a : Addr) (i : Nat) : (a.add i).block = a.block := by unfold Addr.add; split <;> rfl
theorem block_lt_of_cell {W : World} {a : Addr} {v : Value} (h : W.cell? a = some v) : a.block < W.heap.size := by
  rcases Nat.lt_or_ge a.block W.heap.size with hlt | hge
  · exact hlt
  · simp [World.cell?, Array.getElem?_eq_none hge] at h

/-- A SLICE OF ANY ELEMENTS, OPENED: the cells of each element, and that they are read as its type says. -/
theorem open_rows {H : Type} {enc : TypeId × Value → H} {P : Program} {W : World} {base r0 : Nat} {held : Bool} {r : Reach} {t e : TypeId} {C : Nat} {v : Value} {d : DataW H} {ps : List MemPlace}
    (ht : P.underlying t = some (.slice e)) (hce : P.cellsOf e = C) (hC : 0 < C)
    (hv : Value.okWide P W r r0 t v) (h : DataW.Trod enc P W base (fun _ => true) held t v d ps) :
    ∃ (A : Option Addr) (n c : Nat), v = .slice A n c ∧ n ≤ maxLen ∧ ∀ i, i < n → ∃ (a : Addr) (cs : List Value) (fuel : Nat) (x : DataW H × List MemPlace), A = some a ∧ a.block < W.heap.size ∧ cs.length = C ∧ (∀ j, j < C → W.cell? ((a.add (i * C)).add j) = cs[j]?) ∧
      DataW.trod enc P W base (fun _ => true) held fuel e cs = some x := by
  obtain ⟨A, n, c, rfl⟩ := okWide_slice ht hv
  obtain ⟨fuel, hf⟩ := h
  refine ⟨A, n, c, rfl, ?_⟩
  rcases Go.Deep.open_slice ht hf with ⟨hcs, _⟩ | ⟨a, len', cap', m, n', D, Pl, hcs, _, hl, hm, hmm, _, hel⟩
  · simp [Value.cells] at hcs
    obtain ⟨rfl, rfl, rfl⟩ := hcs
    exact ⟨by unfold maxLen; omega, fun i hi => absurd hi (by omega)⟩
  · simp [Value.cells] at hcs
    obtain ⟨rfl, rfl, rfl⟩ := hcs
    simp only [if_true] at hmm
    refine ⟨by omega, fun i hi => ?_⟩
    obtain ⟨cs, hc, htr⟩ := hel i (by omega)
    rw [hce] at hc
    obtain ⟨_, hlen, hat⟩ := World.cells?_some hc
    refine ⟨a, cs, n', _, rfl, ?_, hlen, fun j hj => hat j hj, htr⟩
    have h0 := hat 0 hC
    rw [List.getElem?_eq_getElem (by omega)] at h0
    have := block_lt_of_cell h0
    rwa [addr_block, addr_block] at this

/-- A SLICE OF TEXTS, OPENED. -/
theorem open_texts {H : Type} {enc : TypeId × Value → H} {P : Program} {W : World} {base r0 : Nat} {held : Bool} {r : Reach} {t e : TypeId} {v : Value} {d : DataW H} {ps : List MemPlace}
    (ht : P.underlying t = some (.slice e)) (he : P.underlying e = some .string) (hce : P.cellsOf e = 1)
    (hv : Value.okWide P W r r0 t v) (h : DataW.Trod enc P W base (fun _ => true) held t v d ps) :
    ∃ (A : Option Addr) (n c : Nat), v = .slice A n c ∧ n ≤ maxLen ∧ ∀ i, i < n → ∃ s : ByteArray, ∃ a, A = some a ∧ a.block < W.heap.size ∧ s.size ≤ maxLen ∧ W.cell? (a.add i) = some (.string s) := by
  obtain ⟨A, n, c, rfl, hn, hel⟩ := open_rows ht hce (by omega) hv h
  refine ⟨A, n, c, rfl, hn, fun i hi => ?_⟩
  obtain ⟨a, cs, fuel, x, hA, hb, hl, hc, htr⟩ := hel i hi
  obtain ⟨s, rfl, _, hs⟩ := DataW.trod_string he htr
  have := hc 0 (by omega)
  have h0 : (a.add (i * 1)).add 0 = a.add i := by rw [Nat.mul_one]; rfl
  rw [h0] at this
  exact ⟨s, a, hA, hb, hs, this⟩
end Go.Proofs.YtfjdcopndkdbmaaGreatDoor

namespace Go.Proofs.YtfjdcopndkdbmaaGreatDoor
open Go.RowKit

theorem info_parts {P : Program} {t : TypeId} {z : Value} {s b : Nat} (h : (P.info? t).map (fun i => (i.zero, i.size, i.bytes)) = some (some z, s, b)) : ∃ i, P.info? t = some i ∧ i.zero = some z ∧ i.size = s ∧ i.bytes = b := by
  cases hq : P.info? t with
  | none => simp [hq] at h
  | some i =>
    simp [hq] at h
    exact ⟨i, rfl, h.1, h.2.1, h.2.2⟩
theorem info_u8 : ∃ i, Tryz.prog.info? 5 = some i ∧ i.zero = some (.int .u8 0) ∧ i.size = 1 ∧ i.bytes = 1 := info_parts (by kernel_rfl)
theorem info_str : ∃ i, Tryz.prog.info? 9 = some i ∧ i.zero = some (.string ⟨#[]⟩) ∧ i.size = 1 ∧ i.bytes = 16 := info_parts (by kernel_rfl)

section
variable {P : Program}
/-- A text appended to a row of bytes: where it lies. -/
theorem run_append_text (w : World) (t u ty e : TypeId) (i : TypeInfo) (ht : P.underlying t = some (.slice e)) (hu : P.underlying u = some .string) (hi : P.info? e = some i) (hz : i.zero = some (.int .u8 0)) (hsize : i.size = 1) (hby : i.bytes = 1)
    (v : Value) (n : Nat) (xs : List Value) (hown : w.ownsRow 0 e 1 v n xs) (s : ByteArray) (hn : n + s.size ≤ 140737488355328) :
    ∃ A c w', (Builtin.append_ #[t, u] ty #[v, .string s]).run P w = .ok (.slice A (n + s.size) c) w' ∧ w'.ownsRow 0 e 1 (.slice A (n + s.size) c) (n + s.size) (xs ++ cb s.data.toList) ∧ w.grownBy w' v.ownBlock ∧
      ∀ k, (Value.slice A (n + s.size) c).ownBlock = some k → v.ownBlock = some k ∨ w.heap.size ≤ k := by
  have hform : ∀ {w' : World} {v' : Value} {m : Nat} {ys : List Value} {base : Nat}, w'.ownsRow base e 1 v' m ys → ∃ A c, v' = .slice A m c := fun h => by
    rcases h.2 with ⟨rfl, rfl⟩ | ⟨g, cap, cur, rfl, _⟩
    · exact ⟨_, _, rfl⟩
    · exact ⟨_, _, rfl⟩
  rcases hown.2 with ⟨hv, h0⟩ | ⟨g, cap, cur, hv, hbg, hg, hnc, hcm, hcs, htake⟩
  · subst hv; subst h0
    have hx : xs = [] := List.eq_nil_of_length_eq_zero (by simpa using hown.1)
    subst hx
    obtain ⟨v', w', hr, h1, h2, _⟩ := Lib.run_append_own_string (P := P) w w.heap.size t u ty e i ht hu hi hz hsize hby _ 0 [] (World.ownsRow_nil w _ e 1) s (by unfold maxLen; omega) (by omega) (Nat.le_refl _)
    obtain ⟨A, c, rfl⟩ := hform h1
    refine ⟨A, c, w', hr, ?_, h2, fun k hk => .inr ?_⟩
    · refine ⟨h1.1, ?_⟩
      rcases h1.2 with h | ⟨g, cap, cur, a, b, r⟩
      · exact .inl h
      · exact .inr ⟨g, cap, cur, a, Nat.zero_le _, r⟩
    · rcases h1.2 with ⟨h, _⟩ | ⟨g, cap, cur, a, b, r⟩
      · rw [h] at hk; cases hk
      · rw [a] at hk
        have : g = k := by simpa [Value.ownBlock] using hk
        omega
  · obtain ⟨v', w', hr, h1, h2, _⟩ := Lib.run_append_own_string (P := P) w 0 t u ty e i ht hu hi hz hsize hby v n xs hown s (by unfold maxLen; omega) (by omega) (Nat.zero_le _)
    subst hv
    have hcs' : cur.size = cap := by simpa using hcs
    have hxl : xs.length = n := by simpa using hown.1
    by_cases hroom : n + s.size ≤ cap
    · have hr2 := Lib.run_append_room_string (P := P) w t u ty e i ht hu hi hsize g n cap cur hg s hroom (by omega)
      rw [hr2] at hr
      injection hr with e1 e2
      subst e1; subst e2
      exact ⟨_, _, _, hr2, h1, h2, fun k hk => .inl hk⟩
    · have holds : ∀ j u, xs[j]? = some u → w.cell? ((⟨g, 0, none⟩ : Addr).add j) = some u := hown.cells (g := g) rfl
      have hr2 := Lib.run_append_grow_string (P := P) w t u ty e i (.int .u8 0) ht hu hi hz ⟨g, 0, none⟩ n cap xs (by rw [hsize]; simpa using hxl) holds s (by omega) (by omega) (by rw [hby]; exact growslice_fits (by omega) (by omega))
      rw [hr2] at hr
      injection hr with e1 e2
      subst e1; subst e2
      refine ⟨_, _, _, hr2, h1, h2, fun k hk => .inr ?_⟩
      have : w.heap.size = k := by simpa [Value.ownBlock] using hk
      omega
end

/-- An append whose run is known, at the list of operations. -/
theorem wpList_append_run {P : Program} {w w' : World} {ops : Array Oper} {rest : List Oper} {o : Oper} {a : Act} {Q : Exit → Act → World → Prop} (hgd : o.guard = none) (s x : Operand) (t u : TypeId)
    (ho : o.op = .call { callee := .builtin .append, args := #[s, x], argTypes := #[t, u] }) (v y v' : Value) (hs : a.eval s = v) (hx : a.eval x = y)
    (hr : (Builtin.append_ #[t, u] o.type #[v, y]).run P w = .ok v' w') (h : wpList P ops Q rest (a.put o.dst v') w') : wpList P ops Q (o :: rest) a w := by
  refine wpList_plain hgd fun K hK => ?_
  unfold Oper.wp execOp
  simp only [ho, resolve, invoke, builtin, Sem.run_bind, Sem.run_pure, Result.andThen_ok, List.map_toArray, List.map_cons, List.map_nil, hs, hx, hr]
  exact hK _ _ h

/-- A row of values that lies in memory, off some blocks. -/
def Lies (S : Nat → Prop) (w : World) (A : Option Addr) (vs : List Value) : Prop := ∀ i u, vs[i]? = some u → ∃ a, A = some a ∧ a.block < w.heap.size ∧ ¬ S a.block ∧ w.cell? (a.add i) = some u
theorem add_block (a : Addr) (i : Nat) : (a.add i).block = a.block := by unfold Addr.add; split <;> rfl
section
variable {S T : Nat → Prop} {w w' : World} {A : Option Addr} {vs : List Value}
theorem Lies.kept (h : Lies S w A vs) (hk : Kept S w w') : Lies S w' A vs := fun i u hi => by
  obtain ⟨a, h1, h2, h3, h4⟩ := h i u hi
  refine ⟨a, h1, Nat.lt_of_lt_of_le h2 hk.size, h3, ?_⟩
  rw [← h4]
  exact World.cell?_of_block (by rw [add_block]; exact hk.block _ h2 h3)
theorem Lies.mono (h : Lies S w A vs) (hT : ∀ k, k < w.heap.size → T k → S k) : Lies T w A vs := fun i u hi => by
  obtain ⟨a, h1, h2, h3, h4⟩ := h i u hi
  exact ⟨a, h1, h2, fun ht => h3 (hT _ h2 ht), h4⟩
theorem Lies.below (h : Lies S w A vs) (hb : Below w.heap.size w w') : Lies S w' A vs := h.kept (Kept.of_below hb)
theorem Lies.none (w : World) (A : Option Addr) : Lies S w A [] := fun i u hi => by simp at hi
/-- A row that a call has made. -/
theorem Lies.own {base n : Nat} {e : TypeId} {c : Nat} (h : w.ownsRow base e 1 (.slice A n c) n vs) (hS : ∀ g, A = some ⟨g, 0, .none⟩ → base ≤ g → ¬ S g) : Lies S w A vs := fun i u hi => by
  have hlen := h.1
  have hi' := (List.getElem?_eq_some_iff.1 hi).1
  rcases h.2 with ⟨_, h0⟩ | ⟨g, cap, cur, hv, hb, hh, _⟩
  · omega
  · have : A = some ⟨g, 0, .none⟩ := by injection hv
    subst this
    refine ⟨_, rfl, Blk.lt (t := e) (cs := cur) hh, hS g rfl hb, ?_⟩
    exact h.cells (g := g) rfl i u hi
end
def cn (l : List Nat) : List Value := l.map fun n : Nat => .int .u64 (n : Int)
def cs (l : List ByteArray) : List Value := l.map .string
def tx (l : List ByteArray) : List (List UInt8) := l.map fun s => s.data.toList
theorem cn_get (l : List Nat) (i : Nat) (h : i < l.length) : (cn l)[i]? = some (.int .u64 (l[i] : Int)) := by simp [cn, h]
theorem cs_get (l : List ByteArray) (i : Nat) (h : i < l.length) : (cs l)[i]? = some (.string l[i]) := by simp [cs, h]
theorem take_more {α : Type} (l : List α) (i : Nat) (h : i < l.length) : l.take (i + 1) = l.take i ++ [l[i]] := by simp

/-- One value in a block of its own. -/
theorem Lies.one {S : Nat → Prop} (w : World) (t : TypeId) (u : Value) (hS : ∀ k, S k → k < w.heap.size) : Lies S (w.alloc (.cells #[u] t)) (some ⟨w.heap.size, 0, .none⟩) [u] := by
  intro i x hi
  have hi' := (List.getElem?_eq_some_iff.1 hi).1
  have : i = 0 := by simp at hi'; omega
  subst this
  refine ⟨_, rfl, by simp, fun hf => by have := hS _ hf; simp at this, ?_⟩
  rw [show (⟨w.heap.size, 0, .none⟩ : Addr).add 0 = ⟨w.heap.size, 0, .none⟩ from rfl, (Blk.new w t _).cell]
  simpa using hi

def ba (l : List UInt8) : ByteArray := ⟨l.toArray⟩
theorem ba_list (l : List UInt8) : (ba l).data.toList = l := by simp [ba]
theorem ba_back (s : ByteArray) : ba s.data.toList = s := by simp [ba]
theorem ba_size (l : List UInt8) : (ba l).size = l.length := by simp [ba, ByteArray.size]
theorem ba_append (a b : List UInt8) : ba a ++ ba b = ba (a ++ b) := by
  apply ByteArray.ext
  simp [ba]
theorem ba_inj {a b : List UInt8} (h : ba a = ba b) : a = b := by
  have := congrArg (fun s : ByteArray => s.data.toList) h
  simpa [ba] using this

theorem own_form {w : World} {base n : Nat} {e : TypeId} {v : Value} {xs : List Value} (h : w.ownsRow base e 1 v n xs) : ∃ A c, v = .slice A n c := by
  rcases h.2 with ⟨rfl, rfl⟩ | ⟨g, cap, cur, rfl, _⟩
  · exact ⟨_, _, rfl⟩
  · exact ⟨_, _, rfl⟩
/-- A row of bytes that a call has made, as a text. -/
theorem run_own_text {w : World} {base c : Nat} {A : Option Addr} {l : List UInt8} (h : w.ownsRow base 5 1 (.slice A l.length c) l.length (cb l)) :
    (convert 98 9 (.slice A l.length c)).run Tryz.prog w = .ok (.string (ba l)) w := by
  rcases h.2 with ⟨hv, h0⟩ | ⟨g, cap, cur, hv, hb, hh, _⟩
  · have hl0 : l = [] := List.eq_nil_of_length_eq_zero h0
    subst hl0
    have : A = none := by injection hv
    subst this
    rw [run_convert_bytes_string w 98 9 5 none _ _ Tryz.underlying98 Tryz.underlying5 Tryz.underlying9]
    simp [ba, Conv.bytesToString]
    rfl
  · have : A = some ⟨g, 0, none⟩ := by injection hv
    subst this
    exact run_convert_bytes_back (P := Tryz.prog) w 98 9 5 ⟨g, 0, none⟩ c l Tryz.underlying98 Tryz.underlying5 Tryz.underlying9 (by
      intro i hi
      exact h.cells (g := g) rfl i _ (cb_get l i hi))
theorem run_one (W : World) (g : Nat) (z : Int) (b : UInt8) (hz : z = ((b.toNat : Nat) : Int)) (h : W.cell? ⟨g, 0, none⟩ = some (.int .u8 z)) :
    (convert 98 9 (.slice (some ⟨g, 0, none⟩) 1 1)).run Tryz.prog W = .ok (.string (ba [b])) W := by
  subst hz
  exact run_convert_bytes_back (P := Tryz.prog) W 98 9 5 ⟨g, 0, none⟩ 1 [b] Tryz.underlying98 Tryz.underlying5 Tryz.underlying9 (by
    intro j hj
    have : j = 0 := by simp at hj; omega
    subst this
    exact h)

theorem cell_on {w w' : World} (h : Below w.heap.size w w') (z : Int) : ∀ g, w.cell? ⟨g, 0, none⟩ = some (.int .u8 z) → w'.cell? ⟨g, 0, none⟩ = some (.int .u8 z) := fun g hg => by
  rcases Nat.lt_or_ge g w.heap.size with hlt | hge
  · rw [h.cell (p := ⟨g, 0, none⟩) hlt, hg]
  · simp [World.cell?, Array.getElem?_eq_none hge] at hg
/-- A text of at most n bytes. -/
def cut (s : ByteArray) (n : Nat) : ByteArray := if n < s.size then s.extract 0 n else s
theorem cut_size (s : ByteArray) (n : Nat) : (cut s n).size ≤ n := by
  unfold cut
  split
  · simp; omega
  · omega
theorem own_base {w : World} {base : Nat} {e : TypeId} {size n : Nat} {v : Value} {xs : List Value} (h : w.ownsRow base e size v n xs) {b : Nat} (hb : v.ownBlock = some b) : base ≤ b := by
  rcases h.2 with ⟨rfl, _⟩ | ⟨g', cap, cur, rfl, hl, _⟩
  · simp [Value.ownBlock] at hb
  · have : g' = b := by simpa [Value.ownBlock] using hb
    omega
theorem exists_list {α : Type} {n : Nat} {P : Nat → α → Prop} (h : ∀ i, i < n → ∃ s, P i s) : ∃ l : List α, l.length = n ∧ ∀ i (hi : i < l.length), P i l[i] := by
  refine ⟨List.ofFn fun i : Fin n => (h i.1 i.2).choose, by simp, fun i hi => ?_⟩
  rw [List.getElem_ofFn]
  exact (h i (by simpa using hi)).choose_spec

theorem str_beq (x y : ByteArray) : (x.toList == y.toList) = decide (x = y) := by
  rw [ByteArray.toList_eq, ByteArray.toList_eq, Bool.eq_iff_iff, beq_iff_eq, decide_eq_true_iff]
  constructor
  · intro h
    exact ByteArray.ext (Array.toList_inj.1 h)
  · rintro rfl
    rfl
theorem str_ne {x y : ByteArray} (h : x ≠ y) : (x.toList == y.toList) = false := by rw [str_beq, decide_eq_false h]
theorem below_drewN {B : Nat} {a b : World} (h : Below B a b) (n : Nat) : Below B a (b.drewN n) := ⟨h.os, h.tape, h.output, h.size, h.block⟩
theorem ext_drop (s : ByteArray) (k : Nat) : s.extract k s.size = ba (s.data.toList.drop k) := by
  have : (s.extract k s.size).data.toList = s.data.toList.drop k := by
    have e : s.data.toList.length = s.size := by simp
    simp
    apply List.take_of_length_le
    simp
  rw [← ba_back (s.extract k s.size), this]
theorem ext_take (s : ByteArray) (k : Nat) : s.extract 0 k = ba (s.data.toList.take k) := by
  have : (s.extract 0 k).data.toList = s.data.toList.take k := by
    simp
  rw [← ba_back (s.extract 0 k), this]
theorem tx_ba (l : List ByteArray) : (tx l).map ba = l := by
  unfold tx
  rw [List.map_map]
  conv => rhs; rw [← List.map_id l]
  apply List.map_congr_left
  intro s _
  exact ba_back s
theorem lies_off {S : Nat → Prop} {w2 wi : World} {A : Option Addr} {vs : List Value} (h : Lies (fun _ => False) w2 A vs) (hb : Below w2.heap.size w2 wi) (hf : ∀ k, S k → w2.heap.size ≤ k) : Lies S wi A vs := fun i u hi => by
  obtain ⟨a, h1, h2, _, h4⟩ := h i u hi
  refine ⟨a, h1, Nat.lt_of_lt_of_le h2 hb.size, fun hs => by have := hf _ hs; omega, ?_⟩
  rw [← h4]
  exact World.cell?_of_block (by rw [add_block]; exact hb.block _ h2)
theorem bounds_int {x : Int} (h : (Lit.int .i64 x).wf = true) : -9223372036854775808 ≤ x ∧ x ≤ 9223372036854775807 := by
  simpa [Lit.wf, IntKind.min, IntKind.max, IntKind.signed, IntKind.bits] using h
theorem bounds_u64 {x : Int} (h : (Lit.int .u64 x).wf = true) : ∃ n : Nat, x = (n : Int) ∧ n ≤ 18446744073709551615 := by
  have h' : 0 ≤ x ∧ x ≤ 18446744073709551615 := by simpa [Lit.wf, IntKind.min, IntKind.max, IntKind.signed, IntKind.bits] using h
  exact ⟨x.toNat, by omega, by omega⟩
theorem bounds_u8 {x : Int} (h : (Lit.int .u8 x).wf = true) : ∃ n : Nat, x = (n : Int) ∧ n ≤ 255 := by
  have h' : 0 ≤ x ∧ x ≤ 255 := by simpa [Lit.wf, IntKind.min, IntKind.max, IntKind.signed, IntKind.bits] using h
  exact ⟨x.toNat, by omega, by omega⟩
section
open Go.ChangeShapes Go.WideShapes Go.ChangeAt
theorem opened_texts {W : World} {v : Value} (h : ∃ (A : Option Addr) (n c : Nat), v = .slice A n c ∧ n ≤ maxLen ∧ ∀ i, i < n → ∃ s : ByteArray, ∃ a, A = some a ∧ a.block < W.heap.size ∧ s.size ≤ maxLen ∧ W.cell? (a.add i) = some (.string s)) :
    ∃ (A : Option Addr) (c : Nat) (l : List ByteArray), v = .slice A l.length c ∧ l.length ≤ maxLen ∧ (∀ s ∈ l, s.size ≤ maxLen) ∧ Lies (fun _ => False) W A (cs l) := by
  obtain ⟨A, n, c, rfl, hn, hel⟩ := h
  obtain ⟨l, rfl, hl⟩ := exists_list hel
  refine ⟨A, c, l, rfl, hn, fun s hs => ?_, fun i u hi => ?_⟩
  · obtain ⟨i, hi, rfl⟩ := List.mem_iff_getElem.1 hs
    obtain ⟨a, _, _, h3, _⟩ := hl i hi
    exact h3
  · have hi' := (List.getElem?_eq_some_iff.1 hi).1
    have hi2 : i < l.length := by simpa [cs] using hi'
    obtain ⟨a, h1, h2, _, h4⟩ := hl i hi2
    rw [cs_get l i hi2] at hi
    exact ⟨a, h1, h2, fun hf => hf, by rw [h4, hi]⟩
theorem opened_nums {H : Type} {enc : TypeId × Value → H} {P : Program} {W : World} {base : Nat} {held : Bool} {e : TypeId} {v : Value}
    (h : ∃ (A : Option Addr) (n c : Nat), v = .slice A n c ∧ n ≤ maxLen ∧ ∀ i, i < n → ∃ (a : Addr) (cs : List Value) (fuel : Nat) (x : DataW H × List MemPlace), A = some a ∧ a.block < W.heap.size ∧ cs.length = 1 ∧ (∀ j, j < 1 → W.cell? ((a.add (i * 1)).add j) = cs[j]?) ∧
      DataW.trod enc P W base (fun _ => true) held fuel e cs = some x) (he : P.underlying e = some (.int .u64)) :
    ∃ (A : Option Addr) (c : Nat) (l : List Nat), v = .slice A l.length c ∧ l.length ≤ maxLen ∧ (∀ n ∈ l, n ≤ 18446744073709551615) ∧ Lies (fun _ => False) W A (cn l) := by
  obtain ⟨A, n, c, rfl, hn, hel⟩ := h
  have hel2 : ∀ i, i < n → ∃ z : Nat, z ≤ 18446744073709551615 ∧ ∃ a, A = some a ∧ a.block < W.heap.size ∧ W.cell? (a.add i) = some (.int .u64 (z : Int)) := by
    intro i hi
    obtain ⟨a, cs, fuel, x, hA, hb, hl, hc, htr⟩ := hel i hi
    obtain ⟨z, rfl, _, hz⟩ := DataW.trod_int he htr
    obtain ⟨n, rfl, hn⟩ := bounds_u64 hz
    have := hc 0 (by omega)
    have h0 : (a.add (i * 1)).add 0 = a.add i := by rw [Nat.mul_one]; rfl
    rw [h0] at this
    exact ⟨n, hn, a, hA, hb, this⟩
  obtain ⟨l, rfl, hl⟩ := exists_list hel2
  refine ⟨A, c, l, rfl, hn, fun s hs => ?_, fun i u hi => ?_⟩
  · obtain ⟨i, hi, rfl⟩ := List.mem_iff_getElem.1 hs
    exact (hl i hi).1
  · have hi' := (List.getElem?_eq_some_iff.1 hi).1
    have hi2 : i < l.length := by simpa [cn] using hi'
    obtain ⟨_, a, h1, h2, h4⟩ := hl i hi2
    rw [cn_get l i hi2] at hi
    exact ⟨a, h1, h2, fun hf => hf, by rw [h4, hi]⟩
/-- A slice's length is within its room. -/
theorem open_cap {H : Type} {enc : TypeId × Value → H} {P : Program} {W : World} {base : Nat} {held : Bool} {t e : TypeId} {A : Option Addr} {n c : Nat} {d : DataW H} {ps : List MemPlace}
    (ht : P.underlying t = some (.slice e)) (h : DataW.Trod enc P W base (fun _ => true) held t (.slice A n c) d ps) : n ≤ c := by
  obtain ⟨fuel, hf⟩ := h
  rcases Go.Deep.open_slice ht hf with ⟨hcs, _⟩ | ⟨a, len', cap', m, n', D, Pl, hcs, _, hl, _⟩
  · simp [Value.cells] at hcs
    omega
  · simp [Value.cells] at hcs
    obtain ⟨_, rfl, rfl⟩ := hcs
    exact hl
end
end Go.Proofs.YtfjdcopndkdbmaaGreatDoor

namespace Go.Proofs.YtfjdcopndkdbmaaGreatDoor
open Go.RowKit
section
variable {P : Program}
theorem run_append_row (w : World) (base : Nat) (t ty e : TypeId) (i : TypeInfo) (z : Value) (bytes : Nat) (ht : P.underlying t = some (.slice e)) (hi : P.info? e = some i) (hz : i.zero = some z) (hsize : i.size = 1) (hby : i.bytes = bytes) (hzs : z.cells.size = 1)
    (v : Value) (n : Nat) (xs : List Value) (hown : w.ownsRow base e 1 v n xs) {S : Nat → Prop} (A : Option Addr) (c : Nat) (vs : List Value) (hA : Lies S w A vs) (h1 : ∀ u ∈ vs, u.oneCell' = true)
    (h63 : n + vs.length ≤ maxLen) (hbytes : (n + vs.length) * bytes ≤ 140737488355328) (hbase : base ≤ w.heap.size) :
    ∃ A' c' w', (Builtin.append_ #[t, t] ty #[v, .slice A vs.length c]).run P w = .ok (.slice A' (n + vs.length) c') w' ∧ w'.ownsRow base e 1 (.slice A' (n + vs.length) c') (n + vs.length) (xs ++ vs) ∧ w.grownBy w' v.ownBlock := by
  cases A with
  | some a =>
    obtain ⟨v', w', hr, ho, hg, _⟩ := run_append_own (P := P) w base t ty e i z 1 bytes ht hi hz hsize hby hzs (by decide) v n xs hown a vs.length c vs (by simp) (fun j u hj => by
      obtain ⟨a', h1, _, _, h4⟩ := hA j u hj
      injection h1 with h1
      subst h1
      exact h4) h1 h63 hbytes hbase
    obtain ⟨A', c', rfl⟩ := own_form ho
    exact ⟨A', c', w', hr, ho, hg⟩
  | none =>
    have h0 : vs = [] := by
      cases vs with
      | nil => rfl
      | cons u r =>
        obtain ⟨a', h1, _⟩ := hA 0 u rfl
        cases h1
    subst h0
    have hroom : ∃ A' c', v = .slice A' n c' ∧ n ≤ c' := by
      rcases hown.2 with ⟨rfl, rfl⟩ | ⟨g, cap, cur, rfl, _, _, h, _⟩
      · exact ⟨_, _, rfl, Nat.le_refl _⟩
      · exact ⟨_, _, rfl, h⟩
    obtain ⟨A', c', rfl, hc⟩ := hroom
    refine ⟨A', c', w, ?_, ?_, World.grownBy.refl w _⟩
    · cases A' with
      | none => simp [Builtin.append_, run_underlying ht, sizeOf, typeInfo, hi, Builtin.lenOf, hc, Builtin.firstCells]
      | some a => simp [Builtin.append_, run_underlying ht, sizeOf, typeInfo, hi, Builtin.lenOf, hc, Builtin.firstCells, storeCells]
    · simpa using hown
end
theorem cs_length (l : List ByteArray) : (cs l).length = l.length := by simp [cs]
theorem cs_one (l : List ByteArray) : ∀ u ∈ cs l, u.oneCell' = true := by
  intro u hu
  obtain ⟨s, _, rfl⟩ := List.mem_map.1 hu
  rfl
theorem cs_append (l m : List ByteArray) : cs (l ++ m) = cs l ++ cs m := by simp [cs]
theorem tx_append (l m : List ByteArray) : tx (l ++ m) = tx l ++ tx m := by simp [tx]
/-- Texts appended to a row of texts. -/
theorem run_append_texts (w : World) (base : Nat) (ty : TypeId) (v : Value) (l : List ByteArray) (hown : w.ownsRow base 9 1 v l.length (cs l)) {S : Nat → Prop} (A : Option Addr) (c : Nat) (m : List ByteArray) (hA : Lies S w A (cs m))
    (h : l.length + m.length ≤ 1000000) (hbase : base ≤ w.heap.size) :
    ∃ A' c' w', (Builtin.append_ #[50, 50] ty #[v, .slice A m.length c]).run Tryz.prog w = .ok (.slice A' (l ++ m).length c') w' ∧ w'.ownsRow base 9 1 (.slice A' (l ++ m).length c') (l ++ m).length (cs (l ++ m)) ∧ w.grownBy w' v.ownBlock := by
  obtain ⟨i, hi, hz, hs, hb⟩ := info_str
  have := run_append_row (P := Tryz.prog) w base 50 ty 9 i (.string ⟨#[]⟩) 16 Tryz.underlying50 hi hz hs hb rfl v l.length (cs l) hown A c (cs m) hA (cs_one m) (by rw [cs_length]; unfold maxLen; omega) (by rw [cs_length]; omega) hbase
  rw [cs_length, ← cs_append, ← List.length_append] at this
  exact this
/-- An empty slice that was made. -/
theorem own_empty (w : World) (e : TypeId) : (w.alloc (.cells #[] e)).ownsRow w.heap.size e 1 (.slice (some ⟨w.heap.size, 0, none⟩) 0 0) 0 [] :=
  ⟨rfl, .inr ⟨w.heap.size, 0, #[], rfl, Nat.le_refl _, Blk.new w e #[], Nat.le_refl _, by unfold maxLen; omega, rfl, rfl⟩⟩
end Go.Proofs.YtfjdcopndkdbmaaGreatDoor

namespace Go.Proofs.YtfjdcopndkdbmaaGreatDoor
open Go.RowKit

/-- The bytes l lie in block b. -/
def BL (w : World) (b : Nat) (l : List UInt8) : Prop := ∀ j (h : j < l.length), w.cell? ⟨b, j, none⟩ = some (.int .u8 (l[j].toNat : Int)) ∧ w.frozen? ⟨b, j, none⟩ = false
theorem BL.set {w : World} {b : Nat} {l : List UInt8} (h : BL w b l) (k : Nat) (hk : k < l.length) (x : UInt8) : BL (w.setCell ⟨b, k, none⟩ (.int .u8 (x.toNat : Int))) b (l.set k x) := by
  intro j hj
  have hj' : j < l.length := by simpa using hj
  refine ⟨?_, (World.frozen?_setCell _ _ _ _).trans (h j hj').2⟩
  by_cases e : j = k
  · subst e
    rw [World.cell?_setCell_same _ _ _ (h j hj').1]
    simp
  · have hne : (⟨b, k, none⟩ : Addr) ≠ ⟨b, j, none⟩ := by intro he; exact e (congrArg Addr.off he).symm
    rw [World.cell?_setCell_other _ _ _ _ hne, (h j hj').1, List.getElem_set_ne (by omega)]
theorem BL.new (w : World) (s : ByteArray) : BL (Lib.bytesWorld w 5 s) w.heap.size s.data.toList := by
  intro j hj
  have hj' : j < s.size := by simpa using hj
  constructor
  · rw [Lib.bytesWorld_cell w 5 s j hj', List.getD_eq_getElem?_getD, List.getElem?_eq_getElem hj]
    rfl
  · have h1 : j < (Lib.bytesCells w 5 s).size := by simp [Lib.bytesCells]; omega
    simp [World.frozen?, Lib.bytesWorld_at_new]
    omega
theorem BL.below {w w' : World} {b B : Nat} {l : List UInt8} (h : BL w b l) (hb : Below B w w') (hB : b < B) : BL w' b l := fun j hj =>
  ⟨(hb.cell (p := ⟨b, j, none⟩) hB).trans (h j hj).1, (World.frozen?_of_block (a := ⟨b, j, none⟩) (hb.block b hB)).trans (h j hj).2⟩
theorem below_bytes (w : World) (s : ByteArray) : Below w.heap.size w (Lib.bytesWorld w 5 s) :=
  ⟨rfl, rfl, rfl, by rw [Lib.bytesWorld_size]; omega, fun k hk => Lib.bytesWorld_at_old w _ s k hk⟩
theorem run_bytes_of (W : World) (s : ByteArray) : (convert 9 98 (.string s)).run Tryz.prog W = .ok (.slice (some ⟨W.heap.size, 0, none⟩) s.size (grownCap W s.size 0 5)) (Lib.bytesWorld W 5 s) :=
  Lib.run_convert_string_bytes (P := Tryz.prog) W 9 98 5 s Tryz.underlying9 Tryz.underlying98 Tryz.underlying5
theorem BL.text {w : World} {b : Nat} {l : List UInt8} (h : BL w b l) (n cap : Nat) (hn : l.length = n) :
    (convert 98 9 (.slice (some ⟨b, 0, none⟩) n cap)).run Tryz.prog w = .ok (.string (ba l)) w := by
  have e : strOfNums (l.map fun x => (x.toNat : Int)) = ba l := by
    unfold strOfNums ba
    rw [List.map_map]
    congr 2
    conv => rhs; rw [← List.map_id l]
    apply List.map_congr_left
    intro x _
    simp
  rw [← e]
  refine run_convert_bytes_arg (P := Tryz.prog) w 98 5 Tryz.underlying98 Tryz.underlying5 b 0 n cap _ (by simpa using hn) ?_ 9 Tryz.underlying9
  intro i hi
  rw [Nat.zero_add, (h i (by omega)).1, List.getD_eq_getElem?_getD, List.getElem?_map, List.getElem?_eq_getElem (by omega)]
  rfl
end Go.Proofs.YtfjdcopndkdbmaaGreatDoor

namespace Go.Proofs.YtfjdcopndkdbmaaGreatDoor
open Go.RowKit

theorem data_getD (s : ByteArray) (i : Nat) (h : i < s.size) : s.data.toList.getD i 0 = s[i] := by
  rw [List.getD_eq_getElem?_getD, Lib.data_getElem? s i h]
  rfl

theorem nil_of_size {s : ByteArray} (h : s.size = 0) : s = ⟨#[]⟩ := by
  have e : s.data.toList = [] := List.eq_nil_of_length_eq_zero (by simpa using h)
  rw [← ba_back s, e]
  rfl

theorem not_empty {s : ByteArray} (h : ¬ s.size = 0) : ¬ (s.toList = []) ∧ s.toList.isEmpty = false := by
  have h1 : ¬ (s.toList = []) := by
    rw [ByteArray.toList_eq]
    intro e
    have := congrArg List.length e
    simp at this
    exact h (by rw [this]; rfl)
  refine ⟨h1, ?_⟩
  cases hl : s.toList with
  | nil => exact absurd hl h1
  | cons a l => rfl

theorem ne_int (x y : UInt8) (n : Int) (h : n = (y.toNat : Int)) : ((x.toNat : Int) != n) = (x != y) := by
  subst h
  rw [Bool.eq_iff_iff, bne_iff_ne, bne_iff_ne]
  constructor
  · intro h1 h2
    exact h1 (by rw [h2])
  · intro h1 h2
    exact h1 (UInt8.toNat_inj.1 (by omega))

theorem eq_int (x y : UInt8) (n : Int) (h : n = (y.toNat : Int)) : ((x.toNat : Int) == n) = (x == y) := by
  have := ne_int x y n h
  unfold bne at this
  simpa using this

theorem set_mid {α : Type} (A B : List α) (x y : α) (k : Nat) (h : A.length = k) : (A ++ x :: B).set k y = A ++ y :: B := by
  subst h
  induction A with
  | nil => rfl
  | cons a A ih => simp

theorem run_tail (C : List UInt8) (n : Nat) (hn : n ≤ C.length) (W : World) : (Instr.slice 9 (.string (ba C)) (some (.int .i64 (n : Int))) none none).run Tryz.prog W = .ok (.string (ba (C.drop n))) W := by
  rw [run_slice_string_from_if _ _ _ _ _ Tryz.underlying9, if_pos (by rw [ba_size]; omega)]
  have := ext_drop (ba C) n
  rw [ba_list] at this
  rw [← this]
  simp

theorem filter_take_succ (q : UInt8 → Bool) (L : List UInt8) (k : Nat) (h : k < L.length) : (L.take (k + 1)).filter q = (L.take k).filter q ++ (if q L[k] = true then [L[k]] else []) := by
  rw [List.take_succ_eq_append_getElem h, List.filter_append]
  congr 1
  cases hq : q L[k] with
  | true => simp [hq]
  | false => simp [hq]

theorem filter_len (q : UInt8 → Bool) (L : List UInt8) (k : Nat) : ((L.take k).filter q).length ≤ k := by
  have h1 := List.length_filter_le q (L.take k)
  rw [List.length_take] at h1
  omega

theorem all_take_more (p : UInt8 → Bool) (l : List UInt8) (k : Nat) (h : k < l.length) : (l.take (k + 1)).all p = ((l.take k).all p && p l[k]) := by
  rw [List.take_succ_eq_append_getElem h, List.all_append]
  simp

theorem all_false (p : UInt8 → Bool) (l : List UInt8) (k : Nat) (h : k < l.length) (hp : p l[k] = false) : l.all p = false := by
  rw [List.all_eq_false]
  exact ⟨l[k], List.getElem_mem h, by rw [hp]; decide⟩

theorem run_sub (L : List UInt8) (a b : Nat) (hab : a ≤ b) (hb : b ≤ L.length) (W : World) : (Instr.slice 9 (.string (ba L)) (some (.int .i64 (a : Int))) (some (.int .i64 (b : Int))) none).run Tryz.prog W = .ok (.string (ba ((L.drop a).take (b - a)))) W := by
  have h4 : b ≤ (ba L).size := by rw [ba_size]; exact hb
  have e : (ba L).extract a b = ba ((L.drop a).take (b - a)) := by
    have h := Lib.extract_eq (ba L) a b
    rw [ba_list] at h
    exact h
  rw [← e]
  simp [Instr.slice, Instr.sliceBounds, Instr.sliceBound, asIntOf, run_underlying Tryz.underlying9, h4, hab]

theorem run_to (C : List UInt8) (n : Nat) (hn : n ≤ C.length) (W : World) : (Instr.slice 9 (.string (ba C)) none (some (.int .i64 (n : Int))) none).run Tryz.prog W = .ok (.string (ba (C.take n))) W := by
  rw [run_slice_string_to_if _ _ _ _ _ Tryz.underlying9, if_pos (by rw [ba_size]; omega)]
  have := ext_take (ba C) n
  rw [ba_list] at this
  rw [← this]
  simp

theorem run_onw (C : List UInt8) (n : Nat) (hn : n ≤ C.length) (W : World) : (Instr.slice 9 (.string (ba C)) (some (.int .i64 (n : Int))) none none).run Tryz.prog W = .ok (.string (ba (C.drop n))) W := by
  rw [run_slice_string_from_if _ _ _ _ _ Tryz.underlying9, if_pos (by rw [ba_size]; omega)]
  have := ext_drop (ba C) n
  rw [ba_list] at this
  rw [← this]
  simp

theorem take_ne_succ {l : List UInt8} {c : UInt8} {k : Nat} (h : ∀ x ∈ l.take k, x ≠ c) (hk : k < l.length) (hx : l[k] ≠ c) : ∀ x ∈ l.take (k + 1), x ≠ c := by
  rw [List.take_succ_eq_append_getElem hk]
  intro x hm
  rcases List.mem_append.1 hm with hm | hm
  · exact h x hm
  · rw [List.mem_singleton.1 hm]; exact hx

theorem none_in {l : List UInt8} {c : UInt8} (h : ∀ x ∈ l, x ≠ c) : l.contains c = false := by
  cases hc : l.contains c with
  | false => rfl
  | true => exact absurd rfl (h c (by simpa using hc))

theorem run_first (C : List UInt8) (h : 1 ≤ C.length) (W : World) : (Instr.slice 9 (.string (ba C)) none (some (.int .i64 1)) none).run Tryz.prog W = .ok (.string (ba (C.take 1))) W := by
  rw [run_slice_string_to_if _ _ _ _ _ Tryz.underlying9, if_pos (by rw [ba_size]; omega)]
  have := ext_take (ba C) 1
  rw [ba_list] at this
  rw [← this]
  rfl

/-- Integers as cells. -/
def ci (l : List Int) : List Value := l.map fun z : Int => .int .i64 z

theorem ci_get (l : List Int) (i : Nat) (h : i < l.length) : (ci l)[i]? = some (.int .i64 l[i]) := by simp [ci, h]

theorem and15 (x : Int) : ∃ m : Nat, m < 16 ∧ bits .and .i64 x 15 = (m : Int) := by
  have hm : (BitVec.ofInt 64 15).toNat = 2 ^ 4 - 1 := by decide
  have key : (BitVec.ofInt 64 x &&& BitVec.ofInt 64 15).toNat = (x % ((2 ^ 64 : Nat) : Int)).toNat % 2 ^ 4 := by
    rw [BitVec.toNat_and, BitVec.toNat_ofInt, hm, Nat.and_two_pow_sub_one_eq_mod]
  refine ⟨(x % ((2 ^ 64 : Nat) : Int)).toNat % 2 ^ 4, Nat.mod_lt _ (by decide), ?_⟩
  show IntKind.i64.wrap ((BitVec.ofInt 64 x &&& BitVec.ofInt 64 15).toNat : Nat) = _
  rw [key, IntKind.wrap_i64]
  omega

theorem run_mid (T : ByteArray) (m : Nat) (h : m + 1 ≤ T.size) (W : World) : (Instr.slice 9 (.string T) (some (.int .i64 (m : Int))) (some (.int .i64 ((m : Int) + 1))) none).run Tryz.prog W = .ok (.string (T.extract m (m + 1))) W := by
  have h1 : (0 : Int) ≤ (m : Int) + 1 ∧ (m : Int) + 1 ≤ (T.size : Int) := by omega
  have h2 : ((m : Int) + 1).toNat = m + 1 := by omega
  have h3 : (0 : Int) ≤ (m : Int) ∧ (m : Int) ≤ ((m + 1 : Nat) : Int) := by omega
  simp [Instr.slice, Instr.sliceBounds, Instr.sliceBound, asIntOf, run_underlying Tryz.underlying9, h1, h2, h3]

def strLen : Value → Nat
  | .string b => b.size
  | _ => 0

section
open Go.ChangeShapes Go.WideShapes Go.ChangeAt
theorem opened_ints {H : Type} {enc : TypeId × Value → H} {P : Program} {W : World} {base : Nat} {held : Bool} {e : TypeId} {v : Value}
    (h : ∃ (A : Option Addr) (n c : Nat), v = .slice A n c ∧ n ≤ maxLen ∧ ∀ i, i < n → ∃ (a : Addr) (cs : List Value) (fuel : Nat) (x : DataW H × List MemPlace), A = some a ∧ a.block < W.heap.size ∧ cs.length = 1 ∧ (∀ j, j < 1 → W.cell? ((a.add (i * 1)).add j) = cs[j]?) ∧
      DataW.trod enc P W base (fun _ => true) held fuel e cs = some x) (he : P.underlying e = some (.int .i64)) :
    ∃ (A : Option Addr) (c : Nat) (l : List Int), v = .slice A l.length c ∧ l.length ≤ maxLen ∧ (∀ z ∈ l, -9223372036854775808 ≤ z ∧ z ≤ 9223372036854775807) ∧ Lies (fun _ => False) W A (ci l) := by
  obtain ⟨A, n, c, rfl, hn, hel⟩ := h
  have hel2 : ∀ i, i < n → ∃ z : Int, (-9223372036854775808 ≤ z ∧ z ≤ 9223372036854775807) ∧ ∃ a, A = some a ∧ a.block < W.heap.size ∧ W.cell? (a.add i) = some (.int .i64 z) := by
    intro i hi
    obtain ⟨a, cs, fuel, x, hA, hb, hl, hc, htr⟩ := hel i hi
    obtain ⟨z, rfl, _, hz⟩ := DataW.trod_int he htr
    have := hc 0 (by omega)
    have h0 : (a.add (i * 1)).add 0 = a.add i := by rw [Nat.mul_one]; rfl
    rw [h0] at this
    exact ⟨z, bounds_int hz, a, hA, hb, this⟩
  obtain ⟨l, rfl, hl⟩ := exists_list hel2
  refine ⟨A, c, l, rfl, hn, fun s hs => ?_, fun i u hi => ?_⟩
  · obtain ⟨i, hi, rfl⟩ := List.mem_iff_getElem.1 hs
    exact (hl i hi).1
  · have hi' := (List.getElem?_eq_some_iff.1 hi).1
    have hi2 : i < l.length := by simpa [ci] using hi'
    obtain ⟨_, a, h1, h2, h4⟩ := hl i hi2
    rw [ci_get l i hi2] at hi
    exact ⟨a, h1, h2, fun hf => hf, by rw [h4, hi]⟩
end
end Go.Proofs.YtfjdcopndkdbmaaGreatDoor
