/-
  Contract of halves.newest: the half with the greatest epoch, and of two equal ones the first. Condition: the disk lies in memory as New lays it, has at most 80000 bytes and is not broken; the table of crc holds what its text says.
-/
import Derived.Test.YtggecdgomgmhmaaDoorHalB
namespace Go.Proofs.YtggecdgomgmhmaaDoor
open Go.RowKit

/-- What a half holds for a log: its epoch, its snapshot, its records, where they end; ahead of it, where the half begins. -/
abbrev Best := Nat × (Nat × List UInt8 × List (List UInt8) × Nat)
def eOf : Option Best → Nat
  | none => 0
  | some b => b.2.1
def pickB (b : Option Best) (st : Nat) (x : Option (Nat × List UInt8 × List (List UInt8) × Nat)) : Option Best := match x with
  | none => b
  | some y => if eOf b < y.1 then some (st, y) else b
def bestAt (lat : List UInt8) (h : Nat) : Nat → Option Best
  | 0 => none
  | 1 => pickB none 0 (Hv.held (lat.take h))
  | _ + 2 => pickB (pickB none 0 (Hv.held (lat.take h))) h (Hv.held ((lat.drop h).take h))
def newestOf (lat : List UInt8) (h : Nat) : Option Best := bestAt lat h 2

/-- A content in memory; its records lie off blocks S. -/
def CtIs (S : Nat → Prop) (w : World) (b : Option Best) (E : Nat) (T : ByteArray) (A : Option Addr) (m st u : Nat) : Prop := match b with
  | none => E = 0
  | some (st', e, s, ts, u') => E = e ∧ T = ba s ∧ m = ts.length ∧ st = st' ∧ u = u' ∧ Lies S w A (cs (ts.map ba))
section
variable {S S' : Nat → Prop} {w w' : World} {b : Option Best} {E : Nat} {T : ByteArray} {A : Option Addr} {m st u : Nat}
theorem CtIs.kept (h : CtIs S w b E T A m st u) (hk : Kept S w w') : CtIs S w' b E T A m st u := by
  cases b with
  | none => exact h
  | some x =>
    obtain ⟨a1, a2, a3, a4, a5, a6⟩ := h
    exact ⟨a1, a2, a3, a4, a5, a6.kept hk⟩
theorem CtIs.below (h : CtIs S w b E T A m st u) (hb : Below w.heap.size w w') : CtIs S w' b E T A m st u := h.kept (Kept.of_below hb)
theorem CtIs.mono (h : CtIs S w b E T A m st u) (hS : ∀ k, k < w.heap.size → S' k → S k) : CtIs S' w b E T A m st u := by
  cases b with
  | none => exact h
  | some x =>
    obtain ⟨a1, a2, a3, a4, a5, a6⟩ := h
    exact ⟨a1, a2, a3, a4, a5, a6.mono hS⟩
theorem CtIs.e (h : CtIs S w b E T A m st u) : E = eOf b := by
  cases b with
  | none => exact h
  | some x => exact h.1
end

theorem scan_own (s : ByteArray) (hs : s.size ≤ 40000) (w : World) (hT : Tab w) :
    Calls Tryd.prog 37 #[.string s] w fun e w' => ∃ A c, e = .returned (.tuple #[.slice A (Fr.scan s.data.toList).1.length c, .int .i64 ((Fr.scan s.data.toList).2 : Int)]) ∧ w'.ownsRow w.heap.size 9 1 (.slice A (Fr.scan s.data.toList).1.length c) (Fr.scan s.data.toList).1.length (cs ((Fr.scan s.data.toList).1.map ba)) ∧ Below w.heap.size w w' := by
  refine ((callsIn_wide (n := 3)).1 (scan_wide 3 (Nat.le_refl _) s hs w hT)).mono ?_
  rintro e w' ⟨v, rfl, hrow, hb⟩
  obtain ⟨A, c, rfl⟩ := own_form hrow
  exact ⟨A, c, rfl, hrow, hb⟩
theorem str_size : (Tryd.prog.info? 9).map (·.size) = some 1 := by kernel_rfl
/-- A row cut from its second element on. -/
theorem run_cut_one {P : Program} (t e : TypeId) (ht : P.underlying t = some (.slice e)) (hsz : (P.info? e).map (·.size) = some 1) (g n c : Nat) (hn : n + 1 ≤ c) :
    ∃ A : Option Addr, (1 < c → A = some ((⟨g, 0, none⟩ : Addr).add 1)) ∧ ∀ w, (Instr.slice t (.slice (some ⟨g, 0, none⟩) (n + 1) c) (some (.int .i64 1)) none none).run P w = .ok (.slice A n (c - 1)) w := by
  cases hq : P.info? e with
  | none => simp [hq] at hsz
  | some i =>
    have hi : i.size = 1 := by simpa [hq] using hsz
    refine ⟨if c = 1 then some ⟨g, 0, none⟩ else some ((⟨g, 0, none⟩ : Addr).add 1), fun h => ?_, fun w => ?_⟩
    · rw [if_neg (by omega)]
    · have h0 : (1 : Int) ≤ ((n + 1 : Nat) : Int) := by omega
      have h1 : ((n + 1 : Nat) : Int) ≤ (c : Int) := by omega
      simp [Instr.slice, run_underlying ht, Instr.sliceBounds, Instr.sliceBound, asIntOf, sizeOf, typeInfo, hq, hi]
      omega
/-- All but the first of a row. -/
theorem run_tail {w : World} {base c n : Nat} {A : Option Addr} {x : Value} {vs : List Value} (h : w.ownsRow base 9 1 (.slice A (n + 1) c) (n + 1) (x :: vs)) {S : Nat → Prop} (hS : ∀ g, base ≤ g → ¬ S g) :
    ∃ A' c', (∀ W, (Instr.slice 30 (.slice A (n + 1) c) (some (.int .i64 1)) none none).run Tryd.prog W = .ok (.slice A' n c') W) ∧ Lies S w A' vs := by
  have hlen := h.1
  rcases h.2 with ⟨_, h0⟩ | ⟨g, cap, cur, hv, hb, hh, hnc, _⟩
  · omega
  · have hA : A = some ⟨g, 0, none⟩ := by injection hv
    have hc : c = cap := by injection hv
    subst hA; subst hc
    obtain ⟨A', hA', hr⟩ := run_cut_one (P := Tryd.prog) 30 9 Tryd.underlying30 str_size g n c hnc
    refine ⟨A', c - 1, hr, fun j u hj => ?_⟩
    have hj' := (List.getElem?_eq_some_iff.1 hj).1
    have hvl : vs.length = n := by simpa using hlen
    rw [hA' (by omega)]
    refine ⟨_, rfl, ?_, by rw [add_block]; exact hS g hb, ?_⟩
    · rw [add_block]
      exact Blk.lt (t := 9) (cs := cur) hh
    · have := h.cells (g := g) rfl (j + 1) u (by simpa using hj)
      rw [← this]
      congr 1
      cases j <;> simp [Addr.add] <;> omega
/-- The first of a row. -/
theorem own_first {w : World} {base c n : Nat} {A : Option Addr} {x : Value} {vs : List Value} (h : w.ownsRow base 9 1 (.slice A (n + 1) c) (n + 1) (x :: vs)) :
    ∃ g, A = some ⟨g, 0, none⟩ ∧ w.cell? ⟨g, 0, none⟩ = some x := by
  rcases h.2 with ⟨_, h0⟩ | ⟨g, cap, cur, hv, hb, hh, hnc, _⟩
  · omega
  · have hA : A = some ⟨g, 0, none⟩ := by injection hv
    subst hA
    exact ⟨g, rfl, h.cells (g := g) rfl 0 x rfl⟩
theorem scan_ok : ∀ (n : Nat) (s : List UInt8), s.length ≤ n → ∀ t ∈ (Fr.scan s).1, Fr.ok t.length := by
  intro n
  induction n with
  | zero =>
    intro s hs t ht
    have : s = [] := List.eq_nil_of_length_eq_zero (by omega)
    subst this
    rw [Fr.scan_none Fr.next_nil] at ht
    cases ht
  | succ n ih =>
    intro s hs t ht
    cases hn : Fr.next s with
    | none => rw [Fr.scan_none hn] at ht; cases ht
    | some u =>
      have hl := Fr.next_less hn
      rw [Fr.scan_some hn] at ht
      rcases List.mem_cons.1 ht with rfl | ht
      · exact (Fr.next_some hn).1
      · exact ih _ (by omega) t ht
/-- What a half holds, by its records. -/
theorem held_nil {s : List UInt8} {U : Nat} (h : Fr.scan s = ([], U)) : Hv.held s = none := by unfold Hv.held; rw [h]
theorem pick_low {s t : List UInt8} {ts : List (List UInt8)} {U : Nat} (h : Fr.scan s = (t :: ts, U)) (b : Option Best) (st : Nat) (hle : hdE t ≤ eOf b) : pickB b st (Hv.held s) = b := by
  unfold Hv.held
  rw [h]
  simp only
  unfold hdE at hle
  cases hd : Hv.hd t with
  | none => rfl
  | some p =>
    obtain ⟨e, x⟩ := p
    rw [hd] at hle
    simp only at hle
    unfold pickB
    simp only
    rw [if_neg (by omega)]
theorem pick_high {s t : List UInt8} {ts : List (List UInt8)} {U : Nat} (h : Fr.scan s = (t :: ts, U)) (b : Option Best) (st : Nat) (hgt : eOf b < hdE t) : ∃ x, Hv.hd t = some (hdE t, x) ∧ pickB b st (Hv.held s) = some (st, hdE t, x, ts, U) := by
  unfold Hv.held
  rw [h]
  simp only
  unfold hdE at hgt ⊢
  cases hd : Hv.hd t with
  | none => rw [hd] at hgt; simp only at hgt; omega
  | some p =>
    obtain ⟨e, x⟩ := p
    rw [hd] at hgt
    simp only at hgt
    refine ⟨x, rfl, ?_⟩
    unfold pickB
    simp only
    rw [if_pos hgt]
end Go.Proofs.YtggecdgomgmhmaaDoor
