/-
  Contracts of slices.Clone, IndexFunc and DeleteFunc at rows of buckets, over whatever function value tells 'yes' or 'no' of those buckets that the row has. Condition: rows of at most 1000000 buckets.
-/
import Derived.LoopTactic
import Derived.Test.YtbldonkfboahmaaBc
namespace Go.Proofs.Ytbldonkfboahmaa
open Go.RowKit

theorem eql_nil (a : Option Addr) (l c : Nat) (w : World) : (binOp .eql 23 (.slice a l c) (.slice none 0 0)).run Try.prog w = .ok (.bool a.isNone) w := by
  simp only [binOp]
  simp [run_equal_slice_nil w 23 54 a l c Try.underlying23]
set_option maxRecDepth 100000 in
set_option maxHeartbeats 2000000 in
theorem clone_any {S : Nat → Prop} (A : Option Addr) (cp : Nat) (l : List Bu) (hl : l.length ≤ 1000000) (hcp : l.length ≤ cp) (w : World) (hA : Lies S w A (bus l)) :
    Calls Try.prog 29 #[.slice A l.length cp] w fun e w' => (∃ A' c', e = .returned (.slice A' l.length c') ∧ w'.ownsRow w.heap.size 54 3 (.slice A' l.length c') l.length (bus l)) ∧ Below w.heap.size w w' := by
  cases A with
  | none =>
    have h0 : l = [] := by
      cases l with
      | nil => rfl
      | cons s r =>
        obtain ⟨a, h, _⟩ := lies_bu hA 0 (by simp)
        cases h
    subst h0
    have hO := Lib.hid (own_nil w w.heap.size 54)
    have hE := eql_nil none 0 cp
    rw [Option.isNone_none] at hE
    go_enter Try.func29, Try.ntmps29
    go_wp2_with fail
    go_ret
    exact ⟨⟨_, _, rfl, hO.out⟩, Below.refl _ w⟩
  | some a =>
    obtain ⟨A', c', w2, hr, ho, hb⟩ := copy_rows w (some a) cp l hl hA 23
    have HR := Lib.hid hr
    have HO := Lib.hid ho
    have HB := Lib.hid hb
    have hE := eql_nil (some a) l.length cp
    rw [Option.isNone_some] at hE
    clear hr ho hb hA
    go_enter Try.func29, Try.ntmps29
    go_wp2_with (at_builtin; refine wpList_append_run rfl (.tmp 5) (.tmp 6) 23 23 rfl _ _ _ rfl rfl HR.out ?_)
    go_ret
    exact ⟨⟨_, _, rfl, HO.out⟩, HB.out⟩

/-- A function value, with what it has captured, that tells q of a bucket, whatever has been made since the world w. -/
structure Tells (V : Bu → Prop) (g : Nat) (cap : Array Value) (q : Bu → Bool) (w : World) : Prop where
  enters : ∀ (args : Array Value) (W : World), (callFunc g args).run Try.prog W = .ok (.enter g args) W
  gives : ∀ (W : World) (s : Bu), V s → Below w.heap.size w W → Calls Try.prog g (#[.agg #[.string s.key, .int .i64 s.left, .int .i64 s.at_]] ++ cap) W fun e w' => e = .returned (.bool (q s)) ∧ Below W.heap.size W w'
def idxI (q : Bu → Bool) (l : List Bu) : Int := match l.findIdx? q with | some i => (i : Int) | none => -1
theorem idx_first {q : Bu → Bool} {l : List Bu} {i : Nat} (hi : i < l.length) (he : q l[i] = true) (hf : ∀ j (hj : j < i), q (l[j]'(by omega)) = false) : l.findIdx? q = some i := by
  rw [List.findIdx?_eq_some_iff_getElem]
  exact ⟨hi, he, fun j hj => by rw [hf j hj]; decide⟩
theorem idx_never {q : Bu → Bool} {l : List Bu} (hf : ∀ j (hj : j < l.length), q l[j] = false) : l.findIdx? q = none := by
  rw [List.findIdx?_eq_none_iff]
  intro x hx
  obtain ⟨j, hj, rfl⟩ := List.mem_iff_getElem.1 hx
  exact hf j hj
set_option maxRecDepth 100000 in
set_option maxHeartbeats 4000000 in
theorem sindex_any {S : Nat → Prop} (V : Bu → Prop) (q : Bu → Bool) (g : Nat) (cap : Array Value) (w0 : World) (hp : Tells V g cap q w0) (A : Option Addr) (cp : Nat) (l : List Bu) (_hl : l.length ≤ 1000000) (hV : ∀ s ∈ l, V s) (w : World) (h0 : Below w0.heap.size w0 w) (hA : Lies S w A (bus l)) :
    Calls Try.prog 39 #[.slice A l.length cp, .func (.func g) #[] cap] w fun e w' => e = .returned (.int .i64 (idxI q l)) ∧ Below w.heap.size w w' := by
  have HP := Lib.hid hp.gives
  have HE := hp.enters
  have HA := Lib.hid hA
  have H0 := Lib.hid h0
  obtain ⟨R, hR⟩ : ∃ R, idxI q l = R := ⟨_, rfl⟩
  rw [hR]
  have HR := Lib.hid hR
  clear hp hA h0 hR
  go_enter Try.func39, Try.ntmps39
  go_wp2_with fail
  go_loopw [5, 8] (fun _ i wr => ∃ k : Nat, i = .int .i64 (k : Int) ∧ k ≤ l.length ∧ (∀ j (hj : j < l.length), j < k → q l[j] = false) ∧ Below w.heap.size w wr) (fun _ i _ => l.length - (intOf i).toNat)
  case atStart => exact ⟨0, rfl, by omega, fun j _ hj => absurd hj (by omega), Below.refl _ w⟩
  case round =>
    obtain ⟨k, rfl, hk, hno, hB⟩ := hrel
    have HB := Lib.hid hB
    have HNO := Lib.hid hno
    clear hno
    by_cases hlt : k < l.length
    · obtain ⟨ad, hAe, sa0⟩ := lies_bu HA.out k hlt
      subst hAe
      have sa : BuAt wr (ad.add (k * 3)) l[k] := sa0.below HB.out
      obtain ⟨p, hq0⟩ : ∃ p, ad.add (k * 3) = p := ⟨_, rfl⟩
      rw [hq0] at sa
      obtain ⟨s, hs⟩ : ∃ s, l[k] = s := ⟨_, rfl⟩
      have HS := Lib.hid hs
      rw [hs] at sa
      have s0 := sa.c0
      have s1 := sa.c1
      have s2 := sa.c2
      have hcall := HP.out wr s (hs ▸ hV _ (List.getElem_mem hlt)) (H0.out.trans (hB.mono H0.out.size))
      have hki : (k : Int) < (l.length : Int) := by omega
      clear sa sa0 hs hB
      cases hq : q s with
      | true =>
        rw [hq] at hcall
        have HZ : Hid (R = (k : Int)) := Lib.hid (by
          rw [← HR.out]
          unfold idxI
          rw [idx_first hlt (by rw [HS.out]; exact hq) (fun j hj => HNO.out j (by omega) hj)])
        have HCA := Lib.hid hcall
        clear hcall
        go_wp2_with fail
        refine HCA.out.mono ?_
        rintro e w2 ⟨rfl, hb⟩
        have HB2 := Lib.hid (HB.out.trans (hb.mono HB.out.size))
        clear hb
        go_wp2_with fail
        go_ret
        exact ⟨congrArg (fun z => Ending.returned (.int .i64 z)) HZ.out.symm, HB2.out⟩
      | false =>
        rw [hq] at hcall
        have HCA := Lib.hid hcall
        clear hcall
        go_wp2_with fail
        refine HCA.out.mono ?_
        rintro e w2 ⟨rfl, hb⟩
        have HB2 := Lib.hid (HB.out.trans (hb.mono HB.out.size))
        clear hb
        go_wp2_with fail
        go_roundw
        case rel => exact ⟨k + 1, by go_num, by omega, fun j hj1 hj2 => by
          rcases Nat.lt_or_ge j k with h | h
          · exact HNO.out j hj1 h
          · have e : j = k := by omega
            subst e
            rw [HS.out]
            exact hq, HB2.out⟩
        case measure => simp [intOf]; omega
    · obtain rfl : k = l.length := by omega
      have HZ : Hid (R = -1) := Lib.hid (by
        rw [← HR.out]
        unfold idxI
        rw [idx_never (fun j hj => HNO.out j hj hj)])
      clear hB
      go_wp2_with fail
      go_ret
      exact ⟨congrArg (fun z => Ending.returned (.int .i64 z)) HZ.out.symm, HB.out⟩

/-- The cells of a row of buckets in a block of the call's own. -/
structure SL (w : World) (g : Nat) (m : List Bu) : Prop where
  lt : g < w.heap.size
  cell : ∀ j k (hj : j < m.length), k < 3 → w.cell? ⟨g, j * 3 + k, none⟩ = (buC m[j])[k]?
  froz : ∀ o, w.frozen? ⟨g, o, none⟩ = false
theorem SL.below {w w' : World} {g : Nat} {m : List Bu} (h : SL w g m) (hb : Below w.heap.size w w') : SL w' g m :=
  ⟨Nat.lt_of_lt_of_le h.lt hb.size, fun j k hj hk => (hb.cell (p := ⟨g, j * 3 + k, none⟩) h.lt).trans (h.cell j k hj hk), fun o => by
    have := h.froz o
    unfold World.frozen? at this ⊢
    rw [hb.block g h.lt]
    exact this⟩
theorem SL.set {w : World} {g : Nat} {m : List Bu} (h : SL w g m) (i : Nat) (hi : i < m.length) (s : Bu) : SL (w.setCells g (i * 3) (buC s)) g (m.set i s) := by
  refine ⟨by rw [setCells_size]; exact h.lt, fun j k hj hk => ?_, fun o => by rw [World.frozen?_setCells]; exact h.froz o⟩
  rw [List.length_set] at hj
  by_cases e : j = i
  · subst e
    have h6 : k < (buC s).length := hk
    rw [World.cell?_setCells_in g (buC s) (j * 3) w (fun q hq => by rw [h.cell j q hi (by simpa [buC] using hq), Option.isSome_iff_exists]; exact ⟨_, List.getElem?_eq_getElem (by simpa [buC] using hq)⟩) k h6, List.getElem_set_self, List.getElem?_eq_getElem h6]
  · rw [World.cell?_setCells_out g (buC s) (i * 3) w ⟨g, j * 3 + k, none⟩ (fun _ _ => by show j * 3 + k < i * 3 ∨ i * 3 + 3 ≤ j * 3 + k; omega), h.cell j k hj hk, List.getElem_set_ne (by omega)]
theorem SL.there {w : World} {g : Nat} {m : List Bu} (h : SL w g m) (i n : Nat) (hi : i + n ≤ m.length) : w.there g (i * 3) (n * 3) := fun j hj => by
  refine ⟨?_, h.froz _⟩
  have e : i * 3 + j = (i + j / 3) * 3 + j % 3 := by omega
  have h1 : i + j / 3 < m.length := by omega
  rw [e, h.cell (i + j / 3) (j % 3) h1 (by omega), Option.isSome_iff_exists]
  exact ⟨_, List.getElem?_eq_getElem (by show j % 3 < 3; omega)⟩
theorem SL.sec {w : World} {g : Nat} {m : List Bu} (h : SL w g m) (j : Nat) (hj : j < m.length) : BuAt w ⟨g, j * 3, none⟩ m[j] :=
  ⟨(h.cell j 0 hj (by decide)).trans rfl, (h.cell j 1 hj (by decide)).trans rfl, (h.cell j 2 hj (by decide)).trans rfl, h.lt⟩
/-- Behind a clearing of what stands from place i on: what stands ahead lies as it did. -/
theorem SL.cut {S : Nat → Prop} {w : World} {g : Nat} {m : List Bu} (h : SL w g m) (i : Nat) (hi : i ≤ m.length) (zs : List Value) (hS : ¬ S g) : Lies S (w.setCells g (i * 3) zs) (some ⟨g, 0, none⟩) (bus (m.take i)) :=
  lies_of_cells g (by rw [setCells_size]; exact h.lt) hS (fun j k hj hk => by
    rw [List.length_take] at hj
    rw [World.cell?_setCells_out g zs (i * 3) w ⟨g, j * 3 + k, none⟩ (fun _ _ => .inl (by show j * 3 + k < i * 3; omega)), h.cell j k (by omega) hk, List.getElem_take])
theorem run_clear_mid (w : World) (g o n c : Nat) (z : Value) (hv : ∀ w, (zeroValue 54).run Try.prog w = .ok z w) (hz1 : ∀ u ∈ z.cells, u.oneCell' = true) (hzs : z.cells.size = 3) (ht : w.there g o (n * 3)) (ty : TypeId) :
    (Builtin.clear_ #[23] ty #[.slice (some ⟨g, o, none⟩) n c]).run Try.prog w = .ok (.tuple #[]) (w.setCells g o (Builtin.zeroCells z.cells n).toList) := by
  have hzl : (Builtin.zeroCells z.cells n).toList.length = n * 3 := by simp [Builtin.zeroCells, hzs]
  have h1 : ∀ u ∈ (Builtin.zeroCells z.cells n).toList, u.oneCell' = true := by
    intro u hu
    simp only [Builtin.zeroCells, Array.toList_map, List.mem_map] at hu
    obtain ⟨j, _, rfl⟩ := hu
    have hlt : j % z.cells.size < z.cells.size := Nat.mod_lt _ (by omega)
    rw [getElem!_pos z.cells _ hlt]
    exact hz1 _ (Array.getElem_mem hlt)
  have hst := run_storeCells_cells (P := Try.prog) g o (Builtin.zeroCells z.cells n).toList 0 w (fun j hj => by simpa using (ht j (by omega)).1) (fun j hj => by simpa using (ht j (by omega)).2) h1
  simp only [Nat.add_zero] at hst
  cases n with
  | zero =>
    have he : (Builtin.zeroCells z.cells 0).toList = [] := List.eq_nil_of_length_eq_zero (by rw [hzl])
    rw [he]
    simp [Builtin.clear_, run_underlying Try.underlying23, World.setCells]
  | succ n => simp [Builtin.clear_, run_underlying Try.underlying23, hv, hst]
/-- What the loop of a deletion has done up to place j. -/
structure Del (q : Bu → Bool) (l m : List Bu) (i j : Nat) : Prop where
  len : m.length = l.length
  lt : i < j
  low : m.take i = (l.take j).filter fun s => !q s
  high : ∀ t (ht : t < l.length), j ≤ t → m[t]'(by rw [len]; exact ht) = l[t]
theorem Del.start {q : Bu → Bool} {l : List Bu} {i : Nat} (hi : i < l.length) (he : q l[i] = true) (hf : ∀ j (hj : j < i), q (l[j]'(by omega)) = false) : Del q l l i (i + 1) := by
  refine ⟨rfl, by omega, ?_, fun t ht _ => rfl⟩
  rw [List.take_succ_eq_append_getElem hi, List.filter_append]
  have h1 : (l.take i).filter (fun s => !q s) = l.take i := by
    rw [List.filter_eq_self]
    intro x hx
    obtain ⟨j, hj, rfl⟩ := List.mem_iff_getElem.1 hx
    rw [List.length_take] at hj
    rw [List.getElem_take, hf j (by omega)]
    rfl
  rw [h1]
  simp [he]
theorem Del.keep {q : Bu → Bool} {l m : List Bu} {i j : Nat} (h : Del q l m i j) (hj : j < l.length) (hq : q l[j] = false) : Del q l (m.set i l[j]) (i + 1) (j + 1) := by
  have hlt := h.lt
  have hlen := h.len
  refine ⟨by rw [List.length_set, hlen], by omega, ?_, fun t ht htj => by rw [List.getElem_set_ne (by omega)]; exact h.high t ht (by omega)⟩
  rw [List.take_succ_eq_append_getElem (by rw [List.length_set]; omega), List.getElem_set_self, List.take_set_of_le (by omega), h.low, List.take_succ_eq_append_getElem hj, List.filter_append]
  simp [hq]
theorem Del.skip {q : Bu → Bool} {l m : List Bu} {i j : Nat} (h : Del q l m i j) (hj : j < l.length) (hq : q l[j] = true) : Del q l m i (j + 1) := by
  have hlt := h.lt
  refine ⟨h.len, by omega, ?_, fun t ht htj => h.high t ht (by omega)⟩
  rw [h.low, List.take_succ_eq_append_getElem hj, List.filter_append]
  simp [hq]
theorem zero_bu : ∀ w, (zeroValue 54).run Try.prog w = .ok (.agg #[.string ⟨#[]⟩, .int .i64 0, .int .i64 0]) w := Try.zeroValue54
/-- A store into a row, the world behind it under a name of its own. -/
theorem wpList_store_to {P : Program} {ops : Array Oper} {rest : List Oper} {op : Oper} {a : Act} {w : World} {Q : Exit → Act → World → Prop} (W' : World) (hgd : op.guard = none) (ty : TypeId) (x y : Operand) (ho : op.op = .store ty x y)
    (b o : Nat) (cells : Array Value) (hx : a.eval x = .pointer (some ⟨b, o, none⟩)) (hy : a.eval y = .agg cells)
    (ht : w.there b o cells.size) (hi : (P.info? ty).map (·.size) = some cells.size) (h1 : cells.all (·.oneCell') = true) (hW : w.setCells b o cells.toList = W')
    (h : wpList P ops Q rest (a.put op.dst undef) W') : wpList P ops Q (op :: rest) a w :=
  wpList_store_mid hgd ty x y ho b o cells hx hy ht hi h1 (hW ▸ h)
set_option maxRecDepth 100000 in
set_option maxHeartbeats 4000000 in
theorem delete_any (V : Bu → Prop) (q : Bu → Bool) (g : Nat) (cap : Array Value) (w0 : World) (hp : Tells V g cap q w0) (A : Option Addr) (cp : Nat) (l : List Bu) (hl : l.length ≤ 1000000) (hV : ∀ s ∈ l, V s) (w : World) (h0 : Below w0.heap.size w0 w) (hown : w.ownsRow w0.heap.size 54 3 (.slice A l.length cp) l.length (bus l)) :
    Calls Try.prog 34 #[.slice A l.length cp, .func (.func g) #[] cap] w fun e w' => (∃ v, e = .returned v ∧ Row (fun b => b < w0.heap.size) (l.filter fun s => !q s) v w') ∧ Below w0.heap.size w0 w' := by
  have hcp := own_cap hown
  have hI := sindex_any (S := fun b => b < w0.heap.size) V q g cap w0 hp A cp l hl hV w h0 (lies_made hown (fun g hg h => by omega))
  cases hx : l.findIdx? q with
  | none =>
    have hfil : (l.filter fun s => !q s) = l := by
      rw [List.filter_eq_self]
      intro x hx2
      rw [List.findIdx?_eq_none_iff.1 hx x hx2]
      rfl
    rw [hfil]
    unfold idxI at hI
    rw [hx] at hI
    have HI := Lib.hid hI
    have HL := Lib.hid (lies_made (S := fun b => b < w0.heap.size) hown (fun g hg h => by omega))
    have H0 := Lib.hid h0
    clear hI hfil hx hown hp h0
    go_enter Try.func34, Try.ntmps34
    go_wp2_with fail
    refine HI.out.mono ?_
    rintro e w1 ⟨rfl, hb⟩
    have HB := Lib.hid (H0.out.trans (hb.mono H0.out.size))
    have HL2 := Lib.hid (HL.out.below hb)
    clear hb
    go_wp2_with fail
    go_ret
    exact ⟨⟨_, rfl, A, cp, rfl, hcp, HL2.out⟩, HB.out⟩
  | some i0 =>
    obtain ⟨hi0, he, hf⟩ := List.findIdx?_eq_some_iff_getElem.1 hx
    have hf' : ∀ j (hj : j < i0), q (l[j]'(by omega)) = false := fun j hj => by simpa using hf j hj
    obtain ⟨b, rfl, hbb, hbl, hbc, hbf⟩ := cells_of_own hown rfl (by omega)
    have hSL : SL w b l := ⟨hbl, fun j k hj hk => hbc j k hj hk, hbf⟩
    have HDE := Lib.hid (Del.start hi0 he hf')
    unfold idxI at hI
    rw [hx] at hI
    have HI := Lib.hid hI
    have HP := Lib.hid hp.gives
    have HE := hp.enters
    have H0 := Lib.hid h0
    have HSL := Lib.hid hSL
    have hne : ((i0 : Int) == -1) = false := beq_eq_false_iff_ne.2 (by omega)
    have hw1 : IntKind.i64.wrap ((i0 : Int) + 1) = (i0 : Int) + 1 := by rw [IntKind.wrap_i64]; omega
    clear hI hx hown hp h0 hSL hbc hbf hf hf' he hbl
    go_enter Try.func34, Try.ntmps34
    go_wp2_with fail
    refine HI.out.mono ?_
    rintro e w1 ⟨rfl, hb⟩
    have HB1 := Lib.hid (H0.out.trans (hb.mono H0.out.size))
    have HS1 := Lib.hid (HSL.out.below hb)
    clear hb
    go_wp2_with fail
    go_loopw [5, 6, 7] (fun ii jj _ wr => ∃ (i j : Nat) (m : List Bu), ii = .int .i64 (i : Int) ∧ jj = .int .i64 (j : Int) ∧ j ≤ l.length ∧ Del q l m i j ∧ SL wr b m ∧ Below w0.heap.size w0 wr) (fun _ jj _ _ => l.length - (intOf jj).toNat)
    case atStart => exact ⟨i0, i0 + 1, l, rfl, by go_num, by omega, HDE.out, HS1.out, HB1.out⟩
    case round =>
      obtain ⟨i, j, m, rfl, rfl, hj, hD, hS, hB⟩ := hrel
      have hij := hD.lt
      have hml := hD.len
      have HD := Lib.hid hD
      have HS := Lib.hid hS
      have HB := Lib.hid hB
      by_cases hlt : j < l.length
      · have sa := hS.sec j (by omega)
        rw [hD.high j hlt (by omega)] at sa
        have hadd : (⟨b, 0, none⟩ : Addr).add (j * 3) = ⟨b, j * 3, none⟩ := by rw [Addr.add_mid, Nat.zero_add]
        have haddi : (⟨b, 0, none⟩ : Addr).add (i * 3) = ⟨b, i * 3, none⟩ := by rw [Addr.add_mid, Nat.zero_add]
        obtain ⟨s, hs⟩ : ∃ s, l[j] = s := ⟨_, rfl⟩
        have HSE := Lib.hid hs
        rw [hs] at sa
        have s0 := sa.c0
        have s1 := sa.c1
        have s2 := sa.c2
        have hji : (j : Int) < (l.length : Int) := by omega
        have hba : Below w0.heap.size w0 (wr.alloc (.cells (buC s).toArray 54)) := hB.alloc hB.size _
        have hcall := HP.out _ s (hs ▸ hV _ (List.getElem_mem hlt)) hba
        have hblk := Blk.new wr 54 (buC s).toArray
        have hSa : SL (wr.alloc (.cells (buC s).toArray 54)) b m := hS.below ((Below.refl _ wr).alloc (Nat.le_refl _) _)
        rw [bu_row] at hcall hblk hSa hba
        have HBA := Lib.hid hba
        have HBLK := Lib.hid hblk
        have HSA := Lib.hid hSa
        clear sa hs hD hS hB hba hblk hSa
        cases hq : q s with
        | true =>
          rw [hq] at hcall
          have HCA := Lib.hid hcall
          clear hcall
          go_wp2_with fail
          refine HCA.out.mono ?_
          rintro e w2 ⟨rfl, hb⟩
          have HB2 := Lib.hid (HBA.out.trans (hb.mono HBA.out.size))
          have HS2 := Lib.hid (HSA.out.below hb)
          clear hb
          go_wp2_with fail
          go_roundw
          case rel => exact ⟨i, j + 1, m, rfl, by go_num, by omega, HD.out.skip hlt (by rw [HSE.out]; exact hq), HS2.out, HB2.out⟩
          case measure => simp [intOf]; omega
        | false =>
          rw [hq] at hcall
          have HCA := Lib.hid hcall
          clear hcall
          go_wp2_with fail
          refine HCA.out.mono ?_
          rintro e w2 ⟨rfl, hb⟩
          have hx := HBLK.out.of (hb.block _ HBLK.out.lt)
          have x0 : w2.cell? ⟨wr.heap.size, 0, none⟩ = some (.string s.key) := (hx.cell 0).trans rfl
          have x1 : w2.cell? ⟨wr.heap.size, 1, none⟩ = some (.int .i64 s.left) := (hx.cell 1).trans rfl
          have x2 : w2.cell? ⟨wr.heap.size, 2, none⟩ = some (.int .i64 s.at_) := (hx.cell 2).trans rfl
          have HB2 := Lib.hid (HBA.out.trans (hb.mono HBA.out.size))
          have HS2 := Lib.hid (HSA.out.below hb)
          have ht : w2.there b (i * 3) (buC s).toArray.size := by
            exact HS2.out.there i 1 (by omega)
          have hone := all_oneCell_toArray (buC_cell s)
          rw [bu_row] at ht hone
          have HT := Lib.hid ht
          have HO := Lib.hid hone
          have hii : (i : Int) < (l.length : Int) := by omega
          have hSn := HS2.out.set i (by omega) s
          have hBn := setCells_below hbb (buC s) (i * 3) w2 HB2.out
          obtain ⟨W9, hW9⟩ : ∃ W9, w2.setCells b (i * 3) (buC s) = W9 := ⟨_, rfl⟩
          rw [hW9] at hSn hBn
          have HSN := Lib.hid hSn
          have HBN := Lib.hid hBn
          have HW9 : Hid (w2.setCells b (i * 3) #[Value.string s.key, .int .i64 s.left, .int .i64 s.at_].toList = W9) := Lib.hid hW9
          clear hb hx ht hone hSn hBn hW9
          go_wp2_with (refine wpList_store_to W9 rfl 54 (.tmp 33) (.tmp 32) rfl b (i * 3) #[.string s.key, .int .i64 s.left, .int .i64 s.at_] rfl rfl HT.out bu_size HO.out HW9.out ?_)
          go_roundw
          case rel => exact ⟨i + 1, j + 1, m.set i s, by go_num, by go_num, by omega, by rw [← HSE.out]; exact HD.out.keep hlt (by rw [HSE.out]; exact hq), HSN.out, HBN.out⟩
          case measure => simp [intOf]; omega
      · obtain rfl : j = l.length := by omega
        have hlow := hD.low
        rw [List.take_length] at hlow
        have hil : (m.take i).length = i := by rw [List.length_take]; omega
        have hth := hS.there i (m.length - i) (by omega)
        rw [hml] at hth
        have hrc := fun c ty => run_clear_mid wr b (i * 3) (l.length - i) c _ zero_bu (by decide) rfl hth ty
        have hcut := hS.cut (S := fun b => b < w0.heap.size) i (by omega) (Builtin.zeroCells (Value.cells (.agg #[.string ⟨#[]⟩, .int .i64 0, .int .i64 0])) (l.length - i)).toList (by omega)
        rw [hlow] at hcut hil
        have hbel := setCells_below hbb (Builtin.zeroCells (Value.cells (.agg #[.string ⟨#[]⟩, .int .i64 0, .int .i64 0])) (l.length - i)).toList (i * 3) wr hB
        have hq2 : (Builtin.zeroCells (Value.cells (.agg #[.string ⟨#[]⟩, .int .i64 0, .int .i64 0])) (l.length - i)).toList = (Builtin.zeroCells (Value.cells (.agg #[.string ⟨#[]⟩, .int .i64 0, .int .i64 0])) (l.length - i)).toList := rfl
        generalize (Builtin.zeroCells (Value.cells (.agg #[.string ⟨#[]⟩, .int .i64 0, .int .i64 0])) (l.length - i)).toList = ZS at hrc hcut hbel
        have HCUT := Lib.hid hcut
        have HBE := Lib.hid hbel
        have HIL := Lib.hid hil
        have HRC := hrc
        have hadd : (⟨b, 0, none⟩ : Addr).add (i * 3) = ⟨b, i * 3, none⟩ := by rw [Addr.add_mid, Nat.zero_add]
        have hto := run_rows_to (some ⟨b, 0, none⟩) l.length cp i (by omega) hcp
        have hcpi : ¬ cp = i := by omega
        have hij2 : (i : Int) < (l.length : Int) := by omega
        clear hcut hbel hil hrc hlow hth hD hS hB hq2
        go_wp2_with fail
        go_ret
        exact ⟨⟨_, rfl, _, cp, by rw [HIL.out]; rfl, by rw [HIL.out]; omega, HCUT.out⟩, HBE.out⟩
end Go.Proofs.Ytbldonkfboahmaa
