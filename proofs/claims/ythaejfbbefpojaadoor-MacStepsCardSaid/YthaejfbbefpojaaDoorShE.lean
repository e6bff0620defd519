/-
  Contracts of sha.blocks: it enumerates the blocks of 64 bytes of all parts, one behind the other. Condition: at most 10000 parts of 100000 bytes in all.
-/
import Derived.RangeFuncNested
import Derived.RangeFuncBound
import Derived.RangeFuncCalls
import Derived.RangeFuncBox
import Derived.RangeFuncLeaves
import Derived.Shelf.Abstract
import Derived.Shelf.RegionOpen
import Derived.WalkKit
import Derived.OwnWalkIn
import Derived.TacticsInMore
import Derived.LoopNIn
import Derived.LoopIn
import Derived.Test.YthaejfbbefpojaaDoorShL
import Derived.Test.YthaejfbbefpojaaDoorShC
import Derived.Test.YthaejfbbefpojaaDoorShD
namespace Go.Proofs.YthaejfbbefpojaaDoor
open Go.RowKit Go.Shelf
attribute [local go_sem] Oper.semAt_some

/-- The whole blocks of a row of bytes. -/
def chunks (L : List UInt8) : List (List UInt8) := if _h : 64 ≤ L.length then L.take 64 :: chunks (L.drop 64) else []
termination_by L.length
decreasing_by rw [List.length_drop]; omega
theorem chunks_low {L : List UInt8} (h : L.length < 64) : chunks L = [] := by rw [chunks, dif_neg (by omega)]
theorem chunks_step {x r : List UInt8} (h : x.length = 64) : chunks (x ++ r) = x :: chunks r := by
  rw [chunks, dif_pos (by rw [List.length_append]; omega), ← h, List.take_left, List.drop_left]
theorem chunks_of : ∀ (pre : List (List UInt8)) (t : List UInt8), (∀ x ∈ pre, x.length = 64) → t.length < 64 → chunks (pre.flatten ++ t) = pre
  | [], t, _, ht => by simpa using chunks_low ht
  | x :: pre, t, hp, ht => by
    rw [List.flatten_cons, List.append_assoc, chunks_step (hp x (by simp)), chunks_of pre t (fun y hy => hp y (by simp [hy])) ht]
theorem blocks_fold : ∀ (n : Nat) (h : Sh.V) (L : List UInt8), L.length ≤ n → Sh.blocks h L = (chunks L).foldl Sh.block h := by
  intro n
  induction n with
  | zero => intro h L hL; rw [Sh.blocks_low h L (by omega), chunks_low (by omega)]; rfl
  | succ n ih =>
    intro h L hL
    by_cases h64 : 64 ≤ L.length
    · rw [Sh.blocks, dif_pos h64, chunks, dif_pos h64, List.foldl_cons]
      exact ih _ _ (by rw [List.length_drop]; omega)
    · rw [Sh.blocks_low h L (by omega), chunks_low (by omega)]
      rfl

/-- Whatever cells lie elsewhere lie as they lay. -/
def Kc (Nb : Nat) (A B : World) : Prop := ∀ k cs t fr, k ≠ Nb → A.heap[k]? = some (.cells cs t fr) → B.heap[k]? = some (.cells cs t fr)
theorem Kc.trans {Nb : Nat} {A B C : World} (h : Kc Nb A B) (k : Kc Nb B C) : Kc Nb A C := fun i cs t fr hi ha => k i cs t fr hi (h i cs t fr hi ha)
theorem Kc.refl (Nb : Nat) (A : World) : Kc Nb A A := fun _ _ _ _ _ h => h
theorem Kc.put {Nb : Nat} (W : World) (l : Nat) (o o' : Obj) (h : W.heap[l]? = some o) (ho : o.isCells = false) : Kc Nb W (W.putObj l o') := fun k _ _ _ _ hk => by
  have hne : k ≠ l := by
    rintro rfl
    rw [hk] at h
    injection h with h
    subst h
    cases ho
  exact (World.putObj_heap_other hne).trans hk
theorem Kc.below {Nb : Nat} {A B : World} (h : Below A.heap.size A B) : Kc Nb A B := fun k _ _ _ _ hk => (h.block k (Array.getElem?_eq_some_iff.1 hk).1).trans hk
theorem cell_cells {w : World} {a : Addr} {v : Value} (h : w.cell? a = some v) : ∃ cs t fr, w.heap[a.block]? = some (.cells cs t fr) := by
  unfold World.cell? at h
  cases hq : w.heap[a.block]? with
  | none => simp [hq] at h
  | some o =>
    cases o <;> simp [hq] at h
    exact ⟨_, _, _, rfl⟩
theorem Lies.kc {S : Nat → Prop} {Nb : Nat} {w w' : World} {A : Option Addr} {vs : List Value} (h : Lies S w A vs) (hk : Kc Nb w w') (hS : S Nb) : Lies S w' A vs := fun i u hi => by
  obtain ⟨a, h1, h2, h3, h4⟩ := h i u hi
  obtain ⟨cs, t, fr, hc⟩ := cell_cells h4
  rw [add_block] at hc
  have hne : a.block ≠ Nb := fun e => h3 (e ▸ hS)
  have hc' := hk _ cs t fr hne hc
  refine ⟨a, h1, (Array.getElem?_eq_some_iff.1 hc').1, h3, ?_⟩
  rw [← h4]
  exact World.cell?_of_block (by rw [add_block, hc', hc])
theorem Blk.kc {Nb : Nat} {w w' : World} {g : Nat} {t : TypeId} {cs : Array Value} (h : Blk w g t cs) (hk : Kc Nb w w') (hg : g ≠ Nb) : Blk w' g t cs := hk g cs t (0, 0) hg h

theorem run_from (s : ByteArray) (i : Int) (a : Nat) (hi : i = (a : Int)) (ha : a ≤ s.size) (W : World) :
    (Instr.slice 9 (.string s) (some (.int .i64 i)) none none).run Tryd.prog W = .ok (.string (ba (s.data.toList.drop a))) W := by
  subst hi
  rw [run_slice_string_from_if _ _ _ _ _ Tryd.underlying9, if_pos (by omega), ← ext_drop]
  simp
def strSize : Value → Nat
  | .string u => u.size
  | _ => 0
section
variable {P : Program}
/-- As much of a text as has room, copied. -/
theorem run_copy_part (w : World) (dT sT ty elem : TypeId) (hu : P.underlying dT = some (.slice elem)) (hsz : (P.info? elem).map (·.size) = some 1)
    (dLen dCap : Nat) (s : ByteArray) (m : Nat) (hm : Nat.min s.size dLen = m) (g off : Nat) (l : List UInt8) (t : TypeId) (hg : Blk w g t (cb l).toArray) (hfit : off + m ≤ l.length) :
    (Builtin.copy_ #[dT, sT] ty #[.slice (some ⟨g, off, none⟩) dLen dCap, .string s]).run P w = .ok (.int .i64 (m : Int)) (w.setRow g (cb (Dk.put l off (s.data.toList.take m))).toArray) := by
  have hx : List.take m (List.map (fun b => Value.int .u8 (b.toNat : Int)) s.data.toList) = cb (s.data.toList.take m) := by simp [cb, List.map_take]
  have hml : (s.data.toList.take m).length = m := by
    rw [List.length_take]
    have : m ≤ s.size := by rw [← hm]; exact Nat.min_le_left _ _
    have e : s.data.toList.length = s.size := by simp
    omega
  cases hq : P.info? elem with
  | none => simp [hq] at hsz
  | some i =>
    have hst := run_storeCells_at P g off t (cb (s.data.toList.take m)) 0 (cb l).toArray w hg (by simp only [cb_length, hml, List.size_toArray]; omega) (cb_one _)
    simp only [Nat.add_zero] at hst
    have hput : (((cb l).toArray.toList.take off ++ cb (s.data.toList.take m) ++ (cb l).toArray.toList.drop (off + (cb (s.data.toList.take m)).length))).toArray = (cb (Dk.put l off (s.data.toList.take m))).toArray := by
      rw [← cb_put]
      simp [splice]
    rw [hput] at hst
    have hgo : goInt (m : Int) = .int .i64 (m : Int) := rfl
    simp [Builtin.copy_, run_underlying hu, Builtin.lenOf, Builtin.firstCells, sizeOf, typeInfo, hq, hm, hx, hst, hgo]
end

theorem put_take (B : List UInt8) (t u : List UInt8) (m : Nat) (ht : B.take t.length = t) (hm : m ≤ u.length) : (Dk.put B t.length (u.take m)).take (t.length + m) = t ++ u.take m := by
  have h1 : (u.take m).length = m := by rw [List.length_take]; omega
  unfold Dk.put
  have e : (t ++ u.take m).length = t.length + m := by rw [List.length_append, h1]
  rw [ht, ← e, ← List.append_assoc]
  exact List.take_left
theorem tx_take (l : List ByteArray) (k : Nat) (h : k < l.length) : (tx (l.take (k + 1))).flatten = (tx (l.take k)).flatten ++ l[k].data.toList := by
  rw [take_more l k h]
  unfold tx
  rw [List.map_append, List.flatten_append]
  simp
/-- A whole block loaded, also behind a guard. -/
theorem wpListIn_load_blk {F : Fence} {n : Nat} {P : Program} {ops : Array Oper} {rest : List Oper} {o : Oper} {a : Act} {w : World} {Q : Exit → Act → World → Prop} (hw : Region.wanted o (yielded ops a.tmps) = true) (ty : TypeId) (x : Operand) (ho : o.op = .load ty x)
    (g : Nat) (hx : a.eval x = .pointer (some ⟨g, 0, none⟩)) (t : TypeId) (cs : Array Value) (hb : Blk w g t cs) {d : TypeDesc} (hu : P.underlying ty = some d) (hd : (match d with | .struct _ | .array _ _ => true | _ => false) = true) (hi : (P.info? ty).map (·.size) = some cs.size)
    (h : wpListIn F n P ops Q rest (a.put o.dst (.agg cs)) w) : wpListIn F n P ops Q (o :: rest) a w := by
  refine BigFrame.wpListIn_want hw fun K hK => ⟨fun f hf => ?_, ?_⟩
  · simp [Oper.about, ho] at hf
  · rw [Oper.semAt_plain F _ _ (by rw [ho]; intro c hc'; cases hc')]
    unfold execOp
    simp only [ho, hx, Instr.loadAt, Instr.sureAddr, Sem.run_bind, Sem.run_pure, Result.andThen_ok, run_loadVar_row w g t ty cs (0, 0) d hb hu hd hi]
    exact hK _ _ h

/-- The state between two parts. -/
structure BlkI (g : Nat) (A : Option Addr) (l : List ByteArray) (S : Nat → Prop) (D : List UInt8) (pre : List (List UInt8)) (t B : List UInt8) (w : World) : Prop where
  full : ∀ x ∈ pre, x.length = 64
  low : t.length < 64
  done : pre.flatten ++ t = D
  cells : Blk w g 58 (cb B).toArray
  len : B.length = 64
  head : B.take t.length = t
  parts : Lies S w A (cs l)

set_option maxRecDepth 100000 in
set_option maxHeartbeats 4000000 in
theorem blocks1_in (n : Nat) (l Bn Nb : Nat) (ps : List ByteArray) (A : Option Addr) (c : Nat) (hl : ps.length ≤ 10000) (hs : len ps ≤ 200000) (J : List (List UInt8) → World → Prop)
    (W : World) (hNb : Nb < W.heap.size)
    (hJ : ∀ (s : List (List UInt8)) (X Y : World) (row : Option Nat), J s X → X.grownBy Y row → (∀ r, row = some r → W.heap.size ≤ r) → J s Y)
    (hY : ∀ pre x X, J pre X → x.length = 64 → YieldAt Fence.wide (n - 1) Tryd.prog l #[.agg (cb x).toArray] X fun e Y =>
      e = .returned (.bool true) ∧ J (pre ++ [x]) Y ∧ Kc Nb X Y)
    (hBn : W.cell? ⟨Bn, 0, none⟩ = some (.slice A ps.length c)) (hL : Lies (fun b => b = Nb ∨ W.heap.size ≤ b) W A (cs ps)) (h0 : J [] W) :
    CallsIn Fence.wide n Tryd.prog 46 #[.func (.yield l) #[] #[], .pointer (some ⟨Bn, 0, none⟩)] W fun e W' => (∃ v, e = .returned v) ∧ J (chunks (tx ps).flatten) W' := by
  have HL := Lib.hid hL
  have HJ0 := Lib.hid h0
  clear hL h0
  refine callsIn_of_wp Tryd.func46 rfl trivial ?_ rfl
  simp only [Tryd.ntmps46, List.size_toArray, List.length_cons, List.length_nil, Nat.reduceAdd, Nat.reduceSub, Array.replicate_succ, Array.replicate_zero, List.push_toArray, List.append_toArray, List.nil_append, List.cons_append]
  have hBl := cell_lt hBn
  gi_wp2_with fail
  gi_loopw [4, 6, 7, 10] (fun f _ _ i wr => ∃ (k : Nat) (pre : List (List UInt8)) (t B : List UInt8), i = .int .i64 k ∧ k ≤ ps.length ∧ f = .int .i64 (t.length : Int) ∧ BlkI W.heap.size A ps (fun b => b = Nb ∨ W.heap.size ≤ b) (tx (ps.take k)).flatten pre t B wr ∧ J pre wr)
    (fun _ _ _ i _ => ps.length - (intOf i).toNat)
  case atStart =>
    exact ⟨0, [], [], List.replicate 64 0, rfl, by omega, rfl, ⟨by simp, by simp, rfl, Blk.new W _ _, rfl, rfl, HL.out.kept (Kept.alloc (Kept.refl _ _) _)⟩, hJ _ _ _ none HJ0.out (World.grownBy_alloc _ _ _) (fun r e => by cases e)⟩
  case round =>
    obtain ⟨k, pre, t, B, rfl, hk, rfl, hI, hJs⟩ := hrel
    by_cases hlt : k < ps.length
    · obtain ⟨a, hAa, _, _, ha3⟩ := hI.parts k _ (cs_get ps k hlt)
      subst hAa
      have hD := tx_take ps k hlt
      have hsz : ps[k].size ≤ 200000 := by have h1 := len_take ps k hlt; have h2 := len_le ps (k + 1); omega
      generalize ps[k] = u0 at ha3 hD hsz
      have HI := Lib.hid hI
      have HJs := Lib.hid hJs
      have HD := Lib.hid hD
      have hki : (k : Int) < (ps.length : Int) := by omega
      clear hI hJs hD
      gi_wp2_with fail
      gi_loopw [4, 6, 7] (fun f p _ wr => ∃ (pre : List (List UInt8)) (t B : List UInt8) (D : List UInt8) (u : ByteArray), f = .int .i64 (t.length : Int) ∧ p = .string u ∧ u.size ≤ 200000 ∧ D ++ u.data.toList = (tx (ps.take (k + 1))).flatten ∧ BlkI W.heap.size (some a) ps (fun b => b = Nb ∨ W.heap.size ≤ b) D pre t B wr ∧ J pre wr)
        (fun _ p _ _ => strSize p)
      case atStart => exact ⟨pre, t, B, _, u0, rfl, rfl, hsz, HD.out.symm, HI.out, HJs.out⟩
      case round =>
        clear HI HJs ha3 hsz HD
        obtain ⟨pre, t, B, D, u, rfl, rfl, hu, hD, hI, hJs⟩ := hrel
        have HI := Lib.hid hI
        have HJs := Lib.hid hJs
        have HD := Lib.hid hD
        have htl := hI.low
        cases he : (u.toList == []) with
        | true =>
          have hnil : u.data.toList = [] := by rw [← ByteArray.toList_eq]; simpa using he
          rw [hnil, List.append_nil] at hD
          subst hD
          clear hI hJs
          gi_wp2_with fail
          go_roundw
          case rel => exact ⟨k + 1, pre, t, B, by go_num, by omega, rfl, HD.out ▸ (by rw [hnil, List.append_nil]; exact HI.out), HJs.out⟩
          case measure => simp [intOf]; omega
        | false =>
          have hne : 0 < u.size := by
            rcases Nat.eq_zero_or_pos u.size with h | h
            · have : u.data.toList = [] := List.eq_nil_of_length_eq_zero (by simpa using h)
              rw [ByteArray.toList_eq, this] at he
              simp at he
            · exact h
          have hul : u.data.toList.length = u.size := by simp
          obtain ⟨m, hm⟩ : ∃ m, Nat.min u.size (64 - t.length) = m := ⟨_, rfl⟩
          have hm1 : m ≤ u.size := by rw [← hm]; exact Nat.min_le_left _ _
          have hm2 : m ≤ 64 - t.length := by rw [← hm]; exact Nat.min_le_right _ _
          have hm0 : 0 < m := by rw [← hm]; exact Nat.lt_min.2 ⟨hne, by omega⟩
          have hm3 : m = u.size ∨ m = 64 - t.length := by rcases Nat.le_total u.size (64 - t.length) with h | h; exact .inl (by rw [← hm]; exact Nat.min_eq_left h); exact .inr (by rw [← hm]; exact Nat.min_eq_right h)
          have hB64 := hI.len
          have hcut := run_cut_array_from (P := Tryd.prog) 58 5 64 Tryd.underlying58 size_u8 W.heap.size t.length htl (t.length : Int) rfl
          have hcp := fun ty => run_copy_part (P := Tryd.prog) wr 27 9 ty 5 Tryd.underlying27 size_u8 (64 - t.length) (64 - t.length) u m hm W.heap.size t.length B _ hI.cells (by omega)
          have hfr := run_from u (m : Int) m rfl hm1
          have hpt := Lib.hid (put_take B t u.data.toList m hI.head (by omega))
          have hpl := Lib.hid (Dk.put_length B t.length (u.data.toList.take m) (by rw [List.length_take]; omega))
          have hw2 := Lib.hid (hI.cells.row (cb (Dk.put B t.length (u.data.toList.take m))).toArray)
          have hL2 := Lib.hid (hI.parts.kept (Kept.setRow (Kept.refl _ wr) (.inl (.inr (Nat.le_refl _))) (cb (Dk.put B t.length (u.data.toList.take m))).toArray))
          have hJ2 := Lib.hid (hJ pre wr (wr.setRow W.heap.size (cb (Dk.put B t.length (u.data.toList.take m))).toArray) (some W.heap.size) hJs ⟨rfl, rfl, rfl, by simp, fun i _ hi => setRow_other wr W.heap.size i _ (fun e => hi (by rw [e]))⟩ (fun r e => by cases e; exact Nat.le_refl _))
          generalize hBq : Dk.put B t.length (u.data.toList.take m) = B2 at hcp hpt hpl hw2 hL2 hJ2
          clear hBq hI hJs hm
          by_cases hfull : t.length + m = 64
          · have hz : ((t.length : Int) + (m : Int)) % (64 : Int) = 0 := by omega
            have hx64 : B2.length = 64 := by rw [hpl.out]; exact hB64
            have hx : B2 = t ++ u.data.toList.take m := by
              have := hpt.out
              rw [hfull, List.take_of_length_le (by omega)] at this
              exact this
            have hDx : D ++ u.data.toList.take m = pre.flatten ++ B2 := by rw [← HI.out.done, hx, List.append_assoc]
            obtain ⟨fn, tmps, assign, body, hy, hR⟩ := hY pre B2 _ hJ2.out hx64
            have HX := Lib.hid hDx
            have HR := Lib.hid hR
            clear hx hDx hR hD
            gi_wp2_with (refine wpListIn_load_blk rfl 58 _ rfl W.heap.size rfl 58 _ hw2.out Tryd.underlying58 rfl (sz64b_of hx64) ?_)
            refine ⟨fun h => (by cases h), HR.out.mono ?_⟩
            rintro e W3 ⟨rfl, hJ3, hk3⟩
            have hF : BlkI W.heap.size (some a) ps (fun b => b = Nb ∨ W.heap.size ≤ b) (D ++ u.data.toList.take m) (pre ++ [B2]) [] B2 W3 :=
              ⟨fun x hx => (List.mem_append.1 hx).elim (HI.out.full x) (fun e => by simp at e; subst e; exact hx64), by simp, by rw [HX.out]; simp, hw2.out.kc hk3 (by omega), hx64, rfl, hL2.out.kc hk3 (.inl rfl)⟩
            have HF := Lib.hid hF
            have HJ3 := Lib.hid hJ3
            clear hF hJ3 hk3
            gi_wp2_with fail
            go_roundw
            case rel => exact ⟨pre ++ [B2], [], B2, D ++ u.data.toList.take m, ba (u.data.toList.drop m), rfl, rfl, by rw [ba_size, List.length_drop]; omega, by rw [ba_list, List.append_assoc, List.take_append_drop]; exact HD.out, HF.out, HJ3.out⟩
            case measure =>
              show (ba (u.data.toList.drop m)).size < u.size
              rw [ba_size, List.length_drop]
              omega
          · obtain rfl : m = u.size := by omega
            have hz : ((t.length : Int) + (u.size : Int)) % (64 : Int) = (t.length : Int) + (u.size : Int) := by omega
            have hnz : ¬ ((t.length : Int) + (u.size : Int) = 0) := by omega
            have hut : u.data.toList.take u.size = u.data.toList := List.take_of_length_le (by omega)
            have hF : BlkI W.heap.size (some a) ps (fun b => b = Nb ∨ W.heap.size ≤ b) (D ++ u.data.toList) pre (t ++ u.data.toList) B2 (wr.setRow W.heap.size (cb B2).toArray) :=
              ⟨HI.out.full, by rw [List.length_append]; omega, by rw [← List.append_assoc, HI.out.done], hw2.out, by rw [hpl.out]; exact hB64, by rw [List.length_append, hul, hpt.out, hut], hL2.out⟩
            have HF := Lib.hid hF
            clear hD hF hut
            gi_wp2_with fail
            refine ⟨fun _ h => (by cases h), ?_⟩
            gi_wp2_with fail
            go_roundw
            case rel => exact ⟨pre, t ++ u.data.toList, B2, D ++ u.data.toList, ba (u.data.toList.drop u.size), by rw [List.length_append, hul]; go_num, rfl, by rw [ba_size, List.length_drop]; omega, by rw [ba_list, List.drop_of_length_le (by omega), List.append_nil]; exact HD.out, HF.out, hJ2.out⟩
            case measure =>
              show (ba (u.data.toList.drop u.size)).size < u.size
              rw [ba_size, List.length_drop]
              omega
    · obtain rfl : k = ps.length := by omega
      have hd := hI.done
      rw [List.take_length] at hd
      have hc : pre = chunks (tx ps).flatten := by rw [← hd]; exact (chunks_of pre t hI.full hI.low).symm
      subst hc
      have HJs := Lib.hid hJs
      clear hI hJs hd
      gi_wp2_with fail
      go_end0
      exact ⟨⟨_, rfl⟩, HJs.out⟩

set_option maxHeartbeats 1000000 in
/-- blocks: the parts are boxed; the function value captures the box. -/
theorem blocks_in (n : Nat) (v : Value) (w : World) (A : Option Addr) (m c : Nat) (hv : v = .slice A m c) :
    CallsIn Fence.wide n Tryd.prog 29 #[v] w fun e w' => e = .returned (.func (.func 46) #[] #[.pointer (some ⟨w.heap.size, 0, none⟩)]) ∧ w' = w.alloc (.cells #[v] 30) := by
  subst hv
  refine callsIn_of_wp Tryd.func29 rfl trivial ?_ rfl
  simp only [Tryd.ntmps29, List.size_toArray, List.length_cons, List.length_nil, Nat.reduceAdd, Nat.reduceSub, Array.replicate_succ, Array.replicate_zero, List.push_toArray, List.append_toArray, List.nil_append, List.cons_append]
  gi_wp2
  go_ret
  exact ⟨rfl, rfl⟩
theorem blocks_whole (n : Nat) (Bn Nb : Nat) (ps : List ByteArray) (A : Option Addr) (c : Nat) (hl : ps.length ≤ 10000) (hs : len ps ≤ 200000) (w : World) (hNb : Nb < w.heap.size)
    (hBn : w.cell? ⟨Bn, 0, none⟩ = some (.slice A ps.length c)) (hL : Lies (fun b => b = Nb) w A (cs ps)) :
    SeqWhole Fence.wide n Tryd.prog 46 #[.pointer (some ⟨Bn, 0, none⟩)] (fun x : List UInt8 => #[.agg (cb x).toArray]) (Kc Nb) (fun xs => xs = chunks (tx ps).flatten) (fun x => x.length = 64) w := fun l J W hW hJ hY h0 => by
  have hL2 : Lies (fun b => b = Nb ∨ W.heap.size ≤ b) W A (cs ps) := fun i u hi => by
    obtain ⟨a, h1, h2, h3, h4⟩ := hL i u hi
    refine ⟨a, h1, Nat.lt_of_lt_of_le h2 hW.size, fun h => ?_, ?_⟩
    · rcases h with h | h
      · exact h3 h
      · have := hW.size; omega
    · rw [← h4]
      exact World.cell?_of_block (by rw [add_block]; exact hW.block _ h2)
  exact (blocks1_in n l Bn Nb ps A c hl hs J W (Nat.lt_of_lt_of_le hNb hW.size) hJ hY ((hW.cell (p := ⟨Bn, 0, none⟩) (cell_lt hBn)).trans hBn) hL2 h0).mono fun e W' h => ⟨h.1, _, rfl, h.2⟩
end Go.Proofs.YthaejfbbefpojaaDoor
