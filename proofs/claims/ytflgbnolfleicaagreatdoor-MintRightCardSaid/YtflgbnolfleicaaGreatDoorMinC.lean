/-
  Contract of mint.Mint, with a meter or none. Condition: the tables hold what their text says; texts of 50000 bytes at most.
-/
import Derived.Test.YtflgbnolfleicaaGreatDoorMinB
import Derived.Test.YtflgbnolfleicaaGreatDoorAny
import Derived.Test.YtflgbnolfleicaaGreatDoorAdb
namespace Go.Proofs.YtflgbnolfleicaaGreatDoor
open Go.RowKit

/-- What a call of mint asks of the tables. -/
structure Ready (w : World) : Prop where
  tab : Tab w
  pow : PowIs w
  max : MaxIs w
theorem Ready.next {w w' : World} (h : Ready w) (hb : Below w.heap.size w w') : Ready w' := ⟨h.tab.next hb, h.pow.next hb, h.max.below hb⟩
/-- A secret's cells. -/
def secV (D : ByteArray) (a p : Int) (c : ByteArray) (e t : Int) : Array Value := #[.string D, .int .i64 a, .int .i64 p, .string c, .int .i64 e, .int .i64 t]
def zeroV : Array Value := secV ⟨#[]⟩ 0 0 ⟨#[]⟩ 0 0
def mintB (a p : Int) (c : ByteArray) (d : List UInt8) (n : Int) : Bool := plainB p d && decide (1 ≤ a ∧ a ≤ 99) && !(Ad.kind c.data.toList == 0) && decide (0 ≤ n ∧ n ≤ 1099511627776)
def mintL (a p : Int) (c : ByteArray) (d : List UInt8) (n : Int) : List UInt8 := if mintB a p c d n = true then plainL p d else []
noncomputable def mintV (a p : Int) (c : ByteArray) (d : List UInt8) (n : Int) : Array Value := if mintB a p c d n = true then secV (ba (digL p (plainL p d))) a p c (Mi.clock n (Mi.life p)) (Mi.tries p) else zeroV
theorem results_tct {P : Program} {fn : Func} {p q r : Tmp} {ty : TypeId} (h : fn.results = #[.tmp q, .cell p ty, .tmp r]) (tmps : Array Value) (w : World) (g : Nat) (t : TypeId) (cs : Array Value) (fr : Nat × Nat) (d : TypeDesc) (u v : Value)
    (hp : tmps.getD p undef = .pointer (some ⟨g, 0, none⟩)) (hq : tmps.getD q undef = u) (hv : tmps.getD r undef = v) (hg : w.heap[g]? = some (.cells cs t fr))
    (hu : P.underlying ty = some d) (hd : (match d with | .struct _ | .array _ _ => true | _ => false) = true) (hi : (P.info? ty).map (·.size) = some cs.size) :
    (results fn tmps).run P w = .ok (.tuple #[u, .agg cs, v]) w := by
  have hp' : tmps[p]?.getD undef = .pointer (some ⟨g, 0, none⟩) := by simpa using hp
  have hv' : tmps[r]?.getD undef = v := by simpa using hv
  have hq' : tmps[q]?.getD undef = u := by simpa using hq
  simp [results, h, hp', hv', hq', asAddr, run_loadVar_row w g t ty cs fr d hg hu hd hi]
theorem sec_size : (Tryz.prog.info? 23).map (·.size) = some 6 := by kernel_rfl

theorem Blk.six {w : World} {g : Nat} {t : TypeId} {a b c d e f : Value} (h : Blk w g t #[a, b, c, d, e, f]) (u v x y z q : Value) :
    Blk ((((((w.setCell ⟨g, 0, none⟩ u).setCell ⟨g, 1, none⟩ v).setCell ⟨g, 2, none⟩ x).setCell ⟨g, 3, none⟩ y).setCell ⟨g, 4, none⟩ z).setCell ⟨g, 5, none⟩ q) g t #[u, v, x, y, z, q] := by
  have := (((((h.set_ 0 u).set_ 1 v).set_ 2 x).set_ 3 y).set_ 4 z).set_ 5 q
  simpa using this
theorem below_six {B : Nat} {w0 w : World} {g : Nat} (h : Below B w0 w) (hg : B ≤ g) (u v x y z q : Value) :
    Below B w0 ((((((w.setCell ⟨g, 0, none⟩ u).setCell ⟨g, 1, none⟩ v).setCell ⟨g, 2, none⟩ x).setCell ⟨g, 3, none⟩ y).setCell ⟨g, 4, none⟩ z).setCell ⟨g, 5, none⟩ q) :=
  (((((h.setCell (p := ⟨g, 0, none⟩) hg _).setCell (p := ⟨g, 1, none⟩) hg _).setCell (p := ⟨g, 2, none⟩) hg _).setCell (p := ⟨g, 3, none⟩) hg _).setCell (p := ⟨g, 4, none⟩) hg _).setCell (p := ⟨g, 5, none⟩) hg _
theorem below_row {B : Nat} {w0 w : World} {g : Nat} (h : Below B w0 w) (hg : B ≤ g) (cs : Array Value) : Below B w0 (w.setRow g cs) :=
  ⟨h.os, h.tape, h.output, Nat.le_trans h.size (by simp), fun k hk => (setRow_other w g k cs (by omega)).trans (h.block k hk)⟩
set_option maxRecDepth 100000 in
set_option maxHeartbeats 4000000 in
theorem mint_none {mp : Option Addr} (D0 : ByteArray) (a p e0 t0 : Int) (c : ByteArray) (hc : c.size ≤ 50000) (d : List UInt8) (hd : d.length ≤ 100000) (n : Int) (hB : mintB a p c d n = false) (w : World) (hR : Ready w) :
    Calls Tryz.prog 12 #[.pointer mp, .agg (secV D0 a p c e0 t0), .string (ba d), .int .i64 n] w fun e w' => e = .returned (.tuple #[.string ⟨#[]⟩, .agg zeroV, .bool false]) ∧ Below w.heap.size w w' := by
  unfold mintB at hB
  have HP := Lib.hid (fun W h => plain_any p d hd W h)
  have HA := Lib.hid (fun W => isaccount_any a W)
  have HK := Lib.hid (fun W h => kind_any c (by omega) W h)
  have HT := Lib.hid (fun W => istime_any n W)
  generalize plainB p d = b1 at HP hB
  generalize plainL p d = PL at HP
  generalize decide (1 ≤ a ∧ a ≤ 99) = b2 at HA hB
  generalize Ad.kind c.data.toList = kd at HK hB
  generalize decide (0 ≤ n ∧ n ≤ 1099511627776) = b4 at HT hB
  have HR := Lib.hid hR
  clear hR hc hd
  unfold secV
  go_enter Tryz.func12, Tryz.ntmps12
  go_wp2_with fail
  generalize hW0 : World.alloc _ (.cells #[.string ⟨#[]⟩, .int .i64 0, .int .i64 0, .string ⟨#[]⟩, .int .i64 0, .int .i64 0] 23) = W0
  have HX0 := Lib.hid (show Blk W0 w.heap.size 23 #[.string D0, .int .i64 a, .int .i64 p, .string c, .int .i64 e0, .int .i64 t0] by rw [← hW0]; exact (Blk.new w _ _).alloc _)
  have HY0 := Lib.hid (show Blk W0 (w.heap.size + 1) 23 #[.string ⟨#[]⟩, .int .i64 0, .int .i64 0, .string ⟨#[]⟩, .int .i64 0, .int .i64 0] by rw [← hW0]; exact Blk.new2 w _ _ _)
  have HB0 := Lib.hid (show Below w.heap.size w W0 by rw [← hW0]; exact ((Below.refl _ w).alloc (Nat.le_refl _) _).alloc (by simp) _)
  have HR0 := Lib.hid (HR.out.next HB0.out)
  clear hW0 HR
  refine (HP.out W0 HR0.out.pow).mono ?_
  rintro e w1 ⟨rfl, hb⟩
  have HX1 := Lib.hid (HX0.out.of (hb.block _ HX0.out.lt))
  have HY1 := Lib.hid (HY0.out.of (hb.block _ HY0.out.lt))
  have HB1 := Lib.hid (HB0.out.trans (hb.mono HB0.out.size))
  have HR1 := Lib.hid (HR0.out.next hb)
  have c1 := HX1.out.cell 1
  have c2 := HX1.out.cell 2
  have c3 := HX1.out.cell 3
  simp only [List.getElem?_toArray, List.getElem?_cons_zero, List.getElem?_cons_succ] at c1 c2 c3
  clear hb HX0 HY0 HB0 HR0
  cases b1 with
  | false =>
    have f0 := HY1.out.frozen 0
    have g0 := HY1.out.cell 0
    have f1 := HY1.out.frozen 1
    have g1 := HY1.out.cell 1
    have f2 := HY1.out.frozen 2
    have g2 := HY1.out.cell 2
    have f3 := HY1.out.frozen 3
    have g3 := HY1.out.cell 3
    have f4 := HY1.out.frozen 4
    have g4 := HY1.out.cell 4
    have f5 := HY1.out.frozen 5
    have g5 := HY1.out.cell 5
    simp only [List.getElem?_toArray, List.getElem?_cons_zero, List.getElem?_cons_succ] at g0 g1 g2 g3 g4 g5
    go_wp2_with fail
    (try simp only [Exit.inBlock, Exit.then])
    refine bodyPost_ret (results_tct (P := Tryz.prog) rfl _ _ (w.heap.size + 1) 23 #[.string ⟨#[]⟩, .int .i64 0, .int .i64 0, .string ⟨#[]⟩, .int .i64 0, .int .i64 0] (0, 0) _ _ _ rfl rfl rfl (HY1.out.six _ _ _ _ _ _) Tryz.underlying23 rfl sec_size) rfl ?_
    exact ⟨rfl, below_six HB1.out (by omega) _ _ _ _ _ _⟩
  | true =>
    go_wp2_with fail
    refine (HA.out w1).mono ?_
    rintro e wq ⟨rfl, rfl⟩
    cases b2 with
    | false =>
      have f0 := HY1.out.frozen 0
      have g0 := HY1.out.cell 0
      have f1 := HY1.out.frozen 1
      have g1 := HY1.out.cell 1
      have f2 := HY1.out.frozen 2
      have g2 := HY1.out.cell 2
      have f3 := HY1.out.frozen 3
      have g3 := HY1.out.cell 3
      have f4 := HY1.out.frozen 4
      have g4 := HY1.out.cell 4
      have f5 := HY1.out.frozen 5
      have g5 := HY1.out.cell 5
      simp only [List.getElem?_toArray, List.getElem?_cons_zero, List.getElem?_cons_succ] at g0 g1 g2 g3 g4 g5
      go_wp2_with fail
      (try simp only [Exit.inBlock, Exit.then])
      refine bodyPost_ret (results_tct (P := Tryz.prog) rfl _ _ (w.heap.size + 1) 23 #[.string ⟨#[]⟩, .int .i64 0, .int .i64 0, .string ⟨#[]⟩, .int .i64 0, .int .i64 0] (0, 0) _ _ _ rfl rfl rfl (HY1.out.six _ _ _ _ _ _) Tryz.underlying23 rfl sec_size) rfl ?_
      exact ⟨rfl, below_six HB1.out (by omega) _ _ _ _ _ _⟩
    | true =>
      go_wp2_with fail
      refine (HK.out w1 HR1.out.max).mono ?_
      rintro e w2 ⟨rfl, hb⟩
      clear c1 c2 c3
      have HX2 := Lib.hid (HX1.out.of (hb.block _ HX1.out.lt))
      have HY2 := Lib.hid (HY1.out.of (hb.block _ HY1.out.lt))
      have HB2 := Lib.hid (HB1.out.trans (hb.mono HB1.out.size))
      have HR2 := Lib.hid (HR1.out.next hb)
      have c1 := HX2.out.cell 1
      have c2 := HX2.out.cell 2
      have c3 := HX2.out.cell 3
      simp only [List.getElem?_toArray, List.getElem?_cons_zero, List.getElem?_cons_succ] at c1 c2 c3
      clear hb HX1 HY1 HB1 HR1
      by_cases hk : kd = 0
      · subst hk
        have f0 := HY2.out.frozen 0
        have g0 := HY2.out.cell 0
        have f1 := HY2.out.frozen 1
        have g1 := HY2.out.cell 1
        have f2 := HY2.out.frozen 2
        have g2 := HY2.out.cell 2
        have f3 := HY2.out.frozen 3
        have g3 := HY2.out.cell 3
        have f4 := HY2.out.frozen 4
        have g4 := HY2.out.cell 4
        have f5 := HY2.out.frozen 5
        have g5 := HY2.out.cell 5
        simp only [List.getElem?_toArray, List.getElem?_cons_zero, List.getElem?_cons_succ] at g0 g1 g2 g3 g4 g5
        go_wp2_with fail
        (try simp only [Exit.inBlock, Exit.then])
        refine bodyPost_ret (results_tct (P := Tryz.prog) rfl _ _ (w.heap.size + 1) 23 #[.string ⟨#[]⟩, .int .i64 0, .int .i64 0, .string ⟨#[]⟩, .int .i64 0, .int .i64 0] (0, 0) _ _ _ rfl rfl rfl (HY2.out.six _ _ _ _ _ _) Tryz.underlying23 rfl sec_size) rfl ?_
        exact ⟨rfl, below_six HB2.out (by omega) _ _ _ _ _ _⟩
      · have hki : ¬ ((kd : Int) = 0) := by omega
        go_wp2_with fail
        refine (HT.out w2).mono ?_
        rintro e wq ⟨rfl, rfl⟩
        have hb4 : b4 = false := by simpa [hk] using hB
        subst hb4
        have f0 := HY2.out.frozen 0
        have g0 := HY2.out.cell 0
        have f1 := HY2.out.frozen 1
        have g1 := HY2.out.cell 1
        have f2 := HY2.out.frozen 2
        have g2 := HY2.out.cell 2
        have f3 := HY2.out.frozen 3
        have g3 := HY2.out.cell 3
        have f4 := HY2.out.frozen 4
        have g4 := HY2.out.cell 4
        have f5 := HY2.out.frozen 5
        have g5 := HY2.out.cell 5
        simp only [List.getElem?_toArray, List.getElem?_cons_zero, List.getElem?_cons_succ] at g0 g1 g2 g3 g4 g5
        go_wp2_with fail
        (try simp only [Exit.inBlock, Exit.then])
        refine bodyPost_ret (results_tct (P := Tryz.prog) rfl _ _ (w.heap.size + 1) 23 #[.string ⟨#[]⟩, .int .i64 0, .int .i64 0, .string ⟨#[]⟩, .int .i64 0, .int .i64 0] (0, 0) _ _ _ rfl rfl rfl (HY2.out.six _ _ _ _ _ _) Tryz.underlying23 rfl sec_size) rfl ?_
        exact ⟨rfl, below_six HB2.out (by omega) _ _ _ _ _ _⟩
/-- What is known of the world while the last statement of Mint runs. -/
structure Gm (mp : Option Addr) (S : Nat → Prop) (st : World → Nat → Prop) (w : World) (sec built : Array Value) (k : Nat) (listed : Array Bool) (W : World) : Prop where
  sec : Blk W w.heap.size 23 sec
  res : Blk W (w.heap.size + 1) 23 (if listed.getD 22 false = true then built else zeroV)
  tab : Tab W
  st : st W (if listed.getD 5 false = true then k + 1 else k)
  kept : Kept S w W
section
variable {mp : Option Addr} {S : Nat → Prop} {st : World → Nat → Prop} {w : World} {sec built : Array Value} {k : Nat} {listed : Array Bool} {W W' : World}
theorem Gm.quiet (h : Gm mp S st w sec built k listed W) (i : Nat) (h1 : i ≠ 5) (h2 : i ≠ 22) : Gm mp S st w sec built k (listed.setIfInBounds i true) W :=
  ⟨h.sec, by rw [getD_set_other h2]; exact h.res, h.tab, by rw [getD_set_other h1]; exact h.st, h.kept⟩
theorem Gm.below (M : Mt mp S st) (h : Gm mp S st w sec built k listed W) (hb : Below W.heap.size W W') (i : Nat) (h1 : i ≠ 5) (h2 : i ≠ 22) : Gm mp S st w sec built k (listed.setIfInBounds i true) W' :=
  Gm.quiet ⟨h.sec.of (hb.block _ h.sec.lt), h.res.of (hb.block _ h.res.lt), h.tab.next hb, M.below h.st hb, h.kept.trans (Kept.of_below (S := fun _ => False) hb) (fun _ h => h.elim)⟩ i h1 h2
theorem Gm.counted (M : Mt mp S st) (hlow : ∀ b, S b → b < w.heap.size) (h : Gm mp S st w sec built k listed W) (hk : Kept S W W') (hst : st W' (k + 1)) (hl : 5 < listed.size) : Gm mp S st w sec built k (listed.setIfInBounds 5 true) W' :=
  ⟨h.sec.of (hk.block _ h.sec.lt (fun hS => by have := hlow _ hS; omega)), by rw [getD_set_other (by decide)]; exact h.res.of (hk.block _ h.res.lt (fun hS => by have := hlow _ hS; omega)), M.tab h.tab hk,
    by rw [getD_set_same hl, if_pos rfl]; exact hst, h.kept.trans hk (fun _ h => .inl h)⟩
theorem Gm.stored (M : Mt mp S st) (hlow : ∀ b, S b → b < w.heap.size) (hG : 1 < w.heap.size ∧ 0 < w.heap.size) (h : Gm mp S st w sec built k listed W) (hl : 22 < listed.size) : Gm mp S st w sec built k (listed.setIfInBounds 22 true) (W.setRow (w.heap.size + 1) built) := by
  have hk : Kept (fun b => b = w.heap.size + 1) W (W.setRow (w.heap.size + 1) built) := (Kept.refl (fun b => b = w.heap.size + 1) W).setRow (.inl rfl) _
  refine ⟨h.sec.rowFar (by omega) _, by rw [getD_set_same hl, if_pos rfl]; exact h.res.row _, h.tab.kept hk (by show ¬ _ = _; omega) (by show ¬ _ = _; omega), ?_, h.kept.setRow (.inr (by omega)) _⟩
  rw [getD_set_other (by decide)]
  exact M.stay W _ _ h.st (fun b hb => hk.block b (Nat.lt_trans (hlow b hb) h.sec.lt) (by have := hlow b hb; show ¬ _ = _; omega))
end
theorem wp_skip {P : Program} {Q : Exit → Act → World → Prop} {o : Oper} {a : Act} {w w' : World} {K : Act → World → Prop} (h : (execOp a.eval o).run P w = .ok .skip w') (hK : K (a.put o.dst undef) w') : Oper.wp P o a w K Q := by
  unfold Oper.wp
  rw [h]
  exact hK
theorem run_store_op {P : Program} {o : Oper} {a : Act} {w : World} (ty : TypeId) (x y : Operand) (ho : o.op = .store ty x y)
    (g : Nat) (cells : Array Value) (hx : a.eval x = .pointer (some ⟨g, 0, none⟩)) (hy : a.eval y = .agg cells) (t : TypeId) (old : Array Value) (hb : Blk w g t old) (hi : (P.info? ty).map (·.size) = some cells.size)
    (hold : old.size = cells.size) (h1 : cells.all (·.oneCell') = true) : (execOp a.eval o).run P w = .ok .skip (w.setRow g cells) := by
  unfold execOp
  simp only [ho, hx, hy, Instr.storeAt, Instr.sureAddr, Sem.run_bind, Sem.run_pure, Result.andThen_ok, run_storeVar_row w g t ty old cells hb hi hold h1]

/-- What each operation of the last statement leaves. -/
def Vm (mp : Option Addr) (PLB DG c : ByteArray) (a p n lf ck tr : Int) (w : World) : Nat → Value → Prop
  | 0, v => v = .string PLB
  | 1, v => v = .pointer mp
  | 2, v => v = .pointer (some ⟨w.heap.size, 2, none⟩)
  | 3, v => v = .int .i64 p
  | 4, v => v = .string PLB
  | 5, v => v = .string DG
  | 6, v => v = .pointer (some ⟨w.heap.size, 1, none⟩)
  | 7, v => v = .int .i64 a
  | 8, v => v = .pointer (some ⟨w.heap.size, 2, none⟩)
  | 9, v => v = .int .i64 p
  | 10, v => v = .pointer (some ⟨w.heap.size, 3, none⟩)
  | 11, v => v = .string c
  | 12, v => v = .int .i64 n
  | 13, v => v = .pointer (some ⟨w.heap.size, 2, none⟩)
  | 14, v => v = .int .i64 p
  | 15, v => v = .int .i64 lf
  | 16, v => v = .int .i64 ck
  | 17, v => v = .pointer (some ⟨w.heap.size, 2, none⟩)
  | 18, v => v = .int .i64 p
  | 19, v => v = .int .i64 tr
  | 20, v => v = .agg #[.string DG, .int .i64 a, .int .i64 p, .string c, .int .i64 ck, .int .i64 tr]
  | 21, v => v = .string PLB
  | 22, v => v = undef
  | 23, v => v = .bool true
  | _, _ => True
set_option maxRecDepth 100000 in
set_option maxHeartbeats 8000000 in
theorem mint_made {mp : Option Addr} {S : Nat → Prop} {st : World → Nat → Prop} (M : Mt mp S st) (D0 : ByteArray) (a p e0 t0 : Int) (c : ByteArray) (hc : c.size ≤ 50000) (d : List UInt8) (hd : d.length ≤ 100000) (n : Int) (hB : mintB a p c d n = true) (k : Nat) (hk : k ≤ 1000000) (w : World) (hst : st w k) (hR : Ready w) :
    Calls Tryz.prog 12 #[.pointer mp, .agg (secV D0 a p c e0 t0), .string (ba d), .int .i64 n] w fun e w' => e = .returned (.tuple #[.string (ba (plainL p d)), .agg (secV (ba (digL p (plainL p d))) a p c (Mi.clock n (Mi.life p)) (Mi.tries p)), .bool true]) ∧ st w' (k + 1) ∧ Kept S w w' := by
  unfold mintB at hB
  simp only [Bool.and_eq_true] at hB
  obtain ⟨⟨⟨hb1, hb2⟩, hb3⟩, hb4⟩ := hB
  have hn := of_decide_eq_true hb4
  have hlf := Mi.life_bounds p
  have hpl := plainL_length p d
  have HP := Lib.hid (fun W h => plain_any p d hd W h)
  have HA := Lib.hid (fun W => isaccount_any a W)
  have HK := Lib.hid (fun W h => kind_any c (by omega) W h)
  have HT := Lib.hid (fun W => istime_any n W)
  have HD := Lib.hid (fun W h1 h2 => digest_any M p (plainL p d) (by omega) k hk W h1 h2)
  have HL := Lib.hid (fun W => life_any p W)
  have HC := Lib.hid (fun W => clock_any n (Mi.life p) (by omega) (by omega) W)
  have HT2 := Lib.hid (fun W => tries_any p W)
  have HLOW := Lib.hid (fun b hS => M.low w k hst b hS)
  have HG := Lib.hid (show 1 < w.heap.size ∧ 0 < w.heap.size from ⟨hR.tab.ltK, hR.tab.ltH⟩)
  rw [hb1] at HP
  rw [hb2] at HA
  rw [hb4] at HT
  have hk0 : ¬ (Ad.kind c.data.toList = 0) := by simpa using hb3
  generalize Ad.kind c.data.toList = kd at HK hk0
  generalize Mi.clock n (Mi.life p) = ck at HC ⊢
  generalize Mi.life p = lf at HL HC
  generalize Mi.tries p = tr at HT2 ⊢
  generalize ba (digL p (plainL p d)) = DG at HD ⊢
  generalize ba (plainL p d) = PLB at HP HD ⊢
  have hki : ¬ ((kd : Int) = 0) := by omega
  have HR := Lib.hid hR
  have HST := Lib.hid hst
  clear hR hc hd hb1 hb2 hb3 hb4 hn hlf hpl hst
  unfold secV
  go_enter Tryz.func12, Tryz.ntmps12
  go_wp2_with fail
  generalize hW0 : World.alloc _ (.cells #[.string ⟨#[]⟩, .int .i64 0, .int .i64 0, .string ⟨#[]⟩, .int .i64 0, .int .i64 0] 23) = W0
  have HX0 := Lib.hid (show Blk W0 w.heap.size 23 #[.string D0, .int .i64 a, .int .i64 p, .string c, .int .i64 e0, .int .i64 t0] by rw [← hW0]; exact (Blk.new w _ _).alloc _)
  have HY0 := Lib.hid (show Blk W0 (w.heap.size + 1) 23 #[.string ⟨#[]⟩, .int .i64 0, .int .i64 0, .string ⟨#[]⟩, .int .i64 0, .int .i64 0] by rw [← hW0]; exact Blk.new2 w _ _ _)
  have HB0 := Lib.hid (show Below w.heap.size w W0 by rw [← hW0]; exact ((Below.refl _ w).alloc (Nat.le_refl _) _).alloc (by simp) _)
  have HR0 := Lib.hid (HR.out.next HB0.out)
  clear hW0 HR
  refine (HP.out W0 HR0.out.pow).mono ?_
  rintro e w1 ⟨rfl, hb⟩
  have HX1 := Lib.hid (HX0.out.of (hb.block _ HX0.out.lt))
  have HY1 := Lib.hid (HY0.out.of (hb.block _ HY0.out.lt))
  have HB1 := Lib.hid (HB0.out.trans (hb.mono HB0.out.size))
  have HR1 := Lib.hid (HR0.out.next hb)
  have c1 := HX1.out.cell 1
  have c2 := HX1.out.cell 2
  have c3 := HX1.out.cell 3
  simp only [List.getElem?_toArray, List.getElem?_cons_zero, List.getElem?_cons_succ] at c1 c2 c3
  clear hb HX0 HY0 HB0 HR0
  go_wp2_with fail
  refine (HA.out w1).mono ?_
  rintro e wq ⟨rfl, rfl⟩
  go_wp2_with fail
  refine (HK.out w1 HR1.out.max).mono ?_
  rintro e w2 ⟨rfl, hb⟩
  clear c1 c2 c3
  have HX2 := Lib.hid (HX1.out.of (hb.block _ HX1.out.lt))
  have HY2 := Lib.hid (HY1.out.of (hb.block _ HY1.out.lt))
  have HB2 := Lib.hid (HB1.out.trans (hb.mono HB1.out.size))
  have HR2 := Lib.hid (HR1.out.next hb)
  have c1 := HX2.out.cell 1
  have c2 := HX2.out.cell 2
  have c3 := HX2.out.cell 3
  simp only [List.getElem?_toArray, List.getElem?_cons_zero, List.getElem?_cons_succ] at c1 c2 c3
  clear hb HX1 HY1 HB1 HR1
  go_wp2_with fail
  refine (HT.out w2).mono ?_
  rintro e wq ⟨rfl, rfl⟩
  have HS2 := Lib.hid (M.below HST.out HB2.out)
  clear HP HA HK HT c1 c2 c3
  go_wp2_with fail
  have HG0 := Lib.hid (show Gm mp S st w #[.string D0, .int .i64 a, .int .i64 p, .string c, .int .i64 e0, .int .i64 t0] #[.string DG, .int .i64 a, .int .i64 p, .string c, .int .i64 ck, .int .i64 tr] k (Array.replicate 24 false) w2.drew from
    ⟨HX2.out.drew, HY2.out.drew, HR2.out.tab.next (Below.refl _ _).drew, M.below HS2.out (Below.refl _ _).drew, (Kept.of_below HB2.out).drew⟩)
  clear HX2 HY2 HB2 HR2 HS2 HST
  refine wp_region_told (by kernel_rfl) (fun i v _ => Vm mp PLB DG c a p n lf ck tr w i v) (Gm mp S st w #[.string D0, .int .i64 a, .int .i64 p, .string c, .int .i64 e0, .int .i64 t0] #[.string DG, .int .i64 a, .int .i64 p, .string c, .int .i64 ck, .int .i64 tr] k) (fun _ _ => True) (by kernel_rfl) (by kernel_rfl) 61 rfl (by kernel_rfl) (fun _ _ _ _ h _ => h) HG0.out ?_ ?_
  · intro i o ho listed x W hs hun hg hk
    match i, ho with
    | 0, ho =>
      cases ho
      have q11 : x.tmps[11]?.getD undef = .string PLB := hk.fix 11 (by kernel_rfl)
      refine ⟨wanted_plain rfl, ?_⟩
      refine wp_value (v := .string PLB) (w' := W) ?_ ⟨_, rfl, rfl, trivial, hg.quiet 0 (by decide) (by decide)⟩
      go_simp
    | 1, ho =>
      cases ho
      have q0 : x.tmps[0]?.getD undef = .pointer mp := hk.fix 0 (by kernel_rfl)
      refine ⟨wanted_plain rfl, ?_⟩
      refine wp_value (v := .pointer mp) (w' := W) ?_ ⟨_, rfl, rfl, trivial, hg.quiet 1 (by decide) (by decide)⟩
      go_simp
    | 2, ho =>
      cases ho
      have q5 : x.tmps[5]?.getD undef = .pointer (some ⟨w.heap.size, 0, none⟩) := hk.fix 5 (by kernel_rfl)
      refine ⟨wanted_plain rfl, ?_⟩
      refine wp_value (v := .pointer (some ⟨w.heap.size, 2, none⟩)) (w' := W) ?_ ⟨_, rfl, rfl, trivial, hg.quiet 2 (by decide) (by decide)⟩
      go_simp
    | 3, ho =>
      cases ho
      have q42 : x.tmps[42]?.getD undef = .pointer (some ⟨w.heap.size, 2, none⟩) := hk.dep 2 42 (by kernel_rfl) (by kernel_rfl)
      refine ⟨wanted_plain rfl, ?_⟩
      have cf := hg.sec.cell 2
      refine wp_value (v := .int .i64 p) (w' := W) ?_ ⟨_, rfl, rfl, trivial, hg.quiet 3 (by decide) (by decide)⟩
      go_simp
    | 4, ho =>
      cases ho
      have q11 : x.tmps[11]?.getD undef = .string PLB := hk.fix 11 (by kernel_rfl)
      refine ⟨wanted_plain rfl, ?_⟩
      refine wp_value (v := .string PLB) (w' := W) ?_ ⟨_, rfl, rfl, trivial, hg.quiet 4 (by decide) (by decide)⟩
      go_simp
    | 5, ho =>
      cases ho
      have q41 : x.tmps[41]?.getD undef = .pointer mp := hk.dep 1 41 (by kernel_rfl) (by kernel_rfl)
      have q43 : x.tmps[43]?.getD undef = .int .i64 p := hk.dep 3 43 (by kernel_rfl) (by kernel_rfl)
      have q44 : x.tmps[44]?.getD undef = .string PLB := hk.dep 4 44 (by kernel_rfl) (by kernel_rfl)
      refine ⟨wanted_plain rfl, ?_⟩
      refine wp_enter (f := 16) (args := #[.pointer mp, .int .i64 p, .string PLB]) (w' := W) (S := fun v w1 => v = .string DG ∧ (st w1 (k + 1) ∧ Kept S W w1)) ?_ ((HD.out W (by have := hg.st; rw [if_neg (by rw [hun]; decide)] at this; exact this) hg.tab).mono fun e w' h => ⟨_, h.1, rfl, h.2⟩) ?_
      · go_simp
      · rintro v W' ⟨rfl, hb⟩
        exact ⟨_, rfl, rfl, trivial, hg.counted M HLOW.out hb.2 hb.1 (by rw [hs]; decide)⟩
    | 6, ho =>
      cases ho
      have q5 : x.tmps[5]?.getD undef = .pointer (some ⟨w.heap.size, 0, none⟩) := hk.fix 5 (by kernel_rfl)
      refine ⟨wanted_plain rfl, ?_⟩
      refine wp_value (v := .pointer (some ⟨w.heap.size, 1, none⟩)) (w' := W) ?_ ⟨_, rfl, rfl, trivial, hg.quiet 6 (by decide) (by decide)⟩
      go_simp
    | 7, ho =>
      cases ho
      have q46 : x.tmps[46]?.getD undef = .pointer (some ⟨w.heap.size, 1, none⟩) := hk.dep 6 46 (by kernel_rfl) (by kernel_rfl)
      refine ⟨wanted_plain rfl, ?_⟩
      have cf := hg.sec.cell 1
      refine wp_value (v := .int .i64 a) (w' := W) ?_ ⟨_, rfl, rfl, trivial, hg.quiet 7 (by decide) (by decide)⟩
      go_simp
    | 8, ho =>
      cases ho
      have q5 : x.tmps[5]?.getD undef = .pointer (some ⟨w.heap.size, 0, none⟩) := hk.fix 5 (by kernel_rfl)
      refine ⟨wanted_plain rfl, ?_⟩
      refine wp_value (v := .pointer (some ⟨w.heap.size, 2, none⟩)) (w' := W) ?_ ⟨_, rfl, rfl, trivial, hg.quiet 8 (by decide) (by decide)⟩
      go_simp
    | 9, ho =>
      cases ho
      have q48 : x.tmps[48]?.getD undef = .pointer (some ⟨w.heap.size, 2, none⟩) := hk.dep 8 48 (by kernel_rfl) (by kernel_rfl)
      refine ⟨wanted_plain rfl, ?_⟩
      have cf := hg.sec.cell 2
      refine wp_value (v := .int .i64 p) (w' := W) ?_ ⟨_, rfl, rfl, trivial, hg.quiet 9 (by decide) (by decide)⟩
      go_simp
    | 10, ho =>
      cases ho
      have q5 : x.tmps[5]?.getD undef = .pointer (some ⟨w.heap.size, 0, none⟩) := hk.fix 5 (by kernel_rfl)
      refine ⟨wanted_plain rfl, ?_⟩
      refine wp_value (v := .pointer (some ⟨w.heap.size, 3, none⟩)) (w' := W) ?_ ⟨_, rfl, rfl, trivial, hg.quiet 10 (by decide) (by decide)⟩
      go_simp
    | 11, ho =>
      cases ho
      have q50 : x.tmps[50]?.getD undef = .pointer (some ⟨w.heap.size, 3, none⟩) := hk.dep 10 50 (by kernel_rfl) (by kernel_rfl)
      refine ⟨wanted_plain rfl, ?_⟩
      have cf := hg.sec.cell 3
      refine wp_value (v := .string c) (w' := W) ?_ ⟨_, rfl, rfl, trivial, hg.quiet 11 (by decide) (by decide)⟩
      go_simp
    | 12, ho =>
      cases ho
      have q3 : x.tmps[3]?.getD undef = .int .i64 n := hk.fix 3 (by kernel_rfl)
      refine ⟨wanted_plain rfl, ?_⟩
      refine wp_value (v := .int .i64 n) (w' := W) ?_ ⟨_, rfl, rfl, trivial, hg.quiet 12 (by decide) (by decide)⟩
      go_simp
    | 13, ho =>
      cases ho
      have q5 : x.tmps[5]?.getD undef = .pointer (some ⟨w.heap.size, 0, none⟩) := hk.fix 5 (by kernel_rfl)
      refine ⟨wanted_plain rfl, ?_⟩
      refine wp_value (v := .pointer (some ⟨w.heap.size, 2, none⟩)) (w' := W) ?_ ⟨_, rfl, rfl, trivial, hg.quiet 13 (by decide) (by decide)⟩
      go_simp
    | 14, ho =>
      cases ho
      have q53 : x.tmps[53]?.getD undef = .pointer (some ⟨w.heap.size, 2, none⟩) := hk.dep 13 53 (by kernel_rfl) (by kernel_rfl)
      refine ⟨wanted_plain rfl, ?_⟩
      have cf := hg.sec.cell 2
      refine wp_value (v := .int .i64 p) (w' := W) ?_ ⟨_, rfl, rfl, trivial, hg.quiet 14 (by decide) (by decide)⟩
      go_simp
    | 15, ho =>
      cases ho
      have q54 : x.tmps[54]?.getD undef = .int .i64 p := hk.dep 14 54 (by kernel_rfl) (by kernel_rfl)
      refine ⟨wanted_plain rfl, ?_⟩
      refine wp_enter (f := 15) (args := #[.int .i64 p]) (w' := W) (S := fun v w1 => v = .int .i64 lf ∧ Below W.heap.size W w1) ?_ ((HL.out W).mono fun e w' h => ⟨_, h.1, rfl, h.2⟩) ?_
      · go_simp
      · rintro v W' ⟨rfl, hb⟩
        exact ⟨_, rfl, rfl, trivial, hg.below M hb 15 (by decide) (by decide)⟩
    | 16, ho =>
      cases ho
      have q52 : x.tmps[52]?.getD undef = .int .i64 n := hk.dep 12 52 (by kernel_rfl) (by kernel_rfl)
      have q55 : x.tmps[55]?.getD undef = .int .i64 lf := hk.dep 15 55 (by kernel_rfl) (by kernel_rfl)
      refine ⟨wanted_plain rfl, ?_⟩
      refine wp_enter (f := 10) (args := #[.int .i64 n, .int .i64 lf]) (w' := W) (S := fun v w1 => v = .int .i64 ck ∧ W = w1) ?_ ((HC.out W).mono fun e w' h => ⟨_, h.1, rfl, h.2⟩) ?_
      · go_simp
      · rintro v W' ⟨rfl, hb⟩
        exact ⟨_, rfl, rfl, trivial, by subst hb; exact hg.quiet 16 (by decide) (by decide)⟩
    | 17, ho =>
      cases ho
      have q5 : x.tmps[5]?.getD undef = .pointer (some ⟨w.heap.size, 0, none⟩) := hk.fix 5 (by kernel_rfl)
      refine ⟨wanted_plain rfl, ?_⟩
      refine wp_value (v := .pointer (some ⟨w.heap.size, 2, none⟩)) (w' := W) ?_ ⟨_, rfl, rfl, trivial, hg.quiet 17 (by decide) (by decide)⟩
      go_simp
    | 18, ho =>
      cases ho
      have q57 : x.tmps[57]?.getD undef = .pointer (some ⟨w.heap.size, 2, none⟩) := hk.dep 17 57 (by kernel_rfl) (by kernel_rfl)
      refine ⟨wanted_plain rfl, ?_⟩
      have cf := hg.sec.cell 2
      refine wp_value (v := .int .i64 p) (w' := W) ?_ ⟨_, rfl, rfl, trivial, hg.quiet 18 (by decide) (by decide)⟩
      go_simp
    | 19, ho =>
      cases ho
      have q58 : x.tmps[58]?.getD undef = .int .i64 p := hk.dep 18 58 (by kernel_rfl) (by kernel_rfl)
      refine ⟨wanted_plain rfl, ?_⟩
      refine wp_enter (f := 22) (args := #[.int .i64 p]) (w' := W) (S := fun v w1 => v = .int .i64 tr ∧ Below W.heap.size W w1) ?_ ((HT2.out W).mono fun e w' h => ⟨_, h.1, rfl, h.2⟩) ?_
      · go_simp
      · rintro v W' ⟨rfl, hb⟩
        exact ⟨_, rfl, rfl, trivial, hg.below M hb 19 (by decide) (by decide)⟩
    | 20, ho =>
      cases ho
      have q45 : x.tmps[45]?.getD undef = .string DG := hk.dep 5 45 (by kernel_rfl) (by kernel_rfl)
      have q47 : x.tmps[47]?.getD undef = .int .i64 a := hk.dep 7 47 (by kernel_rfl) (by kernel_rfl)
      have q49 : x.tmps[49]?.getD undef = .int .i64 p := hk.dep 9 49 (by kernel_rfl) (by kernel_rfl)
      have q51 : x.tmps[51]?.getD undef = .string c := hk.dep 11 51 (by kernel_rfl) (by kernel_rfl)
      have q56 : x.tmps[56]?.getD undef = .int .i64 ck := hk.dep 16 56 (by kernel_rfl) (by kernel_rfl)
      have q59 : x.tmps[59]?.getD undef = .int .i64 tr := hk.dep 19 59 (by kernel_rfl) (by kernel_rfl)
      refine ⟨wanted_plain rfl, ?_⟩
      refine wp_value (v := .agg #[.string DG, .int .i64 a, .int .i64 p, .string c, .int .i64 ck, .int .i64 tr]) (w' := W) ?_ ⟨_, rfl, rfl, trivial, hg.quiet 20 (by decide) (by decide)⟩
      go_simp
    | 21, ho =>
      cases ho
      have q40 : x.tmps[40]?.getD undef = .string PLB := hk.dep 0 40 (by kernel_rfl) (by kernel_rfl)
      refine ⟨wanted_plain rfl, ?_⟩
      refine wp_value (v := .string PLB) (w' := W) ?_ ⟨_, rfl, rfl, trivial, hg.quiet 21 (by decide) (by decide)⟩
      go_simp
    | 22, ho =>
      cases ho
      have q9 : x.tmps[9]?.getD undef = .pointer (some ⟨w.heap.size + 1, 0, none⟩) := hk.fix 9 (by kernel_rfl)
      have q60 : x.tmps[60]?.getD undef = .agg #[.string DG, .int .i64 a, .int .i64 p, .string c, .int .i64 ck, .int .i64 tr] := hk.dep 20 60 (by kernel_rfl) (by kernel_rfl)
      refine ⟨wanted_plain rfl, ?_⟩
      have h22 : ¬ (listed.getD 22 false = true) := by rw [hun]; decide
      have hres := hg.res
      rw [if_neg h22] at hres
      refine wp_skip (w' := W.setRow (w.heap.size + 1) #[.string DG, .int .i64 a, .int .i64 p, .string c, .int .i64 ck, .int .i64 tr]) ?_ ⟨undef, rfl, rfl, trivial, hg.stored M HLOW.out HG.out (by rw [hs]; decide)⟩
      exact run_store_op 23 _ _ rfl (w.heap.size + 1) #[.string DG, .int .i64 a, .int .i64 p, .string c, .int .i64 ck, .int .i64 tr] ((eval_slot x 9).trans q9) ((eval_slot x 60).trans q60) 23 zeroV hres sec_size rfl (by simp [Value.oneCell'])
    | 23, ho =>
      cases ho
      refine ⟨wanted_plain rfl, ?_⟩
      refine wp_value (v := .bool true) (w' := W) ?_ ⟨_, rfl, rfl, trivial, hg.quiet 23 (by decide) (by decide)⟩
      go_simp
    | _ + 24, ho => cases ho
  · intro listed x W hall hg hk
    have h8 : x.tmps[8]?.getD undef = .string PLB := hk.last 21 8 (by decide) (by kernel_rfl)
    have h10 : x.tmps[10]?.getD undef = .bool true := hk.last 23 10 (by decide) (by kernel_rfl)
    have h9 : x.tmps[9]?.getD undef = .pointer (some ⟨w.heap.size + 1, 0, none⟩) := hk.fix 9 (by kernel_rfl)
    have hd := hk.defers
    have hres := hg.res
    rw [if_pos (hall 22 (by decide))] at hres
    have hst := hg.st
    rw [if_pos (hall 5 (by decide))] at hst
    have hkp := hg.kept
    clear hk hg hall
    go_wp2_with fail
    refine bodyPost_ret (results_tct (P := Tryz.prog) rfl _ _ (w.heap.size + 1) 23 #[.string DG, .int .i64 a, .int .i64 p, .string c, .int .i64 ck, .int .i64 tr] (0, 0) _ (.string PLB) (.bool true) (by rw [Array.getD_eq_getD_getElem?]; exact h9) (by rw [Array.getD_eq_getD_getElem?]; exact h8) (by rw [Array.getD_eq_getD_getElem?]; exact h10) hres Tryz.underlying23 rfl sec_size) hd ?_
    exact ⟨rfl, hst, hkp⟩
end Go.Proofs.YtflgbnolfleicaaGreatDoor
