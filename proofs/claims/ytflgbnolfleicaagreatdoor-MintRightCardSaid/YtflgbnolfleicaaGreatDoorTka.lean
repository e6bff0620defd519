/-
  Contracts of token's collector and of the closure that it returns: bits go in, groups of them go out to a function value. Condition: the boxes lie in memory as the collector lays them.
  Contracts of token's two functions that put a group into a row (Encode's: its digit; Decode's: its byte), and of the collector. No condition.
  Contract of token.Encode: the digits of each five bits. Condition: a text of at most 1000000 bytes.
-/
import Derived.Lib.OthersKept
import Derived.Deep.LoopGhost
import Derived.Deep.RegionHeld3
import Derived.Deep.AppendLies
import Derived.Shelf.Abstract
import Derived.Test.YtflgbnolfleicaaGreatDoorBas
import Derived.Test.YtflgbnolfleicaaGreatDoorTkm

namespace Go.Proofs.YtflgbnolfleicaaGreatDoor
open Go.RowKit

/-- A box that holds a row of bytes which a call has made. -/
def Out (w : World) (B eb : Nat) (l : List UInt8) : Prop := B ≤ eb ∧ ∃ v, Blk w eb 46 #[v] ∧ w.ownsRow B 5 1 v l.length (cb l)
theorem Out.lt {w : World} {B eb : Nat} {l : List UInt8} (h : Out w B eb l) : eb < w.heap.size := by
  obtain ⟨_, v, h1, _⟩ := h
  exact h1.lt
theorem Out.of {w w' : World} {B eb : Nat} {l : List UInt8} (h : Out w B eb l) (h1 : w'.heap[eb]? = w.heap[eb]?) (h2 : ∀ (k : Nat) c fz, w.heap[k]? = some (Obj.cells c 5 fz) → w'.heap[k]? = w.heap[k]?) : Out w' B eb l := by
  obtain ⟨hB, v, hb, ho⟩ := h
  refine ⟨hB, v, hb.of h1, own_of ho (fun b hvb => ?_)⟩
  rcases ho.2 with ⟨rfl, _⟩ | ⟨g', cap, cur, rfl, _, hh, _⟩
  · simp [Value.ownBlock] at hvb
  · have : g' = b := by simpa [Value.ownBlock] using hvb
    subst this
    exact h2 _ _ _ hh
/-- A cell of another box is written. -/
theorem Out.far {w : World} {B eb : Nat} {l : List UInt8} (h : Out w B eb l) {hb : Nat} {t : TypeId} {cs : Array Value} (hh : Blk w hb t cs) (h1 : t ≠ 46) (h2 : t ≠ 5) (i : Nat) (u : Value) : Out (w.setCell ⟨hb, i, none⟩ u) B eb l := by
  refine h.of (Below.heap_setCell w _ u eb ?_) (fun k c fz hk => Below.heap_setCell w _ u k ?_)
  · obtain ⟨_, v, hv, _⟩ := h
    exact hv.ne_ hh (fun e => h1 e.symm)
  · rintro rfl
    unfold Blk at hh
    rw [hh] at hk
    injection hk with hk
    injection hk with _ ht _
    exact h2 ht
theorem Out.drew {w : World} {B eb : Nat} {l : List UInt8} (h : Out w B eb l) : Out w.drew B eb l := h

/-- What a call that puts a byte into such a row leaves. -/
structure Putd (B eb : Nat) (w w' : World) : Prop where
  below : Below B w w'
  others : Lib.OthersKept 5 (some eb) w w'
theorem Putd.blk {B eb : Nat} {w w' : World} (h : Putd B eb w w') {k : Nat} {t : TypeId} {cs : Array Value} (hk : Blk w k t cs) (hne : k ≠ eb) (ht : t ≠ 5) : Blk w' k t cs :=
  h.others k _ hk (fun e => hne (Option.some.inj e)) (fun c fz e => by injection e with _ e2 _; exact ht e2)

theorem Putd.cell1 {B eb : Nat} {w w' : World} (h : Putd B eb w w') {k : Nat} {t : TypeId} {u : Value} (hk : Blk w k t #[u]) (hne : k ≠ eb) (ht : t ≠ 5) : w'.cell? ⟨k, 0, none⟩ = some u := by
  have := (h.blk hk hne ht).cell 0
  simpa using this

/-- A function of the program that puts a number, as a byte, into the row. -/
structure PutIs (g M : Nat) (f : Nat → UInt8) : Prop where
  enters : ∀ args W, (callFunc g args).run Tryz.prog W = .ok (.enter g args) W
  call : ∀ (B eb n : Nat) (l : List UInt8) (W : World), n < M → l.length ≤ 100000000 → Out W B eb l →
    Calls Tryz.prog g #[.int .u64 (n : Int), .pointer (some ⟨eb, 0, none⟩)] W fun e W' => e = .returned (.tuple #[]) ∧ Out W' B eb (l ++ [f n]) ∧ Putd B eb W W'

/-- The collector's boxes: a register, how many bits it holds, the size of a group, where groups go. -/
structure Regs (w : World) (B hb nb sb pb eb g m : Nat) (p : List Bool) (out : List UInt8) : Prop where
  low : B ≤ hb ∧ B ≤ nb ∧ nb ≠ sb
  held : ∃ H : Nat, H < 18446744073709551616 ∧ Blk w hb 92 #[.int .u64 (H : Int)] ∧ H % 2 ^ p.length = Tk.num p
  count : Blk w nb 3 #[.int .i64 (p.length : Int)]
  size : Blk w sb 3 #[.int .i64 (m : Int)]
  put : Blk w pb 124 #[.func (.func g) #[] #[.pointer (some ⟨eb, 0, none⟩)]]
  out : Out w B eb out
/-- What stands behind a call that collects: what lay below, and each iterator. -/
structure Got (B : Nat) (w w' : World) : Prop where
  below : Below B w w'
  iter : ∀ (k : Nat) (s : ByteArray) (pos : Nat), w.heap[k]? = some (.stringIter s pos) → w'.heap[k]? = some (.stringIter s pos)
theorem Got.refl (B : Nat) (w : World) : Got B w w := ⟨Below.refl _ _, fun _ _ _ h => h⟩
theorem Got.trans {B : Nat} {a b c : World} (h : Got B a b) (k : Got B b c) : Got B a c := ⟨h.below.trans k.below, fun i s q hi => k.iter i s q (h.iter i s q hi)⟩
theorem Got.putd {B eb : Nat} {w w' : World} {l : List UInt8} (h : Putd B eb w w') (ho : Out w B eb l) : Got B w w' :=
  ⟨h.below, fun k s q hk => h.others k _ hk (fun e => by
    obtain ⟨_, v, hb, _⟩ := ho
    have := Option.some.inj e
    subst this
    unfold Blk at hb
    rw [hb] at hk
    cases hk) (fun c fz e => by cases e)⟩
theorem Got.set_ {B : Nat} (w : World) {hb : Nat} {t : TypeId} {cs : Array Value} (hh : Blk w hb t cs) (hB : B ≤ hb) (i : Nat) (u : Value) : Got B w (w.setCell ⟨hb, i, none⟩ u) :=
  ⟨(Below.refl _ _).setCell (p := ⟨hb, i, none⟩) hB u, fun k s q hk => (Below.heap_setCell w _ u k (by
    rintro rfl
    unfold Blk at hh
    rw [hh] at hk
    cases hk)).trans hk⟩
theorem Got.drew {B : Nat} {a w : World} (h : Got B a w) : Got B a w.drew := ⟨h.below.drew, h.iter⟩
theorem Regs.drew {w : World} {B hb nb sb pb eb g m : Nat} {p : List Bool} {out : List UInt8} (h : Regs w B hb nb sb pb eb g m p out) : Regs w.drew B hb nb sb pb eb g m p out := ⟨h.low, h.held, h.count, h.size, h.put, h.out⟩
theorem u64_wrap_nat (a : Nat) (ha : a < 18446744073709551616) : IntKind.u64.wrap (a : Int) = (a : Int) := by
  unfold IntKind.wrap
  simp [IntKind.bits, IntKind.signed]
  omega
theorem u64_and (a b : Nat) (ha : a < 18446744073709551616) (hb : b < 18446744073709551616) : bits BinOp.and IntKind.u64 (a : Int) (b : Int) = ((a &&& b : Nat) : Int) := by
  have e1 : a % 2 ^ IntKind.u64.bits = a := Nat.mod_eq_of_lt ha
  have e2 : b % 2 ^ IntKind.u64.bits = b := Nat.mod_eq_of_lt hb
  simp [Go.bits]
  rw [e1, e2]
  exact u64_wrap_nat _ (Nat.lt_of_le_of_lt Nat.and_le_left ha)
theorem u64_or (a b : Nat) (ha : a < 2 ^ 64) (hb : b < 2 ^ 64) : bits BinOp.or IntKind.u64 (a : Int) (b : Int) = ((a ||| b : Nat) : Int) := by
  have e1 : a % 2 ^ IntKind.u64.bits = a := Nat.mod_eq_of_lt ha
  have e2 : b % 2 ^ IntKind.u64.bits = b := Nat.mod_eq_of_lt hb
  simp [Go.bits]
  rw [e1, e2]
  exact u64_wrap_nat _ (Nat.or_lt_two_pow ha hb)
theorem u64_shl (H b : Nat) : IntKind.u64.wrap ((H : Int) * 2 ^ b) = ((H * 2 ^ b % 2 ^ 64 : Nat) : Int) := by
  rw [show ((H : Int) * 2 ^ b) = ((H * 2 ^ b : Nat) : Int) by push_cast; rfl]
  generalize H * 2 ^ b = x
  unfold IntKind.wrap
  simp [IntKind.bits, IntKind.signed]
theorem Regs.reg {w : World} {B hb nb sb pb eb g m : Nat} {p q : List Bool} {out : List UInt8} (h : Regs w B hb nb sb pb eb g m p out) (H2 c : Nat) (hc : q.length = c) (hH : H2 < 18446744073709551616) (hn : H2 % 2 ^ c = Tk.num q) :
    Regs ((w.setCell ⟨hb, 0, none⟩ (.int .u64 (H2 : Int))).setCell ⟨nb, 0, none⟩ (.int .i64 (c : Int))) B hb nb sb pb eb g m q out := by
  subst hc
  obtain ⟨H, _, hh, _⟩ := h.held
  have hne1 : hb ≠ nb := hh.ne_ h.count (by decide)
  have h1 : Blk (w.setCell ⟨hb, 0, none⟩ (.int .u64 (H2 : Int))) nb 3 #[.int .i64 (p.length : Int)] := h.count.far (p := ⟨hb, 0, none⟩) (fun e => hne1 e.symm) _
  have hs1 : sb ≠ hb := h.size.ne_ hh (by decide)
  have hp1 : pb ≠ hb := h.put.ne_ hh (by decide)
  have hp2 : pb ≠ nb := h.put.ne_ h.count (by decide)
  exact ⟨h.low, ⟨H2, hH, Blk.far (Blk.set_ hh 0 _) (p := ⟨nb, 0, none⟩) hne1 _, hn⟩, Blk.set_ h1 0 _, (h.size.far (p := ⟨hb, 0, none⟩) hs1 _).far (p := ⟨nb, 0, none⟩) (fun e => h.low.2.2 e.symm) _,
    (h.put.far (p := ⟨hb, 0, none⟩) hp1 _).far (p := ⟨nb, 0, none⟩) hp2 _, (h.out.far hh (by decide) (by decide) 0 _).far h1 (by decide) (by decide) 0 _⟩
/-- Only the count is told anew. -/
theorem Regs.cnt {w : World} {B hb nb sb pb eb g m : Nat} {p q : List Bool} {out : List UInt8} (h : Regs w B hb nb sb pb eb g m p out) (c : Nat) (hc : q.length = c) (hn : ∀ H, H % 2 ^ p.length = Tk.num p → H % 2 ^ c = Tk.num q) :
    Regs (w.setCell ⟨nb, 0, none⟩ (.int .i64 (c : Int))) B hb nb sb pb eb g m q out := by
  subst hc
  obtain ⟨H, hH, hh, hnum⟩ := h.held
  have hne1 : hb ≠ nb := hh.ne_ h.count (by decide)
  have hp2 : pb ≠ nb := h.put.ne_ h.count (by decide)
  exact ⟨h.low, ⟨H, hH, hh.far (p := ⟨nb, 0, none⟩) hne1 _, hn H hnum⟩, Blk.set_ h.count 0 _, h.size.far (p := ⟨nb, 0, none⟩) (fun e => h.low.2.2 e.symm) _, h.put.far (p := ⟨nb, 0, none⟩) hp2 _, h.out.far h.count (by decide) (by decide) 0 _⟩
theorem Regs.putd {w w' : World} {B hb nb sb pb eb g m : Nat} {p : List Bool} {out out' : List UInt8} (h : Regs w B hb nb sb pb eb g m p out) (ho : Out w' B eb out') (hp : Putd B eb w w') : Regs w' B hb nb sb pb eb g m p out' := by
  obtain ⟨H, hH, hh, hnum⟩ := h.held
  obtain ⟨_, v, he, _⟩ := h.out
  exact ⟨h.low, ⟨H, hH, hp.blk hh (hh.ne_ he (by decide)) (by decide), hnum⟩, hp.blk h.count (h.count.ne_ he (by decide)) (by decide), hp.blk h.size (h.size.ne_ he (by decide)) (by decide), hp.blk h.put (h.put.ne_ he (by decide)) (by decide), ho⟩

set_option maxHeartbeats 4000000 in
set_option maxRecDepth 100000 in
theorem collect_any {g m : Nat} {f : Nat → UInt8} (PI : PutIs g (2 ^ m) f) (hm : 1 ≤ m ∧ m ≤ 8) (p : List Bool) (hp : p.length ≤ 8) (v b : Nat) (hv : v < 2 ^ b) (hb : b ≤ 8) {B hb' nb sb pb eb : Nat} (out : List UInt8) (w : World)
    (hR : Regs w B hb' nb sb pb eb g m p out) (hlen : out.length ≤ 90000000) :
    Calls Tryz.prog 103 #[.int .u64 (v : Int), .int .i64 (b : Int), .pointer (some ⟨hb', 0, none⟩), .pointer (some ⟨nb, 0, none⟩), .pointer (some ⟨sb, 0, none⟩), .pointer (some ⟨pb, 0, none⟩)] w fun e w' =>
      e = .returned (.tuple #[]) ∧ Regs w' B hb' nb sb pb eb g m (Tk.left m (p ++ Tk.bitsN b v)) (out ++ (Tk.grps m (p ++ Tk.bitsN b v)).map f) ∧ Got B w w' := by
  obtain ⟨H, hH, hheld, hnum⟩ := hR.held
  have hne1 : hb' ≠ nb := hheld.ne_ hR.count (by decide)
  have hlow := hR.low
  have c0 := hheld.cell 0
  have f0 := hheld.frozen 0
  have c1 := hR.count.cell 0
  have f1 := hR.count.frozen 0
  simp only [List.getElem?_toArray, List.getElem?_cons_zero] at c0 c1
  have hql : (p ++ Tk.bitsN b v).length = p.length + b := by rw [List.length_append, Tk.bitsN_length]
  obtain ⟨H2, hH2⟩ : ∃ H2, (H * 2 ^ b % 2 ^ 64 ||| v) = H2 := ⟨_, rfl⟩
  have hi := Tk.held_in H p.length b v hv (by omega)
  have hmo := Tk.held_more H b v p hv (by omega) hnum
  have hor : bits BinOp.or IntKind.u64 (IntKind.u64.wrap ((H : Int) * 2 ^ b)) (v : Int) = (H2 : Int) := by
    rw [u64_shl, u64_or _ _ (Nat.mod_lt _ (Nat.two_pow_pos _)) (Nat.lt_of_lt_of_le hv (Nat.pow_le_pow_right (by decide) (by omega))), hH2]
  rw [hH2] at hi hmo
  obtain ⟨c, hc⟩ : ∃ c, p.length + b = c := ⟨_, rfl⟩
  rw [hql, hc] at hmo
  rw [hc] at hql
  have hcw : IntKind.i64.wrap ((p.length : Int) + (b : Int)) = (c : Int) := by rw [IntKind.wrap_i64]; omega
  generalize p ++ Tk.bitsN b v = q at hql hmo ⊢
  have HR2 := Lib.hid (hR.reg (q := q) H2 c hql hi.1 hmo)
  have HG2 : Hid (Got B w ((w.setCell ⟨hb', 0, none⟩ (.int .u64 (H2 : Int))).setCell ⟨nb, 0, none⟩ (.int .i64 (c : Int)))) :=
    Lib.hid ((Got.set_ w hheld hlow.1 0 _).trans (Got.set_ _ (hR.count.far (p := ⟨hb', 0, none⟩) (fun e => hne1 e.symm) _) hlow.2.1 0 _))
  have d1 : (w.setCell ⟨hb', 0, none⟩ (.int .u64 (H2 : Int))).cell? ⟨nb, 0, none⟩ = some (.int .i64 (p.length : Int)) := by
    rw [World.cell?_setCell_other _ _ _ _ (by intro e; exact hne1 (congrArg Addr.block e)), c1]
  clear hR hheld hH2 hi hmo hnum c1
  have hq16 : c ≤ 16 := by omega
  have HQ := Lib.hid hql
  clear hql
  go_enter Tryz.func103, Tryz.ntmps103
  go_wp2_with fail
  generalize hW2 : World.setCell (World.setCell w _ _) _ _ = W2 at HR2 HG2 ⊢
  clear hW2 d1 c0 f0 f1 hor hcw
  go_loopg [] (c / m) (fun n wr => ∃ k, k + n = c / m ∧ Regs wr B hb' nb sb pb eb g m (q.drop (m * k)) (out ++ (Tk.grpsTo m k q).map f) ∧ Got B w wr)
  case atStart => exact ⟨0, by omega, by simpa [Tk.grpsTo] using HR2.out, HG2.out⟩
  case round =>
    clear HR2 HG2
    obtain ⟨k, hk, hr, hg⟩ := hrel
    obtain ⟨H, hH, hheld, hnum⟩ := hr.held
    have c0 := hheld.cell 0
    have c1 := hr.count.cell 0
    have f1 := hr.count.frozen 0
    have c2 := hr.size.cell 0
    have c3 := hr.put.cell 0
    simp only [List.getElem?_toArray, List.getElem?_cons_zero] at c0 c1 c2 c3
    have hrl : (q.drop (m * k)).length = c - m * k := by rw [List.length_drop, HQ.out]
    by_cases hlt : m * k + m ≤ c
    · have hx0 : (q.drop (m * k)).length = c - m * k := hrl
      have ho := Tk.held_out H m (q.drop (m * k)) (by omega) hnum
      have hdd : (q.drop (m * k)).drop m = q.drop (m * (k + 1)) := by rw [List.drop_drop, Nat.mul_add, Nat.mul_one]
      have hnl : Tk.num ((q.drop (m * k)).take m) < 2 ^ m := by
        have := Tk.num_lt ((q.drop (m * k)).take m)
        rwa [List.length_take, hx0, Nat.min_eq_left (by omega)] at this
      have hgs := Tk.grpsTo_succ m k q
      have hkl := Tk.grpsTo_length m k q
      obtain ⟨x, hx⟩ : ∃ x, (q.drop (m * k)).length = x := ⟨_, rfl⟩
      obtain ⟨y, hy⟩ : ∃ y, x - m = y := ⟨_, rfl⟩
      obtain ⟨n, hn⟩ : ∃ n, Tk.num ((q.drop (m * k)).take m) = n := ⟨_, rfl⟩
      rw [hx, hy, hn] at ho
      rw [hn] at hnl hgs
      rw [hx] at c1
      have hmin : min y 64 = y := by omega
      have hxm : (m : Int) ≤ (x : Int) := by omega
      have hyw : IntKind.i64.wrap ((x : Int) - (m : Int)) = (y : Int) := by rw [IntKind.wrap_i64]; omega
      have hgr : bits BinOp.and IntKind.u64 ((H : Int) / 2 ^ y) (IntKind.u64.wrap (IntKind.u64.wrap ((2 : Int) ^ m) - 1)) = (n : Int) := by
        have h2m : 2 ^ m ≤ 2 ^ 8 := Nat.pow_le_pow_right (by decide) hm.2
        have h1m : 1 ≤ 2 ^ m := Nat.one_le_two_pow
        rw [show ((2 : Int) ^ m) = ((2 ^ m : Nat) : Int) by push_cast; rfl, u64_wrap_nat _ (by omega), show (((2 ^ m : Nat) : Int) - 1) = ((2 ^ m - 1 : Nat) : Int) by omega, u64_wrap_nat _ (by omega),
          show ((H : Int) / 2 ^ y) = ((H / 2 ^ y : Nat) : Int) by push_cast; rfl, u64_and _ _ (Nat.lt_of_le_of_lt (Nat.div_le_self _ _) hH) (by omega), Nat.and_two_pow_sub_one_eq_mod, ho.1]
      have b0 : Blk (wr.setCell ⟨nb, 0, none⟩ (.int .i64 (y : Int))) hb' 92 #[.int .u64 (H : Int)] := hheld.far (p := ⟨nb, 0, none⟩) hne1 _
      have b1 : Blk (wr.setCell ⟨nb, 0, none⟩ (.int .i64 (y : Int))) nb 3 #[.int .i64 (y : Int)] := Blk.set_ hr.count 0 _
      have b2 : Blk (wr.setCell ⟨nb, 0, none⟩ (.int .i64 (y : Int))) sb 3 #[.int .i64 (m : Int)] := hr.size.far (p := ⟨nb, 0, none⟩) (fun e => hlow.2.2 e.symm) _
      have b3 : Blk (wr.setCell ⟨nb, 0, none⟩ (.int .i64 (y : Int))) pb 124 #[.func (.func g) #[] #[.pointer (some ⟨eb, 0, none⟩)]] := hr.put.far (p := ⟨nb, 0, none⟩) (hr.put.ne_ hr.count (by decide)) _
      have HB := Lib.hid (And.intro b0 (And.intro b1 (And.intro b2 b3)))
      clear b0 b1 b2 b3
      have HC := Lib.hid (hr.cnt (q := q.drop (m * (k + 1))) y (by rw [← hdd, List.length_drop]; omega) (fun H' h' => by
        have h2 := (Tk.held_out H' m (q.drop (m * k)) (by omega) h').2
        rw [hx, hy, hdd] at h2
        exact h2))
      have HG3 := Lib.hid (hg.trans (Got.set_ wr hr.count hlow.2.1 0 (.int .i64 (y : Int))))
      have e0 : (wr.setCell ⟨nb, 0, none⟩ (.int .i64 (y : Int))).cell? ⟨hb', 0, none⟩ = some (.int .u64 (H : Int)) := by
        rw [World.cell?_setCell_other _ _ _ _ (by intro e; exact hne1 (congrArg Addr.block e).symm), c0]
      have e1 : (wr.setCell ⟨nb, 0, none⟩ (.int .i64 (y : Int))).cell? ⟨nb, 0, none⟩ = some (.int .i64 (y : Int)) := World.cell?_setCell_same _ _ _ c1
      have e2 : (wr.setCell ⟨nb, 0, none⟩ (.int .i64 (y : Int))).cell? ⟨sb, 0, none⟩ = some (.int .i64 (m : Int)) := by
        rw [World.cell?_setCell_other _ _ _ _ (by intro e; exact hlow.2.2 (congrArg Addr.block e)), c2]
      have e3 : (wr.setCell ⟨nb, 0, none⟩ (.int .i64 (y : Int))).cell? ⟨pb, 0, none⟩ = some (.func (.func g) #[] #[.pointer (some ⟨eb, 0, none⟩)]) := by
        rw [World.cell?_setCell_other _ _ _ _ (by intro e; exact (hr.put.ne_ hr.count (by decide)) (congrArg Addr.block e).symm), c3]
      have HGS := Lib.hid hgs
      have HO := Lib.hid ho
      have HN := Lib.hid hnl
      have hkl2 : (Tk.grpsTo m k q).length ≤ 1000 := by
        rw [hkl]
        have : k ≤ c / m := by omega
        have := Nat.div_le_self c m
        omega
      generalize Tk.grpsTo m k q = G at HGS hkl2 HC
      obtain ⟨Q, hQ⟩ : ∃ Q, q.drop (m * (k + 1)) = Q := ⟨_, rfl⟩
      rw [hQ] at HC
      have HQ4 := Lib.hid hQ
      clear hQ
      clear hr hg hnum hheld ho hgs hkl hnl hdd hx0 hrl
      go_wp2_with fail
      generalize hW3 : World.setCell wr _ _ = W3 at HC HG3 HB e0 e1 e2 e3 ⊢
      clear hW3 c0 c1 c2 c3 f1
      have hent := PI.enters
      have HP := Lib.hid (fun W (hO : Out W B eb (out ++ G.map f)) => PI.call B eb n (out ++ G.map f) W HN.out (by rw [List.length_append, List.length_map]; omega) hO)
      go_region_held3 (fun W => W.cell? ⟨hb', 0, none⟩ = some (.int .u64 (H : Int)) ∧ W.cell? ⟨nb, 0, none⟩ = some (.int .i64 (y : Int)) ∧ W.cell? ⟨sb, 0, none⟩ = some (.int .i64 (m : Int)) ∧ W.cell? ⟨pb, 0, none⟩ = some (.func (.func g) #[] #[.pointer (some ⟨eb, 0, none⟩)]))
        (first | go_keep | (exact KP))
        (first
        | (refine (HP.out W3.drew HC.out.out.drew).mono ?_
           rintro e W4 ⟨rfl, o4, pd⟩
           have KP : W4.cell? ⟨hb', 0, none⟩ = some (.int .u64 (H : Int)) ∧ W4.cell? ⟨nb, 0, none⟩ = some (.int .i64 (y : Int)) ∧ W4.cell? ⟨sb, 0, none⟩ = some (.int .i64 (m : Int)) ∧ W4.cell? ⟨pb, 0, none⟩ = some (.func (.func g) #[] #[.pointer (some ⟨eb, 0, none⟩)]) := by
             obtain ⟨_, _, he, _⟩ := HC.out.out
             exact ⟨pd.cell1 HB.out.1.drew (HB.out.1.ne_ he (by decide)) (by decide), pd.cell1 HB.out.2.1.drew (HB.out.2.1.ne_ he (by decide)) (by decide), pd.cell1 HB.out.2.2.1.drew (HB.out.2.2.1.ne_ he (by decide)) (by decide), pd.cell1 HB.out.2.2.2.drew (HB.out.2.2.2.ne_ he (by decide)) (by decide)⟩))
      have R4 := Lib.hid (HC.out.drew.putd o4 pd)
      have G4 := Lib.hid (HG3.out.drew.trans (Got.putd pd HC.out.out.drew))
      clear KP
      have hkc : k < c / m := by
        have h2 : k + 1 ≤ c / m := (Nat.le_div_iff_mul_le (by omega)).2 (by rw [Nat.add_mul, Nat.one_mul, Nat.mul_comm]; exact hlt)
        omega
      go_wp2_with fail
      go_roundg (c / m - (k + 1))
      case rel => exact ⟨k + 1, by omega, by rw [HGS.out, List.map_append, ← List.append_assoc]; rw [HQ4.out]; exact R4.out, G4.out⟩
      case measure => omega
    · have hke : k = c / m := by
        have h1 : m * k + m > c := by omega
        have h2 : m * (c / m) ≤ c := Nat.mul_div_le c m
        have h3 : k ≤ c / m := by omega
        rcases Nat.lt_or_ge k (c / m) with h4 | h4
        · have : m * (k + 1) ≤ m * (c / m) := Nat.mul_le_mul_left m h4
          rw [Nat.mul_add, Nat.mul_one] at this
          omega
        · omega
      obtain ⟨x, hx⟩ : ∃ x, (q.drop (m * k)).length = x := ⟨_, rfl⟩
      rw [hx] at c1
      have hxm : (x : Int) < (m : Int) := by omega
      have HE := Lib.hid hke
      have HRR := Lib.hid hr
      have HGG := Lib.hid hg
      clear hr hg hke hrl hheld hnum
      go_wp2_with fail
      go_end0
      refine ⟨rfl, ?_, HGG.out⟩
      have h := HRR.out
      rw [HE.out, ← HQ.out] at h
      exact h
end Go.Proofs.YtflgbnolfleicaaGreatDoor

namespace Go.Proofs.YtflgbnolfleicaaGreatDoor
open Go.RowKit
theorem put_step {w w2 : World} {B eb g cap : Nat} {v : Value} {l : List UInt8} {x : UInt8} (hB : B ≤ eb) (hbk : Blk w eb 46 #[v]) (hown : w.ownsRow B 5 1 v l.length (cb l)) (o : Obj)
    (hown2 : w2.ownsRow B 5 1 (.slice (some ⟨g, 0, none⟩) (l.length + 1) cap) (l.length + 1) (cb l ++ [.int .u8 (x.toNat : Int)])) (hgrow : (w.alloc o).grownBy w2 v.ownBlock) :
    Out (w2.setCell ⟨eb, 0, none⟩ (.slice (some ⟨g, 0, none⟩) (l.length + 1) cap)) B eb (l ++ [x]) ∧ Putd B eb w (w2.setCell ⟨eb, 0, none⟩ (.slice (some ⟨g, 0, none⟩) (l.length + 1) cap)) := by
  have hlt := hbk.lt
  have hne : v.ownBlock ≠ some eb := own_blk_ne hown hbk (by decide)
  have b1 := hbk.alloc o
  have b2 : Blk w2 eb 46 #[v] := b1.of (hgrow.block eb b1.lt (fun e => hne e.symm))
  have hne2 := own_blk_ne hown2 b2 (by decide)
  refine ⟨⟨hB, _, Blk.set_ b2 0 _, ?_⟩, ?_, ?_⟩
  · have e1 : (l ++ [x]).length = l.length + 1 := by simp
    have e2 : cb (l ++ [x]) = cb l ++ [.int .u8 (x.toNat : Int)] := by simp [cb]
    rw [e1, e2]
    exact own_of hown2 (fun b hb => Below.heap_setCell w2 _ _ b (by rintro rfl; exact hne2 hb))
  · exact (((Below.refl B w).alloc (by omega) o).grown hgrow (by simp; omega) (fun k hk => own_base hown hk)).setCell (p := ⟨eb, 0, none⟩) hB _
  · refine (((Lib.OthersKept.refl _ _ w).alloc o).grown hgrow (fun k hk => ?_)).setCell ⟨eb, 0, none⟩ rfl _
    rcases hown.2 with ⟨rfl, _⟩ | ⟨g', cap', cur, rfl, _, hh, _⟩
    · simp [Value.ownBlock] at hk
    · have : g' = k := by simpa [Value.ownBlock] using hk
      subst this
      exact ⟨cur, (0, 0), Blk.alloc (t := 5) (cs := cur) hh o⟩

def digsBA : ByteArray := ⟨#[97, 98, 99, 100, 101, 102, 103, 104, 105, 106, 107, 108, 109, 110, 111, 112, 113, 114, 115, 116, 117, 118, 119, 120, 121, 122, 50, 51, 52, 53, 54, 55]⟩
theorem digs_get (n : Nat) (h : n < digsBA.size) : digsBA[n] = Tk.dig n := by
  have e : ∀ j : Fin 32, digsBA[j.val]? = some (Tk.dig j.val) := by decide
  exact Option.some.inj ((ByteArray.getElem?_lt' digsBA n h).symm.trans (e ⟨n, h⟩))
theorem run_digit (n : Nat) (h : n < 32) (k : IntKind) (W : World) : (Instr.index 9 (.string digsBA) (.int k (n : Int))).run Tryz.prog W = .ok (.int .u8 ((Tk.dig n).toNat : Int)) W := by
  rw [run_index_string W 9 digsBA k _ Tryz.underlying9, dif_pos ⟨by omega, by rw [show digsBA.size = 32 from rfl]; omega⟩]
  have e : ((n : Int)).toNat = n := by omega
  simp only [e]
  rw [digs_get n (by rw [show digsBA.size = 32 from rfl]; exact h)]

set_option maxHeartbeats 2000000 in
set_option maxRecDepth 100000 in
theorem put_dig : PutIs 81 (2 ^ 5) Tk.dig := by
  refine ⟨fun args W => enters_of Tryz.func81 (by decide +kernel) rfl args W, ?_⟩
  intro B eb n l w hn hlen hO
  obtain ⟨hB, v, hbk, hown⟩ := hO
  obtain ⟨i0, hi, hz, hs, hy⟩ := info_u8
  obtain ⟨A, c, rfl⟩ := own_form hown
  have hlt := hbk.lt
  have c0 := hbk.cell 0
  have f0 := hbk.frozen 0
  simp only [List.getElem?_toArray, List.getElem?_cons_zero] at c0
  have hidx : ∀ W, (Instr.index 9 (.string ⟨#[97, 98, 99, 100, 101, 102, 103, 104, 105, 106, 107, 108, 109, 110, 111, 112, 113, 114, 115, 116, 117, 118, 119, 120, 121, 122, 50, 51, 52, 53, 54, 55]⟩) (.int .u64 (n : Int))).run Tryz.prog W = .ok (.int .u8 ((Tk.dig n).toNat : Int)) W := run_digit n hn .u64
  generalize Tk.dig n = x at hidx ⊢
  have HO := Lib.hid hown
  have HI := Lib.hid hi
  have HZ := Lib.hid hz
  have HZ1 := Lib.hid hs
  have HZ2 := Lib.hid hy
  have HBK := Lib.hid hbk
  have hne := own_blk_ne hown hbk (by decide)
  have hblk0 := Blk.new w 5 #[.int .u8 (x.toNat : Int)]
  have hown0 : (w.alloc (.cells #[.int .u8 (x.toNat : Int)] 5)).ownsRow B 5 1 (.slice A l.length c) l.length (cb l) := hown.alloc _
  clear hown hi hz hs hy hbk
  have HN := Lib.hid hne
  clear hne
  go_enter Tryz.func81, Tryz.ntmps81
  go_wp2_with fail
  go_region_law
    ((refine step_append_lies _ (by rfl) _ _ 46 (by rfl) B 5 i0 _ 1 1 Tryz.underlying46 HI.out HZ.out HZ1.out HZ2.out rfl (by decide) (.slice A l.length c) l.length (cb l) (by rfl) hown0.drew ⟨w.heap.size, 0, none⟩ 1 1 [.int .u8 (x.toNat : Int)] (by rfl) (by rfl) (World.news_of_block hblk0) (by intro u hu; simp at hu; subst hu; rfl) (by omega) (by unfold maxLen; omega) (by omega) (by simp; omega) (w.heap.size + 1) (by simp) ?_
      intro g cap w2 hown2 hgrow hat hlt2
      have hgrow2 : (w.alloc (.cells #[.int .u8 (x.toNat : Int)] 5)).grownBy w2 (Value.slice A l.length c).ownBlock := ⟨hgrow.os, hgrow.tape, hgrow.output, hgrow.size, hgrow.block⟩
      have b2 := (HBK.out.alloc (.cells #[.int .u8 (x.toNat : Int)] 5)).of (hgrow2.block eb (by simp; omega) (fun e => HN.out e.symm))
      have KP : w2.cell? ⟨eb, 0, none⟩ = some (.slice A l.length c) := by have := b2.cell 0; simpa using this
      have f2 := b2.frozen 0
      have HP := Lib.hid (put_step hB HBK.out HO.out _ hown2 hgrow2)))
  all_goals (go_end0; exact ⟨rfl, HP.out.1, HP.out.2⟩)

theorem Out.alloc {w : World} {B eb : Nat} {l : List UInt8} (h : Out w B eb l) (o : Obj) : Out (w.alloc o) B eb l := by
  obtain ⟨hB, v, hb, ho⟩ := h
  exact ⟨hB, v, hb.alloc o, ho.alloc o⟩
theorem Out.below {w w' : World} {B eb : Nat} {l : List UInt8} (h : Out w B eb l) (hb : Below w.heap.size w w') : Out w' B eb l := by
  obtain ⟨hB, v, hbk, ho⟩ := h
  exact ⟨hB, v, hbk.of (hb.block _ hbk.lt), own_of ho (fun b hvb => hb.block _ (own_lt ho hvb))⟩
set_option maxHeartbeats 1000000 in
set_option maxRecDepth 100000 in
theorem collector_any (g m eb B : Nat) (w : World) (hO : Out w B eb []) :
    Calls Tryz.prog 80 #[.int .i64 (m : Int), .func (.func g) #[] #[.pointer (some ⟨eb, 0, none⟩)]] w fun e w' => ∃ hb nb sb pb : Nat,
      e = .returned (.func (.func 103) #[] #[.pointer (some ⟨hb, 0, none⟩), .pointer (some ⟨nb, 0, none⟩), .pointer (some ⟨sb, 0, none⟩), .pointer (some ⟨pb, 0, none⟩)]) ∧
      Regs w' B hb nb sb pb eb g m [] [] ∧ Below w.heap.size w w' := by
  have hlt := hO.lt
  have hB := hO.1
  have HO := Lib.hid hO
  clear hO
  go_enter Tryz.func80, Tryz.ntmps80
  go_wp2_with fail
  go_ret
  refine ⟨w.heap.size + 1 + 1, w.heap.size + 1 + 1 + 1, w.heap.size, w.heap.size + 1, rfl, ?_, ((((Below.refl _ w).alloc (Nat.le_refl _) _).alloc (by simp) _).alloc (by simp; omega) _).alloc (by simp; omega) _⟩
  have n1 := Blk.new w 3 #[.int .i64 (m : Int)]
  have n2 := Blk.new (w.alloc (.cells #[.int .i64 (m : Int)] 3)) 124 #[.func (.func g) #[] #[.pointer (some ⟨eb, 0, none⟩)]]
  have n3 := Blk.new ((w.alloc (.cells #[.int .i64 (m : Int)] 3)).alloc (.cells #[.func (.func g) #[] #[.pointer (some ⟨eb, 0, none⟩)]] 124)) 92 #[.int .u64 0]
  have n4 := Blk.new (((w.alloc (.cells #[.int .i64 (m : Int)] 3)).alloc (.cells #[.func (.func g) #[] #[.pointer (some ⟨eb, 0, none⟩)]] 124)).alloc (.cells #[.int .u64 0] 92)) 3 #[.int .i64 0]
  have hs : ∀ (w : World) (o : Obj), (w.alloc o).heap.size = w.heap.size + 1 := fun w o => by simp
  simp only [hs] at n1 n2 n3 n4
  exact ⟨⟨by omega, by omega, by omega⟩, ⟨0, by omega, n3.alloc _, by simp [Tk.num]⟩, n4, ((n1.alloc _).alloc _).alloc _, (n2.alloc _).alloc _, (((HO.out.alloc _).alloc _).alloc _).alloc _⟩
end Go.Proofs.YtflgbnolfleicaaGreatDoor

namespace Go.Proofs.YtflgbnolfleicaaGreatDoor
open Go.RowKit

/-- One more collection, told by all bits that were collected so far. -/
def At (w : World) (B hb nb sb pb eb g m : Nat) (f : Nat → UInt8) (l : List Bool) : Prop := Regs w B hb nb sb pb eb g m (Tk.left m l) ((Tk.grps m l).map f)
theorem at_more {g m : Nat} {f : Nat → UInt8} (PI : PutIs g (2 ^ m) f) (hm : 1 ≤ m ∧ m ≤ 8) {l : List Bool} {B hb nb sb pb eb : Nat} {w : World} (h : At w B hb nb sb pb eb g m f l) (hl : l.length ≤ 80000000) (v b : Nat) (hv : v < 2 ^ b) (hb8 : b ≤ 8) :
    Calls Tryz.prog 103 #[.int .u64 (v : Int), .int .i64 (b : Int), .pointer (some ⟨hb, 0, none⟩), .pointer (some ⟨nb, 0, none⟩), .pointer (some ⟨sb, 0, none⟩), .pointer (some ⟨pb, 0, none⟩)] w fun e w' =>
      e = .returned (.tuple #[]) ∧ At w' B hb nb sb pb eb g m f (l ++ Tk.bitsN b v) ∧ Got B w w' := by
  have h1 : (Tk.left m l).length ≤ 8 := by
    rw [Tk.left_length]
    have := Nat.mod_lt l.length (show 0 < m by omega)
    omega
  have h2 : ((Tk.grps m l).map f).length ≤ 90000000 := by
    rw [List.length_map, Tk.grps_length]
    have := Nat.div_le_self l.length m
    omega
  refine (collect_any PI hm (Tk.left m l) h1 v b hv hb8 _ w h h2).mono ?_
  rintro e w' ⟨rfl, h3, h4⟩
  refine ⟨rfl, ?_, h4⟩
  unfold At
  rw [Tk.left_append m (by omega), Tk.grps_append m (by omega), List.map_append]
  exact h3
theorem at_start {w : World} {B hb nb sb pb eb g m : Nat} {f : Nat → UInt8} (h : Regs w B hb nb sb pb eb g m [] []) : At w B hb nb sb pb eb g m f [] := by
  unfold At
  simpa [Tk.left, Tk.grps, Tk.grpsTo] using h

set_option maxHeartbeats 4000000 in
set_option maxRecDepth 100000 in
theorem encode_any (s : ByteArray) (hs : s.size ≤ 1000000) (w : World) :
    Calls Tryz.prog 59 #[.string s] w fun e w' => e = .returned (.string (ba (Tk.enc s.data.toList))) ∧ Below w.heap.size w w' := by
  obtain ⟨i0, hi, hz, hsz, hy⟩ := info_u8
  obtain ⟨c, hc⟩ : ∃ c, (8 * s.size + 4) / 5 = c := ⟨_, rfl⟩
  obtain ⟨w1, hmk, hown, hgr⟩ := run_make_own (P := Tryz.prog) w w.heap.size 46 5 i0 (.int .u8 0) 1 Tryz.underlying46 hi hz hsz .i64 .i64 c (by rw [hy]; omega) (by unfold maxLen; omega) (Nat.le_refl _)
  have hb1 : Below w.heap.size w w1 := (Below.refl _ w).grown hgr (Nat.le_refl _) (fun k hk => by cases hk)
  have hbs := hb1.size
  have HC := Lib.hid (fun W => collector_any 81 5 w1.heap.size w.heap.size W)
  have HO : Hid (Out (w1.alloc (.cells #[.slice (some ⟨w.heap.size, 0, none⟩) 0 c] 46)) w.heap.size w1.heap.size []) := Lib.hid ⟨hbs, _, Blk.new w1 _ _, hown.alloc _⟩
  have HB := Lib.hid (hb1.alloc hbs (.cells #[.slice (some ⟨w.heap.size, 0, none⟩) 0 c] 46))
  clear hgr hb1 hown hi hz hsz hy
  go_enter Tryz.func59, Tryz.ntmps59
  have hcw : (8 * (s.size : Int) + 5 - 1) / 5 = (c : Int) := by omega
  obtain ⟨L, hL⟩ : ∃ L, s.data.toList = L := ⟨_, rfl⟩
  have hLl : L.length = s.size := by rw [← hL]; simp
  have HL := Lib.hid hL
  go_wp2_with fail
  generalize hW2 : w1.alloc _ = W2 at HO HB ⊢
  clear hW2 hmk hcw
  refine (HC.out _ HO.out).mono ?_
  rintro e w3 ⟨hb, nb, sb, pb, rfl, hr, hb3⟩
  have HR := Lib.hid (at_start (f := Tk.dig) hr)
  have HG : Hid (Below w.heap.size w w3) := Lib.hid (HB.out.trans ⟨hb3.os, hb3.tape, hb3.output, hb3.size, fun k hk => hb3.block k (Nat.lt_of_lt_of_le hk HB.out.size)⟩)
  clear hr hb3 HC HO HB
  go_wp2_with fail
  go_loopw [5, 18] (fun _ i wr => ∃ k : Nat, i = .int .i64 (k : Int) ∧ k ≤ s.size ∧ At wr w.heap.size hb nb sb pb w1.heap.size 81 5 Tk.dig (Tk.bits (L.take k)) ∧ Below w.heap.size w wr) (fun _ i _ => s.size - (intOf i).toNat)
  case atStart => exact ⟨0, rfl, by omega, HR.out, HG.out⟩
  case round =>
    clear HR HG
    obtain ⟨k, rfl, hk, hA, hB⟩ := hrel
    have HBW := Lib.hid hB
    by_cases hlt : k < s.size
    · have hki : (k : Int) < (s.size : Int) := by omega
      have ht := Tk.bits_take_succ L k (by omega)
      have hsx : L[k]'(by omega) = s[k] := by subst hL; simp; rfl
      rw [hsx] at ht
      obtain ⟨x, hx⟩ : ∃ x, s[k] = x := ⟨_, rfl⟩
      rw [hx] at ht
      have HT := Lib.hid ht
      have HCL := Lib.hid (at_more put_dig (by decide) hA (by rw [Tk.bits_length, List.length_take]; omega) x.toNat 8 x.toNat_lt (by decide))
      have hxw := u64_wrap_nat x.toNat (by have := x.toNat_lt; omega)
      clear hA hB ht hsx
      go_wp2_with fail
      refine HCL.out.mono ?_
      rintro e w4 ⟨rfl, hA2, hg2⟩
      have HA2 := Lib.hid hA2
      have HB2 := Lib.hid (HBW.out.trans hg2.below)
      clear hA2 hg2 HCL
      go_wp2_with fail
      go_roundw
      case rel => exact ⟨k + 1, by go_num, by omega, by rw [HT.out]; exact HA2.out, HB2.out⟩
      case measure => simp [intOf]; omega
    · obtain rfl : k = s.size := by omega
      rw [List.take_of_length_le (by omega)] at hA
      obtain ⟨z, hz⟩ : ∃ z, (5 - 8 * s.size % 5) % 5 = z := ⟨_, rfl⟩
      have hzw : (5 - 8 * (s.size : Int) % 5) % 5 = (z : Int) := by omega
      have HCL := Lib.hid (at_more put_dig (by decide) hA (by rw [Tk.bits_length]; omega) 0 z (Nat.two_pow_pos _) (by omega))
      have HE := Lib.hid (Tk.enc_grps L z (by omega) (by omega))
      clear hA hB
      go_wp2_with fail
      refine HCL.out.mono ?_
      rintro e w4 ⟨rfl, hA2, hg2⟩
      have HB2 := Lib.hid (HBW.out.trans hg2.below)
      obtain ⟨_, v, hv, ho⟩ := hA2.out
      rw [HE.out] at ho
      obtain ⟨A, cc, rfl⟩ := own_form ho
      have hcv := run_own_text ho
      have d0 := hv.cell 0
      simp only [List.getElem?_toArray, List.getElem?_cons_zero] at d0
      clear hA2 hg2 HCL ho hv
      obtain ⟨E, hE⟩ : ∃ E, Tk.enc L = E := ⟨_, rfl⟩
      rw [hE] at hcv d0
      have HEQ := Lib.hid hE
      clear hE HE
      go_wp2_with fail
      go_ret
      exact ⟨by rw [HL.out, HEQ.out]; rfl, HB2.out⟩
end Go.Proofs.YtflgbnolfleicaaGreatDoor
