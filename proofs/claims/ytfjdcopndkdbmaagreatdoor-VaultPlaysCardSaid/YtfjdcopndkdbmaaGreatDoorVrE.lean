/-
  Contract of the document's own Put (layer 11). Condition: rows of at most 1000000 secrets, a channel of 50000 bytes at most.
-/
import Derived.Deep.RegionLaw
import Derived.Test.YtfjdcopndkdbmaaGreatDoorVra
import Derived.Test.YtfjdcopndkdbmaaGreatDoorMinE
namespace Go.Proofs.YtfjdcopndkdbmaaGreatDoor
open Go.RowKit

theorem Row.weak {S T : Nat → Prop} {m : List Va.Sec} {v : Value} {W : World} (h : Row S m v W) (hT : ∀ b, T b → S b) : Row T m v W := by
  obtain ⟨A, c, e, hc, hA⟩ := h
  exact ⟨A, c, e, hc, fun i u hi => by
    obtain ⟨a, h1, h2, h3, h4⟩ := hA i u hi
    exact ⟨a, h1, h2, fun hb => h3 (hT _ hb), h4⟩⟩
/-- An append of secrets to a row of its own, as a step of a statement whose order is open. -/
theorem step_append_secs {S : Nat → Prop} {w : World} {ops : Array Oper} {o : Oper} {a : Act} {K : Act → World → Prop} {Q : Exit → Act → World → Prop} {E : Prop} (hgd : o.guard = none) (s x : Operand)
    (ho : o.op = .call { callee := .builtin .append, args := #[s, x], argTypes := #[22, 22] }) (base : Nat) (m vs r : List Va.Sec) (n k : Nat) (A0 A : Option Addr) (c0 c : Nat) (hr : r = m ++ vs) (hn : r.length = n + k) (hm : m.length = n) (hs : a.eval s = .slice A0 n c0) (hx : a.eval x = .slice A k c)
    (hown : w.ownsRow base 26 6 (.slice A0 n c0) n (secs m)) (hA : Lies S w A (secs vs)) (hlen : r.length ≤ 2000000) (hbase : base ≤ w.heap.size)
    (h : ∀ A' c' w', w'.ownsRow base 26 6 (.slice A' (n + k) c') (n + k) (secs r) → w.grownBy w' (Value.slice A0 n c0).ownBlock → K (a.put o.dst (.slice A' (n + k) c')) w') :
    if Region.wanted o (yielded ops a.tmps) = true then Oper.wp Tryz.prog o a w K Q else E := by
  obtain ⟨i0, hi, hz, hsz, hb⟩ := info_sec
  have hk : vs.length = k := by rw [hr, List.length_append] at hn; omega
  obtain ⟨A', c', w', hrun, ho2, hg⟩ := run_append_rows (P := Tryz.prog) w base 6 (by decide) 22 o.type 26 i0 _ 64 Tryz.underlying22 hi hz hsz hb rfl _ n (secs m) hown A k c (secs vs) (by rw [secs_length, hk]) hA (secs_cell vs) (by unfold maxLen; omega) (by omega) hbase
  rw [← secs_append, ← hr] at ho2
  exact step_append_run hgd s x _ _ ho _ _ _ hs hx hrun (h A' c' w' ho2 hg)
theorem own_none2 (w : World) (base : Nat) (h : base ≤ w.heap.size) : (w.alloc (.cells #[] 26)).ownsRow base 26 6 (.slice (some ⟨w.heap.size, 0, none⟩) 0 0) 0 (secs []) :=
  ⟨rfl, .inr ⟨w.heap.size, 0, #[], rfl, h, Blk.new w 26 #[], Nat.le_refl _, by unfold maxLen; omega, rfl, rfl⟩⟩
theorem blk_new_at {w : World} {g : Nat} {t : TypeId} {cs : Array Value} (h : g = w.heap.size) : Blk (w.alloc (.cells cs t)) g t cs := h ▸ Blk.new w t cs
theorem own_at {w : World} {base g : Nat} (hg : Blk w g 26 #[]) (h : base ≤ g) : w.ownsRow base 26 6 (.slice (some ⟨g, 0, none⟩) 0 0) 0 (secs []) :=
  ⟨rfl, .inr ⟨g, 0, #[], rfl, h, hg, Nat.le_refl _, by unfold maxLen; omega, rfl, rfl⟩⟩
theorem row_of_own {S : Nat → Prop} {w : World} {base n c : Nat} {A : Option Addr} {m : List Va.Sec} (h : w.ownsRow base 26 6 (.slice A n c) n (secs m)) (hn : m.length = n) (hS : ∀ g, base ≤ g → ¬ S g) : Row S m (.slice A n c) w := by
  subst hn
  exact ⟨A, c, rfl, own_cap h, lies_made h hS⟩
theorem lies_blk {w : World} {g : Nat} {s : Va.Sec} (h : Blk w g 26 #[.string s.digest, .int .i64 s.account, .int .i64 s.purpose, .string s.channel, .int .i64 s.expires, .int .i64 s.tries]) : Lies (fun _ => False) w (some ⟨g, 0, none⟩) (secs [s]) := fun j u hj => by
  rw [secs_one] at hj
  refine ⟨_, rfl, h.lt, fun h => h, ?_⟩
  rw [Addr.add_mid, Nat.zero_add, h.cell, ← sec_row, ← Array.getElem?_toList]
  exact hj
def rightS (s : Va.Sec) : Bool := rightB s.digest s.account s.purpose s.channel s.expires s.tries
set_option maxRecDepth 100000 in
set_option maxHeartbeats 4000000 in
theorem rput_any {S : Nat → Prop} (A : Option Addr) (cp : Nat) (l : List Va.Sec) (hl : l.length ≤ 1000000) (hcp : l.length ≤ cp) (s : Va.Sec) (hch : s.channel.size ≤ 50000) (w : World) (hS : ∀ b, S b → b < w.heap.size) (hA : Lies S w A (secs l)) :
    Calls Tryz.prog 30 #[.slice A l.length cp, .agg #[.string s.digest, .int .i64 s.account, .int .i64 s.purpose, .string s.channel, .int .i64 s.expires, .int .i64 s.tries]] w fun e w' => (∃ v, e = .returned (.tuple #[v, .int .i64 ((Va.put (rightS s) l s).2 : Nat)]) ∧ Row S (Va.put (rightS s) l s).1 v w') ∧ Below w.heap.size w w' := by
  have hb0 : Below w.heap.size w (w.alloc (.cells (secC s).toArray 26)) := (Below.refl _ w).alloc (Nat.le_refl _) _
  have hx0 := Blk.new w 26 (secC s).toArray
  have HR := Lib.hid (rright_any s.digest s.account s.purpose s.channel s.expires s.tries hch (w.alloc (.cells (secC s).toArray 26)))
  have hrow : ∀ W, Below w.heap.size w W → Row S l (.slice A l.length cp) W := fun W hW => ⟨A, cp, rfl, hcp, hA.below hW⟩
  have HROW := Lib.hid hrow
  clear hrow
  rw [sec_row] at HR hb0 hx0
  change Hid (Calls _ _ #[.agg #[.string s.digest, .int .i64 s.account, .int .i64 s.purpose, .string s.channel, .int .i64 s.expires, .int .i64 s.tries]] _ fun e w' => e = .returned (.bool (rightS s)) ∧ _) at HR
  generalize rightS s = R at HR ⊢
  cases R with
  | false =>
    rw [Va.put_bad]
    clear hA hx0
    go_enter Tryz.func30, Tryz.ntmps30
    go_wp2_with fail
    refine HR.out.mono ?_
    rintro e w1 ⟨rfl, hb1⟩
    have HB := Lib.hid (hb0.trans (hb1.mono (by simp)))
    clear hb1
    go_wp2_with fail
    go_ret2
    exact ⟨⟨_, rfl, HROW.out _ HB.out⟩, HB.out⟩
  | true =>
    have hp := fun W h => rat_any A cp l hl s.account s.purpose s.channel W (hA.below (w' := W) h)
    cases hpl : Rw.place Va.Sec.key l s.key with
    | some i =>
      obtain ⟨hi, _⟩ := Rw.place_some hpl
      have hput : Va.put true l s = (l.set i s, 0) := by unfold Va.put; rw [if_pos rfl, hpl]
      rw [hput]
      have hW := fun W h => rwith_any A cp l hl i hi s W (hA.below (w' := W) h)
      unfold atI at hp
      rw [show Rw.place Va.Sec.key l (s.account, s.purpose, s.channel) = some i from hpl] at hp
      have HP := Lib.hid hp
      have HW := Lib.hid hW
      have hili : (i : Int) ≥ 0 := by omega
      clear hA hp hW hput hpl
      go_enter Tryz.func30, Tryz.ntmps30
      go_wp2_with fail
      refine HR.out.mono ?_
      rintro e w1 ⟨rfl, hb1⟩
      have hx := hx0.of (hb1.block _ (by simp))
      have hb := hb0.trans (hb1.mono (by simp))
      have HB := Lib.hid hb
      have x0 : w1.cell? ⟨w.heap.size, 0, none⟩ = some (.string s.digest) := (hx.cell 0).trans rfl
      have x1 : w1.cell? ⟨w.heap.size, 1, none⟩ = some (.int .i64 s.account) := (hx.cell 1).trans rfl
      have x2 : w1.cell? ⟨w.heap.size, 2, none⟩ = some (.int .i64 s.purpose) := (hx.cell 2).trans rfl
      have x3 : w1.cell? ⟨w.heap.size, 3, none⟩ = some (.string s.channel) := (hx.cell 3).trans rfl
      have x4 : w1.cell? ⟨w.heap.size, 4, none⟩ = some (.int .i64 s.expires) := (hx.cell 4).trans rfl
      have x5 : w1.cell? ⟨w.heap.size, 5, none⟩ = some (.int .i64 s.tries) := (hx.cell 5).trans rfl
      clear hb hb1 hb0 hx hx0
      go_wp2_with fail
      refine (HP.out w1 HB.out).mono ?_
      rintro e w2 ⟨rfl, rfl⟩
      go_wp2_with fail
      refine (HW.out w2 HB.out).mono ?_
      rintro e w3 ⟨⟨v, rfl, hv⟩, hb3⟩
      have HV := Lib.hid hv
      have HB3 := Lib.hid (HB.out.trans (hb3.mono HB.out.size))
      clear hv hb3
      go_wp2_with fail
      go_ret2
      exact ⟨⟨_, rfl, HV.out.weak (fun b hb => Nat.lt_of_lt_of_le (hS b hb) HB.out.size)⟩, HB3.out⟩
    | none =>
      unfold atI at hp
      rw [show Rw.place Va.Sec.key l (s.account, s.purpose, s.channel) = none from hpl] at hp
      have HP := Lib.hid hp
      by_cases h40 : 40 ≤ l.length
      · have hput : Va.put true l s = (l, 15) := by unfold Va.put; rw [if_pos rfl, hpl]; exact if_pos h40
        rw [hput]
        have h40i : (40 : Int) ≤ (l.length : Int) := by omega
        clear hA hp hput hpl
        go_enter Tryz.func30, Tryz.ntmps30
        go_wp2_with fail
        refine HR.out.mono ?_
        rintro e w1 ⟨rfl, hb1⟩
        have hx := hx0.of (hb1.block _ (by simp))
        have hb := hb0.trans (hb1.mono (by simp))
        have HB := Lib.hid hb
        have x1 : w1.cell? ⟨w.heap.size, 1, none⟩ = some (.int .i64 s.account) := (hx.cell 1).trans rfl
        have x2 : w1.cell? ⟨w.heap.size, 2, none⟩ = some (.int .i64 s.purpose) := (hx.cell 2).trans rfl
        have x3 : w1.cell? ⟨w.heap.size, 3, none⟩ = some (.string s.channel) := (hx.cell 3).trans rfl
        clear hb hb1 hb0 hx hx0
        go_wp2_with fail
        refine (HP.out w1 HB.out).mono ?_
        rintro e w2 ⟨rfl, rfl⟩
        go_wp2_with fail
        go_ret2
        exact ⟨⟨_, rfl, HROW.out _ HB.out⟩, HB.out⟩
      · have hput : Va.put true l s = (l ++ [s], 0) := by unfold Va.put; rw [if_pos rfl, hpl]; exact if_neg h40
        rw [hput]
        have h40i : ¬ (40 : Int) ≤ (l.length : Int) := by omega
        have hlen : (l ++ [s]).length = l.length + 1 := by simp
        have HA := Lib.hid hA
        clear hA hp hput hpl
        go_enter Tryz.func30, Tryz.ntmps30
        go_wp2_with fail
        refine HR.out.mono ?_
        rintro e w1 ⟨rfl, hb1⟩
        have hx := hx0.of (hb1.block _ (by simp))
        have hb := hb0.trans (hb1.mono (by simp))
        have HB := Lib.hid hb
        have HX := Lib.hid hx
        have x0 : w1.cell? ⟨w.heap.size, 0, none⟩ = some (.string s.digest) := (hx.cell 0).trans rfl
        have x1 : w1.cell? ⟨w.heap.size, 1, none⟩ = some (.int .i64 s.account) := (hx.cell 1).trans rfl
        have x2 : w1.cell? ⟨w.heap.size, 2, none⟩ = some (.int .i64 s.purpose) := (hx.cell 2).trans rfl
        have x3 : w1.cell? ⟨w.heap.size, 3, none⟩ = some (.string s.channel) := (hx.cell 3).trans rfl
        have x4 : w1.cell? ⟨w.heap.size, 4, none⟩ = some (.int .i64 s.expires) := (hx.cell 4).trans rfl
        have x5 : w1.cell? ⟨w.heap.size, 5, none⟩ = some (.int .i64 s.tries) := (hx.cell 5).trans rfl
        clear hb hb1 hb0 hx hx0
        go_wp2_with fail
        refine (HP.out w1 HB.out).mono ?_
        rintro e w2 ⟨rfl, rfl⟩
        go_wp2_with fail
        have hz := HX.out.alloc (.cells #[] 26)
        have z0 : (w2.alloc (.cells #[] 26)).cell? ⟨w.heap.size, 0, none⟩ = some (.string s.digest) := (hz.cell 0).trans rfl
        have z1 : (w2.alloc (.cells #[] 26)).cell? ⟨w.heap.size, 1, none⟩ = some (.int .i64 s.account) := (hz.cell 1).trans rfl
        have z2 : (w2.alloc (.cells #[] 26)).cell? ⟨w.heap.size, 2, none⟩ = some (.int .i64 s.purpose) := (hz.cell 2).trans rfl
        have z3 : (w2.alloc (.cells #[] 26)).cell? ⟨w.heap.size, 3, none⟩ = some (.string s.channel) := (hz.cell 3).trans rfl
        have z4 : (w2.alloc (.cells #[] 26)).cell? ⟨w.heap.size, 4, none⟩ = some (.int .i64 s.expires) := (hz.cell 4).trans rfl
        have z5 : (w2.alloc (.cells #[] 26)).cell? ⟨w.heap.size, 5, none⟩ = some (.int .i64 s.tries) := (hz.cell 5).trans rfl
        clear hz
        have HLT := Lib.hid (show w.heap.size < w2.heap.size from HX.out.lt)
        go_region_law (first
          | (refine step_append_secs rfl (.tmp 31) (.tmp 32) rfl w2.heap.size [] l l 0 l.length (some ⟨w2.heap.size, 0, none⟩) A 0 cp rfl (by simp) rfl rfl rfl (own_at (by repeat (first | with_reducible exact blk_new_at (by simp) | with_reducible refine Blk.alloc ?_ _ | with_reducible refine Blk.drew ?_)) (by omega)) (HA.out.below (HB.out.trans ((show Below w2.heap.size w2 _ from (by repeat (first | with_reducible exact Below.refl _ _ | with_reducible refine Below.alloc ?_ (by simp) _ | with_reducible refine Below.drew ?_))).mono HB.out.size))) (by omega) (by simp <;> omega) ?_
             intro A1 c1 w3 ho1 hg1
             have hb1 : Below w2.heap.size w2 w3 := (show Below w2.heap.size w2 _ from (by repeat (first | with_reducible exact Below.refl _ _ | with_reducible refine Below.alloc ?_ (by simp) _ | with_reducible refine Below.drew ?_))).grown hg1 (by simp <;> omega) (fun k hk => by injection hk with hk; rw [← hk]; show _ ≤ w2.heap.size; omega)
             have hy := HX.out.of (hb1.block _ HLT.out)
             have y0 : w3.cell? ⟨w.heap.size, 0, none⟩ = some (.string s.digest) := (hy.cell 0).trans rfl
             have y1 : w3.cell? ⟨w.heap.size, 1, none⟩ = some (.int .i64 s.account) := (hy.cell 1).trans rfl
             have y2 : w3.cell? ⟨w.heap.size, 2, none⟩ = some (.int .i64 s.purpose) := (hy.cell 2).trans rfl
             have y3 : w3.cell? ⟨w.heap.size, 3, none⟩ = some (.string s.channel) := (hy.cell 3).trans rfl
             have y4 : w3.cell? ⟨w.heap.size, 4, none⟩ = some (.int .i64 s.expires) := (hy.cell 4).trans rfl
             have y5 : w3.cell? ⟨w.heap.size, 5, none⟩ = some (.int .i64 s.tries) := (hy.cell 5).trans rfl
             have HL1 := Lib.hid (lies_blk (s := s) (Blk.of (show Blk _ (w2.heap.size + 1) _ _ from (by first | with_reducible exact blk_new_at (by simp) | with_reducible exact Blk.drew (blk_new_at (by simp)))) (hg1.block (w2.heap.size + 1) (by simp <;> omega) (by intro h; injection h with h; have : w2.heap.size + 1 = w2.heap.size := h; omega))))
             rw [Nat.zero_add] at ho1
             have HO1 := Lib.hid ho1
             have HB1 := Lib.hid hb1
             clear ho1 hg1 hb1 hy)
          | (refine step_append_secs rfl (.tmp 31) (.tmp 32) rfl w2.heap.size [] l l 0 l.length (some ⟨w2.heap.size + 1, 0, none⟩) A 0 cp rfl (by simp) rfl rfl rfl (own_at (by repeat (first | with_reducible exact blk_new_at (by simp) | with_reducible refine Blk.alloc ?_ _ | with_reducible refine Blk.drew ?_)) (by omega)) (HA.out.below (HB.out.trans ((show Below w2.heap.size w2 _ from (by repeat (first | with_reducible exact Below.refl _ _ | with_reducible refine Below.alloc ?_ (by simp) _ | with_reducible refine Below.drew ?_))).mono HB.out.size))) (by omega) (by simp <;> omega) ?_
             intro A1 c1 w3 ho1 hg1
             have hb1 : Below w2.heap.size w2 w3 := (show Below w2.heap.size w2 _ from (by repeat (first | with_reducible exact Below.refl _ _ | with_reducible refine Below.alloc ?_ (by simp) _ | with_reducible refine Below.drew ?_))).grown hg1 (by simp <;> omega) (fun k hk => by injection hk with hk; rw [← hk]; show _ ≤ w2.heap.size + 1; omega)
             have hy := HX.out.of (hb1.block _ HLT.out)
             have y0 : w3.cell? ⟨w.heap.size, 0, none⟩ = some (.string s.digest) := (hy.cell 0).trans rfl
             have y1 : w3.cell? ⟨w.heap.size, 1, none⟩ = some (.int .i64 s.account) := (hy.cell 1).trans rfl
             have y2 : w3.cell? ⟨w.heap.size, 2, none⟩ = some (.int .i64 s.purpose) := (hy.cell 2).trans rfl
             have y3 : w3.cell? ⟨w.heap.size, 3, none⟩ = some (.string s.channel) := (hy.cell 3).trans rfl
             have y4 : w3.cell? ⟨w.heap.size, 4, none⟩ = some (.int .i64 s.expires) := (hy.cell 4).trans rfl
             have y5 : w3.cell? ⟨w.heap.size, 5, none⟩ = some (.int .i64 s.tries) := (hy.cell 5).trans rfl
             have HL1 := Lib.hid (lies_blk (s := s) (Blk.of (show Blk _ (w2.heap.size) _ _ from (by first | with_reducible exact Blk.alloc (blk_new_at rfl) _ | with_reducible exact Blk.drew (Blk.alloc (blk_new_at rfl) _) | with_reducible exact Blk.drew (Blk.alloc (Blk.drew (blk_new_at rfl)) _) | with_reducible exact Blk.alloc (Blk.drew (blk_new_at rfl)) _)) (hg1.block (w2.heap.size) (by simp <;> omega) (by intro h; injection h with h; have : w2.heap.size = w2.heap.size + 1 := h; omega))))
             rw [Nat.zero_add] at ho1
             have HO1 := Lib.hid ho1
             have HB1 := Lib.hid hb1
             clear ho1 hg1 hb1 hy)
          | (refine step_append_secs rfl (.tmp 31) (.tmp 32) rfl w2.heap.size [] l l 0 l.length (some ⟨w2.heap.size, 0, none⟩) A 0 cp rfl (by simp) rfl rfl rfl (own_at (by repeat (first | with_reducible exact blk_new_at (by simp) | with_reducible refine Blk.alloc ?_ _ | with_reducible refine Blk.drew ?_)) (by omega)) (HA.out.below (HB.out.trans ((show Below w2.heap.size w2 _ from (by repeat (first | with_reducible exact Below.refl _ _ | with_reducible refine Below.alloc ?_ (by simp) _ | with_reducible refine Below.drew ?_))).mono HB.out.size))) (by omega) (by simp <;> omega) ?_
             intro A1 c1 w3 ho1 hg1
             have hb1 : Below w2.heap.size w2 w3 := (show Below w2.heap.size w2 _ from (by repeat (first | with_reducible exact Below.refl _ _ | with_reducible refine Below.alloc ?_ (by simp) _ | with_reducible refine Below.drew ?_))).grown hg1 (by simp <;> omega) (fun k hk => by injection hk with hk; rw [← hk]; show _ ≤ w2.heap.size; omega)
             have hy := HX.out.of (hb1.block _ HLT.out)
             have y0 : w3.cell? ⟨w.heap.size, 0, none⟩ = some (.string s.digest) := (hy.cell 0).trans rfl
             have y1 : w3.cell? ⟨w.heap.size, 1, none⟩ = some (.int .i64 s.account) := (hy.cell 1).trans rfl
             have y2 : w3.cell? ⟨w.heap.size, 2, none⟩ = some (.int .i64 s.purpose) := (hy.cell 2).trans rfl
             have y3 : w3.cell? ⟨w.heap.size, 3, none⟩ = some (.string s.channel) := (hy.cell 3).trans rfl
             have y4 : w3.cell? ⟨w.heap.size, 4, none⟩ = some (.int .i64 s.expires) := (hy.cell 4).trans rfl
             have y5 : w3.cell? ⟨w.heap.size, 5, none⟩ = some (.int .i64 s.tries) := (hy.cell 5).trans rfl
             rw [Nat.zero_add] at ho1
             have HO1 := Lib.hid ho1
             have HB1 := Lib.hid hb1
             clear ho1 hg1 hb1 hy)
          | (refine step_append_secs rfl (.tmp 33) (.tmp 35) rfl w2.heap.size l [s] (l ++ [s]) l.length 1 A1 (some ⟨w2.heap.size, 0, none⟩) c1 1 rfl hlen rfl rfl rfl HO1.out HL1.out (by omega) (by have := HB1.out.size; first | omega | (simp <;> omega)) ?_
             intro A3 c3 w4 ho3 hg3
             have HO3 := Lib.hid ho3
             have HB3 := Lib.hid ((show Below w2.heap.size w2 _ from (by repeat (first | with_reducible exact HB1.out | with_reducible refine Below.alloc ?_ (by have := HB1.out.size; first | omega | (simp <;> omega)) _ | with_reducible refine Below.drew ?_))).grown hg3 (by have := HB1.out.size; first | omega | (simp <;> omega)) (fun k hk => own_base HO1.out hk))
             clear ho3 hg3)
          | (refine step_append_secs rfl (.tmp 33) (.tmp 35) rfl w2.heap.size l [s] (l ++ [s]) l.length 1 A1 (some ⟨w3.heap.size, 0, none⟩) c1 1 rfl hlen rfl rfl rfl (HO1.out.alloc _) (lies_blk (s := s) (by repeat (first | with_reducible exact blk_new_at (by simp) | with_reducible refine Blk.alloc ?_ _ | with_reducible refine Blk.drew ?_))) (by omega) (by have := HB1.out.size; first | omega | (simp <;> omega)) ?_
             intro A3 c3 w4 ho3 hg3
             have HO3 := Lib.hid ho3
             have HB3 := Lib.hid ((show Below w2.heap.size w2 _ from (by repeat (first | with_reducible exact HB1.out | with_reducible refine Below.alloc ?_ (by have := HB1.out.size; first | omega | (simp <;> omega)) _ | with_reducible refine Below.drew ?_))).grown hg3 (by have := HB1.out.size; first | omega | (simp <;> omega)) (fun k hk => own_base HO1.out hk))
             clear ho3 hg3)
          | (refine step_append_secs rfl (.tmp 33) (.tmp 35) rfl w2.heap.size l [s] (l ++ [s]) l.length 1 A1 (some ⟨w2.heap.size + 1, 0, none⟩) c1 1 rfl hlen rfl rfl rfl HO1.out HL1.out (by omega) (by have := HB1.out.size; first | omega | (simp <;> omega)) ?_
             intro A3 c3 w4 ho3 hg3
             have HO3 := Lib.hid ho3
             have HB3 := Lib.hid ((show Below w2.heap.size w2 _ from (by repeat (first | with_reducible exact HB1.out | with_reducible refine Below.alloc ?_ (by have := HB1.out.size; first | omega | (simp <;> omega)) _ | with_reducible refine Below.drew ?_))).grown hg3 (by have := HB1.out.size; first | omega | (simp <;> omega)) (fun k hk => own_base HO1.out hk))
             clear ho3 hg3))
        all_goals go_wp2_with fail
        all_goals go_ret2
        all_goals exact ⟨⟨_, rfl, row_of_own HO3.out hlen (fun g hg h => by have h1 := hS g h; have h2 := HLT.out; omega)⟩, HB.out.trans (HB3.out.mono HB.out.size)⟩
end Go.Proofs.YtfjdcopndkdbmaaGreatDoor
