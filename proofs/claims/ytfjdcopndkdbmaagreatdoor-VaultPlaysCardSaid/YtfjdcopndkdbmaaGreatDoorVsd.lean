/-
  Contracts of vault.keyOf, vault.place, vault.expired. Condition: rows of at most 1000000 secrets.
  Contracts of vault.place, vault.replacer and vault.without; the closures of Drop and Sweep. Condition: rows of at most 1000000 secrets.
  Contract of the closure that vault.replacer makes. Condition: rows of at most 1000000 secrets.
-/
import Derived.Laws.StructEq
import Derived.BigQuiet
import Derived.Test.YtfjdcopndkdbmaaGreatDoorVsa
import Derived.Test.YtfjdcopndkdbmaaGreatDoorAnyI

namespace Go.Proofs.YtfjdcopndkdbmaaGreatDoor
open Go.RowKit

theorem blk_new_s {w : World} {g : Nat} {t : TypeId} {cs : Array Value} (h : g = w.heap.size) : Blk (w.alloc (.cells cs t)) g t cs := h ▸ Blk.new w t cs
theorem key_size : (Tryz.prog.info? 80).map (·.size) = some 3 := by kernel_rfl
theorem Blk.three {w : World} {g : Nat} {t : TypeId} {a b c : Value} (H : Blk w g t #[a, b, c]) (u v x : Value) :
    Blk (((w.setCell ⟨g, 0, none⟩ u).setCell ⟨g, 1, none⟩ v).setCell ⟨g, 2, none⟩ x) g t #[u, v, x] := by
  have := (((H.set_ 0 u).set_ 1 v).set_ 2 x)
  simpa using this
theorem below_three {B : Nat} {w0 w : World} {g : Nat} (h : Below B w0 w) (hg : B ≤ g) (u v x : Value) :
    Below B w0 (((w.setCell ⟨g, 0, none⟩ u).setCell ⟨g, 1, none⟩ v).setCell ⟨g, 2, none⟩ x) :=
  (((h.setCell (p := ⟨g, 0, none⟩) hg _).setCell (p := ⟨g, 1, none⟩) hg _).setCell (p := ⟨g, 2, none⟩) hg _)
set_option maxRecDepth 100000 in
set_option maxHeartbeats 2000000 in
theorem key_any (s : Va.Sec) (w : World) :
    Calls Tryz.prog 38 #[.agg #[.string s.digest, .int .i64 s.account, .int .i64 s.purpose, .string s.channel, .int .i64 s.expires, .int .i64 s.tries]] w fun e w' => e = .returned (.agg #[.int .i64 s.account, .int .i64 s.purpose, .string s.channel]) ∧ Below w.heap.size w w' := by
  go_enter Tryz.func38, Tryz.ntmps38
  go_wp2_with fail
  refine bodyPost_ret (results_cell_row (P := Tryz.prog) rfl _ _ (w.heap.size + 1) 80 _ (0, 0) _ rfl (blk_new_s (by simp)) Tryz.underlying80 rfl key_size) rfl ?_
  exact ⟨rfl, ((Below.refl _ w).alloc (Nat.le_refl _) _).alloc (by simp) _⟩
theorem key_eql (a p a' p' : Int) (c c' : ByteArray) (r : Bool) (hr : decide (((a, p, c) : Va.Key) = (a', p', c')) = r) (W : World) :
    (binOp .eql 80 (.agg #[.int .i64 a, .int .i64 p, .string c]) (.agg #[.int .i64 a', .int .i64 p', .string c'])).run Tryz.prog W = .ok (.bool r) W := by
  by_cases h1 : a = a'
  · have b1 : (a == a') = true := by simpa using h1
    by_cases h2 : p = p'
    · have b2 : (p == p') = true := by simpa using h2
      by_cases h3 : c = c'
      · have b3 : (c.toList == c'.toList) = true := by rw [h3]; simp
        rw [decide_eq_true (by rw [h1, h2, h3])] at hr
        subst hr
        clear h1 h2 h3
        go_simp
      · have b3 : (c.toList == c'.toList) = false := str_ne h3
        rw [decide_eq_false (by intro e; injection e with _ e; injection e with _ e; exact h3 e)] at hr
        subst hr
        clear h1 h2 h3
        go_simp
    · have b2 : (p == p') = false := by simpa using h2
      rw [decide_eq_false (by intro e; injection e with _ e; injection e with e _; exact h2 e)] at hr
      subst hr
      clear h1 h2
      go_simp
  · have b1 : (a == a') = false := by simpa using h1
    rw [decide_eq_false (by intro e; injection e with e _; exact h1 e)] at hr
    subst hr
    clear h1
    go_simp
/-- What each operation of the drawn statement leaves. -/
def Vq1 (s : Va.Sec) (a : Int) (p : Int) (c : ByteArray) (r : Bool) : Nat → Value → Prop
  | 0, v => v = .agg #[.string s.digest, .int .i64 s.account, .int .i64 s.purpose, .string s.channel, .int .i64 s.expires, .int .i64 s.tries]
  | 1, v => v = .agg #[.int .i64 s.account, .int .i64 s.purpose, .string s.channel]
  | 2, v => v = .agg #[.int .i64 a, .int .i64 p, .string c]
  | 3, v => v = .bool r
  | 4, v => v = .bool r
  | _, _ => True
set_option maxRecDepth 100000 in
set_option maxHeartbeats 2000000 in
theorem place1_any (s : Va.Sec) (b : Nat) (k : Va.Key) (w : World) (hk : Blk w b 80 #[.int .i64 k.1, .int .i64 k.2.1, .string k.2.2]) :
    Calls Tryz.prog 63 #[.agg #[.string s.digest, .int .i64 s.account, .int .i64 s.purpose, .string s.channel, .int .i64 s.expires, .int .i64 s.tries], .pointer (some ⟨b, 0, none⟩)] w fun e w' => e = .returned (.bool (decide (s.key = k))) ∧ Below w.heap.size w w' := by
  obtain ⟨a, p, c⟩ := k
  obtain ⟨r, hr⟩ : ∃ r, decide (s.key = (a, p, c)) = r := ⟨_, rfl⟩
  rw [hr]
  have HEQ := Lib.hid (fun W => key_eql s.account s.purpose a p s.channel c r hr W)
  have HK := Lib.hid (fun W => key_any s W)
  have hb0 : Below w.heap.size w (w.alloc (.cells (secC s).toArray 26)) := (Below.refl _ w).alloc (Nat.le_refl _) _
  have hx0 := Blk.new w 26 (secC s).toArray
  have hk0 := hk.of (hb0.block _ hk.lt)
  simp only at hk0
  rw [sec_row] at hb0 hx0 hk0
  clear hr hk
  go_enter Tryz.func63, Tryz.ntmps63
  go_upto_region 1 with fail
  generalize World.alloc w _ = W0 at hb0 hx0 hk0 ⊢
  have HB0 := Lib.hid hb0
  have HX0 := Lib.hid hx0
  have HK0 := Lib.hid hk0
  have heq := HEQ.out
  clear hb0 hx0 hk0
  obtain ⟨b0, hb0⟩ : ∃ b, w.heap.size = b := ⟨_, rfl⟩
  rw [hb0] at HX0
  simp only [hb0]
  refine wp_region_some (by kernel_rfl) (fun i v _ => Vq1 s a p c r i v) (fun _ _ W => Gc W0 W) (fun w w' => Below w.heap.size w w') (by kernel_rfl) (by kernel_rfl) 8 rfl (by kernel_rfl) (fun _ _ _ _ h _ => by exact h) (fun _ => (Below.refl _ _)) (Gc.start W0) ?_ ?_
  · intro i o ho listed x W hs hdep hun hg hk
    match i, ho with
    | 0, ho =>
      cases ho
      have q2 : x.tmps[2]?.getD undef = .pointer (some ⟨b0, 0, none⟩) := hk.fix 2 (by kernel_rfl)
      refine .inl ⟨wanted_plain rfl, ?_⟩
      refine wp_value (run_load_op _ _ rfl _ ((eval_slot x 2).trans q2) _ _ ((HX0.out.of (hg.below.block _ HX0.out.lt))) _ Tryz.underlying26 rfl sec_size) ⟨_, rfl, rfl, (Below.refl _ _), hg⟩
    | 1, ho =>
      cases ho
      have q4 : x.tmps[4]?.getD undef = .agg #[.string s.digest, .int .i64 s.account, .int .i64 s.purpose, .string s.channel, .int .i64 s.expires, .int .i64 s.tries] := hk.dep 0 4 (by kernel_rfl) (by kernel_rfl)
      refine .inl ⟨wanted_plain rfl, ?_⟩
      refine wp_enter (f := 38) (args := #[.agg #[.string s.digest, .int .i64 s.account, .int .i64 s.purpose, .string s.channel, .int .i64 s.expires, .int .i64 s.tries]]) (w' := W) (S := fun v w1 => v = .agg #[.int .i64 s.account, .int .i64 s.purpose, .string s.channel] ∧ Below W.heap.size W w1) ?_ ((HK.out W).mono fun e w' h => ⟨_, h.1, rfl, h.2⟩) ?_
      · go_simp
      · rintro v W' ⟨rfl, hb⟩
        exact ⟨_, rfl, rfl, hb, hg.calls hb⟩
    | 2, ho =>
      cases ho
      have q1 : x.tmps[1]?.getD undef = .pointer (some ⟨b, 0, none⟩) := hk.fix 1 (by kernel_rfl)
      refine .inl ⟨wanted_plain rfl, ?_⟩
      refine wp_value (run_load_op _ _ rfl _ ((eval_slot x 1).trans q1) _ _ ((HK0.out.of (hg.below.block _ HK0.out.lt))) _ Tryz.underlying80 rfl key_size) ⟨_, rfl, rfl, (Below.refl _ _), hg⟩
    | 3, ho =>
      cases ho
      have q5 : x.tmps[5]?.getD undef = .agg #[.int .i64 s.account, .int .i64 s.purpose, .string s.channel] := hk.dep 1 5 (by kernel_rfl) (by kernel_rfl)
      have q6 : x.tmps[6]?.getD undef = .agg #[.int .i64 a, .int .i64 p, .string c] := hk.dep 2 6 (by kernel_rfl) (by kernel_rfl)
      refine .inl ⟨wanted_plain rfl, ?_⟩
      refine wp_value (v := .bool r) (w' := W) ?_ ⟨_, rfl, rfl, (Below.refl _ _), hg⟩
      go_simp
    | 4, ho =>
      cases ho
      have q7 : x.tmps[7]?.getD undef = .bool r := hk.dep 3 7 (by kernel_rfl) (by kernel_rfl)
      refine .inl ⟨wanted_plain rfl, ?_⟩
      refine wp_value (v := .bool r) (w' := W) ?_ ⟨_, rfl, rfl, (Below.refl _ _), hg⟩
      go_simp
    | _ + 5, ho => cases ho
  intro listed x w3 hall hg hk
  have e4 : x.tmps[4]?.getD undef = .agg #[.string s.digest, .int .i64 s.account, .int .i64 s.purpose, .string s.channel, .int .i64 s.expires, .int .i64 s.tries] := hk.last 0 4 (by decide) (by kernel_rfl)
  have e5 : x.tmps[5]?.getD undef = .agg #[.int .i64 s.account, .int .i64 s.purpose, .string s.channel] := hk.last 1 5 (by decide) (by kernel_rfl)
  have e6 : x.tmps[6]?.getD undef = .agg #[.int .i64 a, .int .i64 p, .string c] := hk.last 2 6 (by decide) (by kernel_rfl)
  have e7 : x.tmps[7]?.getD undef = .bool r := hk.last 3 7 (by decide) (by kernel_rfl)
  have e3 : x.tmps[3]?.getD undef = .bool r := hk.last 4 3 (by decide) (by kernel_rfl)
  have hB := Lib.hid hg.below
  have hx := hk.act [4, 5, 6, 7, 3] (by kernel_rfl)
  clear hk hg hall
  simp only [List.foldl_cons, List.foldl_nil, e4, e5, e6, e7, e3] at hx
  clear e4 e5 e6 e7 e3
  subst hx
  simp only [Act.put, List.setIfInBounds_toArray, List.set_cons_succ, List.set_cons_zero]
  have HB3 := Lib.hid (HB0.out.trans (hB.out.mono HB0.out.size))
  clear hB

  go_wp2_with fail
  go_ret
  exact ⟨rfl, HB3.out⟩
set_option maxRecDepth 100000 in
set_option maxHeartbeats 2000000 in
theorem expired_any (s : Va.Sec) (now : Int) (w : World) :
    Calls Tryz.prog 44 #[.agg #[.string s.digest, .int .i64 s.account, .int .i64 s.purpose, .string s.channel, .int .i64 s.expires, .int .i64 s.tries], .int .i64 now] w fun e w' => e = .returned (.bool (decide (s.expires ≤ now))) ∧ Below w.heap.size w w' := by
  go_enter Tryz.func44, Tryz.ntmps44
  go_wp2_with fail
  go_ret
  exact ⟨rfl, (Below.refl _ w).alloc (Nat.le_refl _) _⟩
end Go.Proofs.YtfjdcopndkdbmaaGreatDoor

namespace Go.Proofs.YtfjdcopndkdbmaaGreatDoor
open Go.RowKit

theorem enter_place : ∀ (args : Array Value) (W : World), (callFunc 63 args).run Tryz.prog W = .ok (.enter 63 args) W := fun args W => by go_simp
set_option maxRecDepth 100000 in
set_option maxHeartbeats 2000000 in
theorem place_any {S : Nat → Prop} (A : Option Addr) (cp : Nat) (l : List Va.Sec) (hl : l.length ≤ 1000000) (a p : Int) (c : ByteArray) (w : World) (hA : Lies S w A (secs l)) :
    Calls Tryz.prog 37 #[.slice A l.length cp, .agg #[.int .i64 a, .int .i64 p, .string c]] w fun e w' => e = .returned (.int .i64 (atI l (a, p, c))) ∧ Below w.heap.size w w' := by
  have hb0 : Below w.heap.size w (w.alloc (.cells #[.int .i64 a, .int .i64 p, .string c] 80)) := (Below.refl _ w).alloc (Nat.le_refl _) _
  have hk0 := Blk.new w 80 #[.int .i64 a, .int .i64 p, .string c]
  have hT : Tells 63 #[.pointer (some ⟨w.heap.size, 0, none⟩)] (fun s => decide (s.key = (a, p, c))) (w.alloc (.cells #[.int .i64 a, .int .i64 p, .string c] 80)) :=
    ⟨enter_place, fun W s hW => place1_any s w.heap.size (a, p, c) W (hk0.of (hW.block _ hk0.lt))⟩
  have hI := sindex_any (S := S) _ _ _ _ hT A cp l hl (w.alloc (.cells #[.int .i64 a, .int .i64 p, .string c] 80)) (Below.refl _ _) (hA.below hb0)
  have HI := Lib.hid hI
  have HB0 := Lib.hid hb0
  clear hI hT hk0 hb0 hA
  go_enter Tryz.func37, Tryz.ntmps37
  go_wp2_with fail
  refine HI.out.mono ?_
  rintro e w1 ⟨rfl, hb⟩
  have HB := Lib.hid (HB0.out.trans (hb.mono HB0.out.size))
  clear hb
  go_wp2_with fail
  go_ret
  exact ⟨rfl, HB.out⟩
set_option maxRecDepth 100000 in
set_option maxHeartbeats 2000000 in
/-- The function value that replacer makes: its boxes hold the row and the place. -/
theorem replacer_any (A : Option Addr) (cp n i : Nat) (w : World) :
    Calls Tryz.prog 39 #[.slice A n cp, .int .i64 (i : Int)] w fun e w' => (∃ b c, e = .returned (.func (.func 64) #[] #[.pointer (some ⟨b, 0, none⟩), .pointer (some ⟨c, 0, none⟩)]) ∧ Blk w' b 22 #[.slice A n cp] ∧ Blk w' c 3 #[.int .i64 (i : Int)]) ∧ Below w.heap.size w w' := by
  go_enter Tryz.func39, Tryz.ntmps39
  go_wp2_with fail
  go_ret
  exact ⟨⟨_, _, rfl, (Blk.new w _ _).alloc _, blk_new_s (by simp)⟩, ((Below.refl _ w).alloc (Nat.le_refl _) _).alloc (by simp) _⟩
/-- What Drop strikes, and what Sweep does. -/
def dropQ (a p : Int) (s : Va.Sec) : Bool := decide (s.account = a) && (decide (p = 0) || decide (s.purpose = p))
def sweepQ (now : Int) (s : Va.Sec) : Bool := decide (s.expires ≤ now)
set_option maxRecDepth 100000 in
set_option maxHeartbeats 2000000 in
theorem drop1_any (s : Va.Sec) (b c : Nat) (a p : Int) (w : World) (hb : Blk w b 3 #[.int .i64 a]) (hc : Blk w c 3 #[.int .i64 p]) :
    Calls Tryz.prog 51 #[.agg #[.string s.digest, .int .i64 s.account, .int .i64 s.purpose, .string s.channel, .int .i64 s.expires, .int .i64 s.tries], .pointer (some ⟨b, 0, none⟩), .pointer (some ⟨c, 0, none⟩)] w fun e w' => e = .returned (.bool (dropQ a p s)) ∧ Below w.heap.size w w' := by
  have hb0 : Below w.heap.size w (w.alloc (.cells (secC s).toArray 26)) := (Below.refl _ w).alloc (Nat.le_refl _) _
  have hb1 := hb.of (hb0.block _ hb.lt)
  have hc1 := hc.of (hb0.block _ hc.lt)
  rw [sec_row] at hb0 hb1 hc1
  have b0 : World.cell? _ ⟨b, 0, none⟩ = some (.int .i64 a) := (hb1.cell 0).trans rfl
  have c0 : World.cell? _ ⟨c, 0, none⟩ = some (.int .i64 p) := (hc1.cell 0).trans rfl
  have HB0 := Lib.hid hb0
  obtain ⟨r, hr⟩ : ∃ r, dropQ a p s = r := ⟨_, rfl⟩
  rw [hr]
  unfold dropQ at hr
  clear hb hc hb1 hc1 hb0
  by_cases h1 : s.account = a
  · have e1 : (s.account == a) = true := by simpa using h1
    by_cases h2 : p = 0
    · have e2 : (p == 0) = true := by simpa using h2
      obtain rfl : r = true := by rw [← hr]; simp [h1, h2]
      clear hr h1 h2
      go_enter Tryz.func51, Tryz.ntmps51
      go_wp2_with fail
      go_ret
      exact ⟨rfl, HB0.out⟩
    · have e2 : (p == 0) = false := by simpa using h2
      obtain ⟨r2, hr2⟩ : ∃ r2, (s.purpose == p) = r2 := ⟨_, rfl⟩
      obtain rfl : r = r2 := by rw [← hr, ← hr2]; simp [h1, h2]; rfl
      clear hr h1 h2
      go_enter Tryz.func51, Tryz.ntmps51
      go_wp2_with fail
      go_ret
      exact ⟨rfl, HB0.out⟩
  · have e1 : (s.account == a) = false := by simpa using h1
    obtain rfl : r = false := by rw [← hr]; simp [h1]
    clear hr h1
    go_enter Tryz.func51, Tryz.ntmps51
    go_wp2_with fail
    go_ret
    exact ⟨rfl, HB0.out⟩
set_option maxRecDepth 100000 in
set_option maxHeartbeats 2000000 in
theorem sweep1_any (s : Va.Sec) (b : Nat) (now : Int) (w : World) (hb : Blk w b 2 #[.int .i64 now]) :
    Calls Tryz.prog 52 #[.agg #[.string s.digest, .int .i64 s.account, .int .i64 s.purpose, .string s.channel, .int .i64 s.expires, .int .i64 s.tries], .pointer (some ⟨b, 0, none⟩)] w fun e w' => e = .returned (.bool (sweepQ now s)) ∧ Below w.heap.size w w' := by
  have hb0 : Below w.heap.size w (w.alloc (.cells (secC s).toArray 26)) := (Below.refl _ w).alloc (Nat.le_refl _) _
  have hb1 := hb.of (hb0.block _ hb.lt)
  rw [sec_row] at hb0 hb1
  have b0 : World.cell? _ ⟨b, 0, none⟩ = some (.int .i64 now) := (hb1.cell 0).trans rfl
  have HB0 := Lib.hid hb0
  have HE := Lib.hid (fun W => expired_any s now W)
  clear hb hb1 hb0
  unfold sweepQ
  go_enter Tryz.func52, Tryz.ntmps52
  go_wp2_with fail
  refine (HE.out _).mono ?_
  rintro e w1 ⟨rfl, hb⟩
  have HB := Lib.hid (HB0.out.trans (hb.mono HB0.out.size))
  clear hb
  go_wp2_with fail
  go_ret
  exact ⟨rfl, HB.out⟩
set_option maxRecDepth 100000 in
set_option maxHeartbeats 2000000 in
theorem without_any {S : Nat → Prop} (q : Va.Sec → Bool) (g : Nat) (cap : Array Value) (A : Option Addr) (cp : Nat) (l : List Va.Sec) (hl : l.length ≤ 1000000) (hcp : l.length ≤ cp) (w : World) (hp : Tells g cap q w) (hA : Lies S w A (secs l)) :
    Calls Tryz.prog 50 #[.slice A l.length cp, .func (.func g) #[] cap] w fun e w' => (∃ v, e = .returned v ∧ Row (fun b => b < w.heap.size) (l.filter fun s => !q s) v w') ∧ Below w.heap.size w w' := by
  have HC := Lib.hid (clone_any A cp l hl hcp w hA)
  have HD := Lib.hid (fun A' c' W h1 h2 => delete_any q g cap w hp A' c' l hl W h1 h2)
  clear hA hp
  go_enter Tryz.func50, Tryz.ntmps50
  go_wp2_with fail
  refine HC.out.mono ?_
  rintro e w1 ⟨⟨A', c', rfl, ho⟩, hb⟩
  have HO := Lib.hid ho
  have HB := Lib.hid hb
  clear ho hb
  go_wp2_with fail
  refine (HD.out A' c' w1 HB.out HO.out).mono ?_
  rintro e w2 ⟨⟨v, rfl, hv⟩, hb⟩
  have HV := Lib.hid hv
  have HB2 := Lib.hid hb
  clear hv hb
  go_wp2_with fail
  go_ret
  exact ⟨⟨_, rfl, HV.out⟩, HB2.out⟩
theorem enter_drop : ∀ (args : Array Value) (W : World), (callFunc 51 args).run Tryz.prog W = .ok (.enter 51 args) W := fun args W => by go_simp
theorem enter_sweep : ∀ (args : Array Value) (W : World), (callFunc 52 args).run Tryz.prog W = .ok (.enter 52 args) W := fun args W => by go_simp
theorem Row.weaker {S T : Nat → Prop} {m : List Va.Sec} {v : Value} {W : World} (h : Row S m v W) (hT : ∀ b, T b → S b) : Row T m v W := by
  obtain ⟨A, c, e, hc, hA⟩ := h
  exact ⟨A, c, e, hc, fun i u hi => by
    obtain ⟨a, h1, h2, h3, h4⟩ := hA i u hi
    exact ⟨a, h1, h2, fun hb => h3 (hT _ hb), h4⟩⟩
set_option maxRecDepth 100000 in
set_option maxHeartbeats 2000000 in
theorem drop_any {S : Nat → Prop} (A : Option Addr) (cp : Nat) (l : List Va.Sec) (hl : l.length ≤ 1000000) (hcp : l.length ≤ cp) (a p : Int) (w : World) (hA : Lies S w A (secs l)) :
    Calls Tryz.prog 22 #[.slice A l.length cp, .int .i64 a, .int .i64 p] w fun e w' => (∃ v, e = .returned v ∧ Row (fun b => b < w.heap.size) (Va.drop l a p) v w') ∧ Below w.heap.size w w' := by
  have hb0 : Below w.heap.size w ((w.alloc (.cells #[.int .i64 a] 3)).alloc (.cells #[.int .i64 p] 3)) := ((Below.refl _ w).alloc (Nat.le_refl _) _).alloc (by simp) _
  have h1 : Blk ((w.alloc (.cells #[.int .i64 a] 3)).alloc (.cells #[.int .i64 p] 3)) w.heap.size 3 #[.int .i64 a] := (Blk.new w _ _).alloc _
  have h2 : Blk ((w.alloc (.cells #[.int .i64 a] 3)).alloc (.cells #[.int .i64 p] 3)) (w.heap.size + 1) 3 #[.int .i64 p] := blk_new_s (by simp)
  have hT : Tells 51 #[.pointer (some ⟨w.heap.size, 0, none⟩), .pointer (some ⟨w.heap.size + 1, 0, none⟩)] (dropQ a p) _ :=
    ⟨enter_drop, fun W s hW => drop1_any s w.heap.size (w.heap.size + 1) a p W (h1.of (hW.block _ h1.lt)) (h2.of (hW.block _ h2.lt))⟩
  have HW := Lib.hid (without_any (S := S) _ _ _ A cp l hl hcp _ hT (hA.below hb0))
  have HB0 := Lib.hid hb0
  clear hT h1 h2 hb0 hA
  change Calls _ _ _ _ fun e w' => (∃ v, e = .returned v ∧ Row (fun b => b < w.heap.size) (l.filter fun s => !dropQ a p s) v w') ∧ Below w.heap.size w w'
  go_enter Tryz.func22, Tryz.ntmps22
  go_wp2_with fail
  refine HW.out.mono ?_
  rintro e w1 ⟨⟨v, rfl, hv⟩, hb⟩
  have HV := Lib.hid (hv.weaker (fun b hb => Nat.lt_of_lt_of_le hb HB0.out.size))
  have HB := Lib.hid (HB0.out.trans (hb.mono HB0.out.size))
  clear hv hb
  go_wp2_with fail
  go_ret
  exact ⟨⟨_, rfl, HV.out⟩, HB.out⟩
theorem sweep_filter (l : List Va.Sec) (now : Int) : Va.sweep l now = l.filter fun s => !sweepQ now s := by
  unfold Va.sweep sweepQ
  congr 1
  funext s
  by_cases h : s.expires ≤ now
  · rw [decide_eq_true h, decide_eq_false (by omega)]; rfl
  · rw [decide_eq_false h, decide_eq_true (by omega)]; rfl
set_option maxRecDepth 100000 in
set_option maxHeartbeats 2000000 in
theorem sweep_any {S : Nat → Prop} (A : Option Addr) (cp : Nat) (l : List Va.Sec) (hl : l.length ≤ 1000000) (hcp : l.length ≤ cp) (now : Int) (w : World) (hA : Lies S w A (secs l)) :
    Calls Tryz.prog 24 #[.slice A l.length cp, .int .i64 now] w fun e w' => (∃ v, e = .returned v ∧ Row (fun b => b < w.heap.size) (Va.sweep l now) v w') ∧ Below w.heap.size w w' := by
  have hb0 : Below w.heap.size w (w.alloc (.cells #[.int .i64 now] 2)) := (Below.refl _ w).alloc (Nat.le_refl _) _
  have h1 := Blk.new w 2 #[.int .i64 now]
  have hT : Tells 52 #[.pointer (some ⟨w.heap.size, 0, none⟩)] (sweepQ now) _ :=
    ⟨enter_sweep, fun W s hW => sweep1_any s w.heap.size now W (h1.of (hW.block _ h1.lt))⟩
  have HW := Lib.hid (without_any (S := S) _ _ _ A cp l hl hcp _ hT (hA.below hb0))
  have HB0 := Lib.hid hb0
  clear hT h1 hb0 hA
  rw [sweep_filter]
  go_enter Tryz.func24, Tryz.ntmps24
  go_wp2_with fail
  refine HW.out.mono ?_
  rintro e w1 ⟨⟨v, rfl, hv⟩, hb⟩
  have HV := Lib.hid (hv.weaker (fun b hb => Nat.lt_of_lt_of_le hb HB0.out.size))
  have HB := Lib.hid (HB0.out.trans (hb.mono HB0.out.size))
  clear hv hb
  go_wp2_with fail
  go_ret
  exact ⟨⟨_, rfl, HV.out⟩, HB.out⟩
end Go.Proofs.YtfjdcopndkdbmaaGreatDoor

namespace Go.Proofs.YtfjdcopndkdbmaaGreatDoor
open Go.RowKit

theorem run_rows_from (A : Option Addr) (n cp k : Nat) (hk : k ≤ n) (_hn : n ≤ cp) (W : World) : (Instr.slice 22 (.slice A n cp) (some (.int .i64 (k : Int))) none none).run Tryz.prog W = .ok (.slice (if cp = k then A else A.map fun x => x.add (k * 6)) (n - k) (cp - k)) W := by
  obtain ⟨t, hq, _, hs, _⟩ := info_sec

  cases A <;> simp [Instr.slice, Instr.sliceBounds, Instr.sliceBound, asIntOf, run_underlying Tryz.underlying22, sizeOf, typeInfo, hq, hs, hk]
/-- What each operation of the drawn statement leaves. -/
def Vq2 (A : Option Addr) (A2 : Option Addr) (A3 : Option Addr) (n : Nat) (ii : Nat) (cp : Nat) (m3 : Nat) (c3 : Nat) (n2 : Nat) (c2 : Nat) (Bn : Nat) (R : List Va.Sec) : Nat → Value → World → Prop
  | 0, v, _ => v = .slice A n cp
  | 1, v, _ => v = .int .i64 (ii : Int)
  | 2, v, _ => v = .slice A ii cp
  | 3, v, _ => v = .slice A3 m3 c3
  | 4, v, _ => v = .slice A n cp
  | 5, v, _ => v = .int .i64 (ii : Int)
  | 6, v, _ => v = .int .i64 ((ii : Int) + 1)
  | 7, v, _ => v = .slice A2 n2 c2
  | 8, v, W => ∃ g, v = .slice (some ⟨g, 0, none⟩) 3 3 ∧ Blk W g 22 #[.slice A ii cp, .slice A3 m3 c3, .slice A2 n2 c2]
  | 9, v, W => Row (fun u => u < Bn) R v W 
  | 10, v, W => Row (fun u => u < Bn) R v W 
  | _, _, _ => True
theorem Vq2.on (A : Option Addr) (A2 : Option Addr) (A3 : Option Addr) (n : Nat) (ii : Nat) (cp : Nat) (m3 : Nat) (c3 : Nat) (n2 : Nat) (c2 : Nat) (Bn : Nat) (R : List Va.Sec) : ∀ (i : Nat) (v : Value) (w w' : World), Vq2 A A2 A3 n ii cp m3 c3 n2 c2 Bn R i v w → Below w.heap.size w w' → Vq2 A A2 A3 n ii cp m3 c3 n2 c2 Bn R i v w' := by
  intro i v w w' hv hb
  revert hv
  unfold Vq2
  split <;> first
    | exact fun h => h
    | exact fun ⟨g, h1, h2⟩ => ⟨g, h1, h2.of (hb.block g h2.lt)⟩
    | exact fun h => Row.below h hb
set_option maxRecDepth 100000 in
set_option maxHeartbeats 4000000 in
theorem rep1_any {S T : Nat → Prop} (A : Option Addr) (cp : Nat) (l : List Va.Sec) (hl : l.length ≤ 1000000) (hcp : l.length ≤ cp) (i : Nat) (hi : i < l.length) (A3 : Option Addr) (c3 : Nat) (m : List Va.Sec) (hm : m.length ≤ 1000000) (b c : Nat) (w : World)
    (hb : Blk w b 22 #[.slice A l.length cp]) (hc : Blk w c 3 #[.int .i64 (i : Int)]) (hA : Lies S w A (secs l)) (h3 : Lies T w A3 (secs m)) :
    Calls Tryz.prog 64 #[.slice A3 m.length c3, .pointer (some ⟨b, 0, none⟩), .pointer (some ⟨c, 0, none⟩)] w fun e w' => (∃ v, e = .returned v ∧ Row (fun b => b < w.heap.size) (l.take i ++ m ++ l.drop (i + 1)) v w') ∧ Below w.heap.size w w' := by
  have hlt : (l.take i).length = i := by rw [List.length_take]; omega
  have hld : (l.drop (i + 1)).length = l.length - (i + 1) := by rw [List.length_drop]
  have hs1 := run_rows_to A l.length cp i (by omega) hcp
  have hs2 := run_rows_from A l.length cp (i + 1) (by omega) hcp
  have hc1 : ((i + 1 : Nat) : Int) = (i : Int) + 1 := by omega
  rw [hc1] at hs2
  have hw1 : IntKind.i64.wrap ((i : Int) + 1) = (i : Int) + 1 := by rw [IntKind.wrap_i64]; omega
  have hA2 : i + 1 < l.length → ∀ a, A = some a → (if cp = i + 1 then A else Option.map (fun x => x.add ((i + 1) * 6)) A) = some (a.add ((i + 1) * 6)) := fun h a e => by
    rw [if_neg (by omega), e]
    rfl
  have hL2 := lies_drop hA (i + 1) hA2
  have hL1 := lies_take hA i
  generalize hQ : (if cp = i + 1 then A else Option.map (fun x => x.add ((i + 1) * 6)) A) = A2 at hs2 hL2
  generalize hR : l.take i ++ m ++ l.drop (i + 1) = R
  generalize hn2 : l.length - (i + 1) = n2 at hs2 hld
  generalize cp - (i + 1) = c2 at hs2
  generalize hBn : w.heap.size = Bn
  generalize hm3 : m.length = m3
  have HCC : Hid (∀ W g, Below w.heap.size w W → Blk W g 22 #[.slice A i cp, .slice A3 m3 c3, .slice A2 n2 c2] → Calls Tryz.prog 40 #[.slice (some ⟨g, 0, none⟩) 3 3] W fun e w' => ∃ v, e = .returned v ∧ Row (fun b => b < Bn) R v w' ∧ Below W.heap.size W w') := Lib.hid (fun W g hW hg => by
    have hS := sconcat_any (S := fun _ => False) [l.take i, m, l.drop (i + 1)] (by simp) (by simp; omega) g 3 W hg.lt (fun j hj => by
      match j, hj with
      | 0, _ => exact ⟨A, cp, by rw [hg.cell 0]; show some _ = some (Value.slice A (l.take i).length cp); rw [hlt]; rfl, (hL1.mono (fun _ _ h => h.elim)).below hW⟩
      | 1, _ => exact ⟨A3, c3, by rw [hg.cell 1]; show some _ = some (Value.slice A3 m.length c3); rw [hm3]; rfl, (h3.mono (fun _ _ h => h.elim)).below hW⟩
      | 2, _ => exact ⟨A2, c2, by rw [hg.cell 2]; show some _ = some (Value.slice A2 (l.drop (i + 1)).length c2); rw [hld]; rfl, (hL2.mono (fun _ _ h => h.elim)).below hW⟩
      | j + 3, hj => exact absurd hj (by show ¬ (j + 3 < 3); omega))
    refine hS.mono ?_
    rintro e w' ⟨⟨v, rfl, hv⟩, hb⟩
    rw [show [l.take i, m, l.drop (i + 1)].flatten = R by rw [← hR]; simp] at hv
    exact ⟨v, rfl, hv.weaker (fun x hx => Nat.lt_of_lt_of_le hx (by rw [← hBn]; exact hW.size)), hb⟩)
  have HB := Lib.hid hb
  have HC := Lib.hid hc
  generalize hnn : l.length = n at *
  generalize hii : i = ii at *
  clear hb hc hA h3 hL1 hL2 hA2 hQ hld hlt hc1 hR hn2 hm3
  rw [← hBn]
  go_enter Tryz.func64, Tryz.ntmps64
  go_upto_region 1 with fail
  refine wp_region_some (by kernel_rfl) (Vq2 A A2 A3 n ii cp m3 c3 n2 c2 Bn R) (fun _ _ W => Gc w W) (fun w w' => Below w.heap.size w w') (by kernel_rfl) (by kernel_rfl) 15 rfl (by kernel_rfl) (Vq2.on _ _ _ _ _ _ _ _ _ _ _ _) (fun _ => (Below.refl _ _)) (Gc.start w) ?_ ?_
  · intro i o ho listed x W hs hdep hun hg hk
    match i, ho with
    | 0, ho =>
      cases ho
      have q1 : x.tmps[1]?.getD undef = .pointer (some ⟨b, 0, none⟩) := hk.fix 1 (by kernel_rfl)
      refine .inl ⟨wanted_plain rfl, ?_⟩
      have cf : W.cell? ⟨b, 0, none⟩ = some (.slice A n cp) := ((HB.out.of (hg.below.block _ HB.out.lt)).cell 0).trans rfl
      refine wp_value (v := .slice A n cp) (w' := W) ?_ ⟨_, rfl, rfl, (Below.refl _ _), hg⟩
      go_simp
    | 1, ho =>
      cases ho
      have q2 : x.tmps[2]?.getD undef = .pointer (some ⟨c, 0, none⟩) := hk.fix 2 (by kernel_rfl)
      refine .inl ⟨wanted_plain rfl, ?_⟩
      have cf : W.cell? ⟨c, 0, none⟩ = some (.int .i64 (ii : Int)) := ((HC.out.of (hg.below.block _ HC.out.lt)).cell 0).trans rfl
      refine wp_value (v := .int .i64 (ii : Int)) (w' := W) ?_ ⟨_, rfl, rfl, (Below.refl _ _), hg⟩
      go_simp
    | 2, ho =>
      cases ho
      have q5 : x.tmps[5]?.getD undef = .slice A n cp := hk.dep 0 5 (by kernel_rfl) (by kernel_rfl)
      have q6 : x.tmps[6]?.getD undef = .int .i64 (ii : Int) := hk.dep 1 6 (by kernel_rfl) (by kernel_rfl)
      refine .inl ⟨wanted_plain rfl, ?_⟩
      refine wp_value (v := .slice A ii cp) (w' := W) ?_ ⟨_, rfl, rfl, (Below.refl _ _), hg⟩
      go_simp
    | 3, ho =>
      cases ho
      have q0 : x.tmps[0]?.getD undef = .slice A3 m3 c3 := hk.fix 0 (by kernel_rfl)
      refine .inl ⟨wanted_plain rfl, ?_⟩
      refine wp_value (v := .slice A3 m3 c3) (w' := W) ?_ ⟨_, rfl, rfl, (Below.refl _ _), hg⟩
      go_simp
    | 4, ho =>
      cases ho
      have q1 : x.tmps[1]?.getD undef = .pointer (some ⟨b, 0, none⟩) := hk.fix 1 (by kernel_rfl)
      refine .inl ⟨wanted_plain rfl, ?_⟩
      have cf : W.cell? ⟨b, 0, none⟩ = some (.slice A n cp) := ((HB.out.of (hg.below.block _ HB.out.lt)).cell 0).trans rfl
      refine wp_value (v := .slice A n cp) (w' := W) ?_ ⟨_, rfl, rfl, (Below.refl _ _), hg⟩
      go_simp
    | 5, ho =>
      cases ho
      have q2 : x.tmps[2]?.getD undef = .pointer (some ⟨c, 0, none⟩) := hk.fix 2 (by kernel_rfl)
      refine .inl ⟨wanted_plain rfl, ?_⟩
      have cf : W.cell? ⟨c, 0, none⟩ = some (.int .i64 (ii : Int)) := ((HC.out.of (hg.below.block _ HC.out.lt)).cell 0).trans rfl
      refine wp_value (v := .int .i64 (ii : Int)) (w' := W) ?_ ⟨_, rfl, rfl, (Below.refl _ _), hg⟩
      go_simp
    | 6, ho =>
      cases ho
      have q10 : x.tmps[10]?.getD undef = .int .i64 (ii : Int) := hk.dep 5 10 (by kernel_rfl) (by kernel_rfl)
      refine .inl ⟨wanted_plain rfl, ?_⟩
      refine wp_value (v := .int .i64 ((ii : Int) + 1)) (w' := W) ?_ ⟨_, rfl, rfl, (Below.refl _ _), hg⟩
      go_simp
    | 7, ho =>
      cases ho
      have q9 : x.tmps[9]?.getD undef = .slice A n cp := hk.dep 4 9 (by kernel_rfl) (by kernel_rfl)
      have q11 : x.tmps[11]?.getD undef = .int .i64 ((ii : Int) + 1) := hk.dep 6 11 (by kernel_rfl) (by kernel_rfl)
      refine .inl ⟨wanted_plain rfl, ?_⟩
      refine wp_value (v := .slice A2 n2 c2) (w' := W) ?_ ⟨_, rfl, rfl, (Below.refl _ _), hg⟩
      go_simp
    | 8, ho =>
      cases ho
      have q7 : x.tmps[7]?.getD undef = .slice A ii cp := hk.dep 2 7 (by kernel_rfl) (by kernel_rfl)
      have q8 : x.tmps[8]?.getD undef = .slice A3 m3 c3 := hk.dep 3 8 (by kernel_rfl) (by kernel_rfl)
      have q12 : x.tmps[12]?.getD undef = .slice A2 n2 c2 := hk.dep 7 12 (by kernel_rfl) (by kernel_rfl)
      refine .inl ⟨wanted_plain rfl, ?_⟩
      refine wp_value (v := .slice (some ⟨W.heap.size, 0, none⟩) 3 3) (w' := W.alloc (.cells #[.slice A ii cp, .slice A3 m3 c3, .slice A2 n2 c2] 22)) ?_ ⟨_, rfl, ⟨_, rfl, Blk.new W _ _⟩, (Below.refl _ W).alloc (Nat.le_refl _) _, hg.calls ((Below.refl _ W).alloc (Nat.le_refl _) _)⟩
      go_simp
    | 9, ho =>
      cases ho
      refine .inl ⟨wanted_plain rfl, ?_⟩
      obtain ⟨g, q13, hbk⟩ : ∃ g, x.tmps[13]?.getD undef = .slice (some ⟨g, 0, none⟩) 3 3 ∧ Blk W g 22 #[.slice A ii cp, .slice A3 m3 c3, .slice A2 n2 c2] := hk.dep 8 13 (by kernel_rfl) (by kernel_rfl)
      refine wp_enter (f := 40) (args := #[.slice (some ⟨g, 0, none⟩) 3 3]) (w' := W) (S := fun v w1 => Row (fun u => u < Bn) R v w1 ∧ Below W.heap.size W w1) ?_ (HCC.out W g hg.below hbk) ?_
      · go_simp
      · rintro v W' ⟨hv, hb⟩
        exact ⟨_, rfl, hv, hb, hg.calls hb⟩
    | 10, ho =>
      cases ho
      refine .inl ⟨wanted_plain rfl, ?_⟩
      have hv14 : Row (fun u => u < Bn) R (x.tmps[14]?.getD undef) W := hk.dep 9 14 (by kernel_rfl) (by kernel_rfl)
      obtain ⟨z, hz⟩ : ∃ z, x.tmps[14]?.getD undef = z := ⟨_, rfl⟩
      rw [hz] at hv14
      refine wp_value (v := z) (w' := W) ?_ ⟨_, rfl, hv14, Below.refl _ _, hg⟩
      go_simp
    | _ + 11, ho => cases ho
  intro listed x w3 hall hg hk
  have e5 : x.tmps[5]?.getD undef = .slice A n cp := hk.last 0 5 (by decide) (by kernel_rfl)
  have e6 : x.tmps[6]?.getD undef = .int .i64 (ii : Int) := hk.last 1 6 (by decide) (by kernel_rfl)
  have e7 : x.tmps[7]?.getD undef = .slice A ii cp := hk.last 2 7 (by decide) (by kernel_rfl)
  have e8 : x.tmps[8]?.getD undef = .slice A3 m3 c3 := hk.last 3 8 (by decide) (by kernel_rfl)
  have e9 : x.tmps[9]?.getD undef = .slice A n cp := hk.last 4 9 (by decide) (by kernel_rfl)
  have e10 : x.tmps[10]?.getD undef = .int .i64 (ii : Int) := hk.last 5 10 (by decide) (by kernel_rfl)
  have e11 : x.tmps[11]?.getD undef = .int .i64 ((ii : Int) + 1) := hk.last 6 11 (by decide) (by kernel_rfl)
  have e12 : x.tmps[12]?.getD undef = .slice A2 n2 c2 := hk.last 7 12 (by decide) (by kernel_rfl)
  have hv4 : Row (fun u => u < Bn) R (x.tmps[4]?.getD undef) w3 := hk.last 10 4 (by decide) (by kernel_rfl)
  obtain ⟨z4, hz4⟩ : ∃ z, x.tmps[4]?.getD undef = z := ⟨_, rfl⟩
  obtain ⟨z13, hz13⟩ : ∃ z, x.tmps[13]?.getD undef = z := ⟨_, rfl⟩
  obtain ⟨z14, hz14⟩ : ∃ z, x.tmps[14]?.getD undef = z := ⟨_, rfl⟩
  rw [hz4] at hv4
  have hB := Lib.hid hg.below
  have hx := hk.act [5, 6, 7, 8, 9, 10, 11, 12, 13, 14, 4] (by kernel_rfl)
  clear hk hg hall
  simp only [List.foldl_cons, List.foldl_nil, e5, e6, e7, e8, e9, e10, e11, e12, hz4, hz13, hz14] at hx
  clear e5 e6 e7 e8 e9 e10 e11 e12 hz4 hz13 hz14
  subst hx
  simp only [Act.put, List.setIfInBounds_toArray, List.set_cons_succ, List.set_cons_zero]
  go_wp2_with fail
  go_ret
  rw [← hBn] at hv4
  exact ⟨⟨_, rfl, hv4⟩, hB.out⟩
end Go.Proofs.YtfjdcopndkdbmaaGreatDoor
