/-
  Contracts of bucket.refills, left, taken and of the document's left. Condition: a bucket that a list may have, times of at most 2000000000000.
-/
import Derived.BigQuiet
import Derived.Deep.Cut
import Derived.LoopTactic
import Derived.Lib.MinMax
import Derived.Test.YtbldonkfboahmaaBkO
import Derived.Test.YtbldonkfboahmaaBcS
import Derived.Test.YtbldonkfboahmaaAnyI
namespace Go.Proofs.Ytbldonkfboahmaa
open Go.RowKit

def refl1 (b : Bb) (now : Nat) : Nat := (now - b.at_) / 25
theorem refl1_le (b : Bb) (now : Nat) : refl1 b now ≤ now := Nat.le_trans (Nat.div_le_self _ _) (Nat.sub_le _ _)
theorem left1_refl (b : Bb) (now : Nat) : Bk.left1 b now = min 4 (b.left + refl1 b now) := rfl
theorem left1_le (b : Bb) (now : Nat) : Bk.left1 b now ≤ 4 := Nat.min_le_left _ _
theorem quo25 (a b : Nat) (h : b ≤ a) : ((a : Int) - (b : Int)).tdiv 25 = (((a - b) / 25 : Nat) : Int) := by
  rw [Int.tdiv_eq_ediv_of_nonneg (by omega)]
  omega
set_option maxRecDepth 100000 in
set_option maxHeartbeats 2000000 in
theorem refills_any (b : Bb) (hb : Ok b) (now : Nat) (hn : now ≤ 2000000000000) (w : World) :
    Calls Try.prog 38 #[.agg #[.string b.key, .int .i64 (b.left : Int), .int .i64 (b.at_ : Int)], .int .i64 (now : Int)] w fun e w' => e = .returned (.int .i64 (refl1 b now : Int)) ∧ Below w.heap.size w w' := by
  have hat := hb.at_
  by_cases h : now < b.at_
  · have hz : refl1 b now = 0 := by unfold refl1; omega
    rw [hz]
    have hd : ((now : Int) < (b.at_ : Int)) := by omega
    go_enter Try.func38, Try.ntmps38
    go_wp2_with fail
    go_ret
    exact ⟨rfl, (Below.refl _ w).alloc (Nat.le_refl _) _⟩
  · have hd : ¬ ((now : Int) < (b.at_ : Int)) := by omega
    have hw1 : IntKind.i64.wrap ((now : Int) - (b.at_ : Int)) = (now : Int) - (b.at_ : Int) := by rw [IntKind.wrap_i64]; omega
    have hq := quo25 now b.at_ (by omega)
    have hw2 : IntKind.i64.wrap (((now - b.at_) / 25 : Nat) : Int) = (((now - b.at_) / 25 : Nat) : Int) := by rw [IntKind.wrap_i64]; omega
    go_enter Try.func38, Try.ntmps38
    go_wp2_with fail
    go_ret
    exact ⟨by unfold refl1; first | rfl | (simp only [hq]), (Below.refl _ w).alloc (Nat.le_refl _) _⟩
/-- What each operation of the drawn statement leaves. -/
def Vb1 (b : Bb) (b0 : Nat) (now : Nat) (q : Nat) (s : Nat) : Nat → Value → Prop
  | 0, v => v = .pointer (some ⟨b0, 1, none⟩)
  | 1, v => v = .int .i64 (b.left : Int)
  | 2, v => v = .agg #[.string b.key, .int .i64 (b.left : Int), .int .i64 (b.at_ : Int)]
  | 3, v => v = .int .i64 (now : Int)
  | 4, v => v = .int .i64 (q : Int)
  | 5, v => v = .int .i64 (s : Int)
  | 6, v => v = .int .i64 (min (s : Int) 4)
  | 7, v => v = .int .i64 (min (s : Int) 4)
  | _, _ => True
set_option maxRecDepth 100000 in
set_option maxHeartbeats 2000000 in
theorem left_any (b : Bb) (hb : Ok b) (now : Nat) (hn : now ≤ 2000000000000) (w : World) :
    Calls Try.prog 32 #[.agg #[.string b.key, .int .i64 (b.left : Int), .int .i64 (b.at_ : Int)], .int .i64 (now : Int)] w fun e w' => e = .returned (.int .i64 (Bk.left1 b now : Int)) ∧ Below w.heap.size w w' := by
  have hle := refl1_le b now
  have hlf := hb.left
  have HK := Lib.hid (fun W => refills_any b hb now hn W)
  rw [left1_refl]
  generalize refl1 b now = q at hle HK ⊢
  obtain ⟨s, hs⟩ : ∃ s, b.left + q = s := ⟨_, rfl⟩
  rw [hs]
  obtain ⟨r, hr⟩ : ∃ r, min 4 s = r := ⟨_, rfl⟩
  rw [hr]
  have hw1 : IntKind.i64.wrap ((b.left : Int) + (q : Int)) = (s : Int) := by rw [IntKind.wrap_i64]; omega
  have hb0 : Below w.heap.size w (w.alloc (.cells (buC (up b)).toArray 54)) := (Below.refl _ w).alloc (Nat.le_refl _) _
  have hx0 := Blk.new w 54 (buC (up b)).toArray
  rw [show (buC (up b)).toArray = #[.string b.key, .int .i64 (b.left : Int), .int .i64 (b.at_ : Int)] from rfl] at hb0 hx0
  have HR := Lib.hid hr
  clear hr hs hle
  go_enter Try.func32, Try.ntmps32
  go_upto_region 1 with fail
  generalize World.alloc w _ = W0 at hb0 hx0 ⊢
  have HB0 := Lib.hid hb0
  have HX0 := Lib.hid hx0
  clear hb0 hx0
  obtain ⟨b0, hb0⟩ : ∃ b, w.heap.size = b := ⟨_, rfl⟩
  rw [hb0] at HX0
  simp only [hb0]
  refine wp_region_some (by kernel_rfl) (fun i v _ => Vb1 b b0 now q s i v) (fun _ _ W => Gc W0 W) (fun w w' => Below w.heap.size w w') (by kernel_rfl) (by kernel_rfl) 12 rfl (by kernel_rfl) (fun _ _ _ _ h _ => by exact h) (fun _ => (Below.refl _ _)) (Gc.start W0) ?_ ?_
  · intro i o ho listed x W hs hdep hun hg hk
    match i, ho with
    | 0, ho =>
      cases ho
      have q2 : x.tmps[2]?.getD undef = .pointer (some ⟨b0, 0, none⟩) := hk.fix 2 (by kernel_rfl)
      refine .inl ⟨wanted_plain rfl, ?_⟩
      refine wp_value (v := .pointer (some ⟨b0, 1, none⟩)) (w' := W) ?_ ⟨_, rfl, rfl, (Below.refl _ _), hg⟩
      go_simp
    | 1, ho =>
      cases ho
      have q5 : x.tmps[5]?.getD undef = .pointer (some ⟨b0, 1, none⟩) := hk.dep 0 5 (by kernel_rfl) (by kernel_rfl)
      refine .inl ⟨wanted_plain rfl, ?_⟩
      have cf : W.cell? ⟨b0, 1, none⟩ = some (.int .i64 (b.left : Int)) := (((HX0.out.of (hg.below.block _ HX0.out.lt)).cell 1)).trans rfl
      refine wp_value (v := .int .i64 (b.left : Int)) (w' := W) ?_ ⟨_, rfl, rfl, (Below.refl _ _), hg⟩
      go_simp
    | 2, ho =>
      cases ho
      have q2 : x.tmps[2]?.getD undef = .pointer (some ⟨b0, 0, none⟩) := hk.fix 2 (by kernel_rfl)
      refine .inl ⟨wanted_plain rfl, ?_⟩
      refine wp_value (run_load_op _ _ rfl _ ((eval_slot x 2).trans q2) _ _ ((HX0.out.of (hg.below.block _ HX0.out.lt))) _ Try.underlying54 rfl bu_size) ⟨_, rfl, rfl, (Below.refl _ _), hg⟩
    | 3, ho =>
      cases ho
      have q1 : x.tmps[1]?.getD undef = .int .i64 (now : Int) := hk.fix 1 (by kernel_rfl)
      refine .inl ⟨wanted_plain rfl, ?_⟩
      refine wp_value (v := .int .i64 (now : Int)) (w' := W) ?_ ⟨_, rfl, rfl, (Below.refl _ _), hg⟩
      go_simp
    | 4, ho =>
      cases ho
      have q7 : x.tmps[7]?.getD undef = .agg #[.string b.key, .int .i64 (b.left : Int), .int .i64 (b.at_ : Int)] := hk.dep 2 7 (by kernel_rfl) (by kernel_rfl)
      have q8 : x.tmps[8]?.getD undef = .int .i64 (now : Int) := hk.dep 3 8 (by kernel_rfl) (by kernel_rfl)
      refine .inl ⟨wanted_plain rfl, ?_⟩
      refine wp_enter (f := 38) (args := #[.agg #[.string b.key, .int .i64 (b.left : Int), .int .i64 (b.at_ : Int)], .int .i64 (now : Int)]) (w' := W) (S := fun v w1 => v = .int .i64 (q : Int) ∧ Below W.heap.size W w1) ?_ ((HK.out W).mono fun e w' h => ⟨_, h.1, rfl, h.2⟩) ?_
      · go_simp
      · rintro v W' ⟨rfl, hb⟩
        exact ⟨_, rfl, rfl, hb, hg.calls hb⟩
    | 5, ho =>
      cases ho
      have q6 : x.tmps[6]?.getD undef = .int .i64 (b.left : Int) := hk.dep 1 6 (by kernel_rfl) (by kernel_rfl)
      have q9 : x.tmps[9]?.getD undef = .int .i64 (q : Int) := hk.dep 4 9 (by kernel_rfl) (by kernel_rfl)
      refine .inl ⟨wanted_plain rfl, ?_⟩
      refine wp_value (v := .int .i64 (s : Int)) (w' := W) ?_ ⟨_, rfl, rfl, (Below.refl _ _), hg⟩
      go_simp
    | 6, ho =>
      cases ho
      have q10 : x.tmps[10]?.getD undef = .int .i64 (s : Int) := hk.dep 5 10 (by kernel_rfl) (by kernel_rfl)
      refine .inl ⟨wanted_plain rfl, ?_⟩
      refine wp_value (v := .int .i64 (min (s : Int) 4)) (w' := W) ?_ ⟨_, rfl, rfl, (Below.refl _ _), hg⟩
      go_simp
    | 7, ho =>
      cases ho
      have q11 : x.tmps[11]?.getD undef = .int .i64 (min (s : Int) 4) := hk.dep 6 11 (by kernel_rfl) (by kernel_rfl)
      refine .inl ⟨wanted_plain rfl, ?_⟩
      refine wp_value (v := .int .i64 (min (s : Int) 4)) (w' := W) ?_ ⟨_, rfl, rfl, (Below.refl _ _), hg⟩
      go_simp
    | _ + 8, ho => cases ho
  intro listed x w3 hall hg hk
  have e5 : x.tmps[5]?.getD undef = .pointer (some ⟨b0, 1, none⟩) := hk.last 0 5 (by decide) (by kernel_rfl)
  have e6 : x.tmps[6]?.getD undef = .int .i64 (b.left : Int) := hk.last 1 6 (by decide) (by kernel_rfl)
  have e7 : x.tmps[7]?.getD undef = .agg #[.string b.key, .int .i64 (b.left : Int), .int .i64 (b.at_ : Int)] := hk.last 2 7 (by decide) (by kernel_rfl)
  have e8 : x.tmps[8]?.getD undef = .int .i64 (now : Int) := hk.last 3 8 (by decide) (by kernel_rfl)
  have e9 : x.tmps[9]?.getD undef = .int .i64 (q : Int) := hk.last 4 9 (by decide) (by kernel_rfl)
  have e10 : x.tmps[10]?.getD undef = .int .i64 (s : Int) := hk.last 5 10 (by decide) (by kernel_rfl)
  have e11 : x.tmps[11]?.getD undef = .int .i64 (min (s : Int) 4) := hk.last 6 11 (by decide) (by kernel_rfl)
  have e4 : x.tmps[4]?.getD undef = .int .i64 (min (s : Int) 4) := hk.last 7 4 (by decide) (by kernel_rfl)
  have hB := Lib.hid hg.below
  have hx := hk.act [5, 6, 7, 8, 9, 10, 11, 4] (by kernel_rfl)
  clear hk hg hall
  simp only [List.foldl_cons, List.foldl_nil, e5, e6, e7, e8, e9, e10, e11, e4] at hx
  clear e5 e6 e7 e8 e9 e10 e11 e4
  subst hx
  simp only [Act.put, List.setIfInBounds_toArray, List.set_cons_succ, List.set_cons_zero]
  have HB3 := Lib.hid (HB0.out.trans (hB.out.mono HB0.out.size))
  clear hB
  go_wp2_with fail
  go_ret
  exact ⟨congrArg (fun z : Int => Ending.returned (.int .i64 z)) (by have := HR.out; omega), HB3.out⟩
/-- What each operation of the drawn statement leaves. -/
def Vb2 (b : Bb) (b0 : Nat) (now : Nat) (q : Nat) (m : Nat) (n1 : Nat) (m25 : Nat) (T : Nat) : Nat → Value → Prop
  | 0, v => v = .pointer (some ⟨b0, 0, none⟩)
  | 1, v => v = .string b.key
  | 2, v => v = .agg #[.string b.key, .int .i64 (b.left : Int), .int .i64 (b.at_ : Int)]
  | 3, v => v = .int .i64 (now : Int)
  | 4, v => v = .int .i64 (m : Int)
  | 5, v => v = .int .i64 (n1 : Int)
  | 6, v => v = .pointer (some ⟨b0, 2, none⟩)
  | 7, v => v = .int .i64 (b.at_ : Int)
  | 8, v => v = .agg #[.string b.key, .int .i64 (b.left : Int), .int .i64 (b.at_ : Int)]
  | 9, v => v = .int .i64 (now : Int)
  | 10, v => v = .int .i64 (q : Int)
  | 11, v => v = .int .i64 (m25 : Int)
  | 12, v => v = .int .i64 (T : Int)
  | 13, v => v = .agg #[.string b.key, .int .i64 (n1 : Int), .int .i64 (T : Int)]
  | 14, v => v = undef
  | _, _ => True
set_option maxRecDepth 100000 in
set_option maxHeartbeats 2000000 in
theorem taken_any (b : Bb) (hb : Ok b) (now : Nat) (hn : now ≤ 2000000000000) (h1 : 1 ≤ Bk.left1 b now) (w : World) :
    Calls Try.prog 31 #[.agg #[.string b.key, .int .i64 (b.left : Int), .int .i64 (b.at_ : Int)], .int .i64 (now : Int)] w fun e w' => e = .returned (.agg #[.string b.key, .int .i64 ((Bk.left1 b now - 1 : Nat) : Int), .int .i64 ((b.at_ + 25 * refl1 b now : Nat) : Int)]) ∧ Below w.heap.size w w' := by
  have hat := hb.at_
  have hle := refl1_le b now
  have hl4 := left1_le b now
  have HK := Lib.hid (fun W => refills_any b hb now hn W)
  have HL := Lib.hid (fun W => left_any b hb now hn W)
  generalize refl1 b now = q at hle HK ⊢
  generalize Bk.left1 b now = m at h1 hl4 HL ⊢
  obtain ⟨n1, hn1⟩ : ∃ n, m - 1 = n := ⟨_, rfl⟩
  obtain ⟨m25, hm⟩ : ∃ n, q * 25 = n := ⟨_, rfl⟩
  obtain ⟨T, hT⟩ : ∃ n, b.at_ + 25 * q = n := ⟨_, rfl⟩
  rw [hn1, hT]
  have hw1 : IntKind.i64.wrap ((m : Int) - 1) = (n1 : Int) := by rw [IntKind.wrap_i64]; omega
  have hw2 : IntKind.i64.wrap ((q : Int) * 25) = (m25 : Int) := by rw [IntKind.wrap_i64]; omega
  have hw3 : IntKind.i64.wrap ((b.at_ : Int) + (m25 : Int)) = (T : Int) := by rw [IntKind.wrap_i64]; omega
  have hb0 : Below w.heap.size w (w.alloc (.cells (buC (up b)).toArray 54)) := (Below.refl _ w).alloc (Nat.le_refl _) _
  have hx0 := Blk.new w 54 (buC (up b)).toArray
  have hz1 := (hb0.alloc hb0.size (.cells #[.string ⟨#[]⟩, .int .i64 0, .int .i64 0] 54))
  have hx1 := hx0.alloc (.cells #[.string ⟨#[]⟩, .int .i64 0, .int .i64 0] 54)
  have hv1 := Blk.new (w.alloc (.cells (buC (up b)).toArray 54)) 54 #[.string ⟨#[]⟩, .int .i64 0, .int .i64 0]
  have hs1 : (w.alloc (.cells (buC (up b)).toArray 54)).heap.size = w.heap.size + 1 := by simp
  rw [hs1] at hv1
  rw [show (buC (up b)).toArray = #[.string b.key, .int .i64 (b.left : Int), .int .i64 (b.at_ : Int)] from rfl] at hz1 hx1 hv1
  clear hn1 hm hT hle hb0 hx0 hs1
  go_enter Try.func31, Try.ntmps31
  go_upto_region 1 with fail
  generalize World.alloc (World.alloc w _) _ = W0 at hz1 hx1 hv1 ⊢
  have HB0 := Lib.hid hz1
  have HX0 := Lib.hid hx1
  have HV0 := Lib.hid hv1
  clear hz1 hx1 hv1
  obtain ⟨b0, hb0⟩ : ∃ b, w.heap.size = b := ⟨_, rfl⟩
  rw [hb0] at HX0 HV0
  simp only [hb0]
  obtain ⟨b4, hb4⟩ : ∃ b, b0 + 1 = b := ⟨_, rfl⟩
  rw [hb4] at HV0
  simp only [hb4]
  have HNE : Hid (¬ b0 = b4) := Lib.hid (by omega)
  refine wp_region_some (by kernel_rfl) (fun i v _ => Vb2 b b0 now q m n1 m25 T i v) (fun listed _ W => Gs W0 b4 54 #[.string ⟨#[]⟩, .int .i64 0, .int .i64 0] #[.string b.key, .int .i64 (n1 : Int), .int .i64 (T : Int)] 14 listed W) (fun _ _ => True) (by kernel_rfl) (by kernel_rfl) 19 rfl (by kernel_rfl) (fun _ _ _ _ h _ => by exact h) (fun _ => trivial) (by exact Gs.start HV0.out 15) ?_ ?_
  · intro i o ho listed x W hs hdep hun hg hk
    match i, ho with
    | 0, ho =>
      cases ho
      have q2 : x.tmps[2]?.getD undef = .pointer (some ⟨b0, 0, none⟩) := hk.fix 2 (by kernel_rfl)
      refine .inl ⟨wanted_plain rfl, ?_⟩
      refine wp_value (v := .pointer (some ⟨b0, 0, none⟩)) (w' := W) ?_ ⟨_, rfl, rfl, trivial, hg.quiet 0 (by decide)⟩
      go_simp
    | 1, ho =>
      cases ho
      have q5 : x.tmps[5]?.getD undef = .pointer (some ⟨b0, 0, none⟩) := hk.dep 0 5 (by kernel_rfl) (by kernel_rfl)
      refine .inl ⟨wanted_plain rfl, ?_⟩
      have cf : W.cell? ⟨b0, 0, none⟩ = some (.string b.key) := (((HX0.out.of (hg.kept.block _ HX0.out.lt HNE.out)).cell 0)).trans rfl
      refine wp_value (v := .string b.key) (w' := W) ?_ ⟨_, rfl, rfl, trivial, hg.quiet 1 (by decide)⟩
      go_simp
    | 2, ho =>
      cases ho
      have q2 : x.tmps[2]?.getD undef = .pointer (some ⟨b0, 0, none⟩) := hk.fix 2 (by kernel_rfl)
      refine .inl ⟨wanted_plain rfl, ?_⟩
      refine wp_value (run_load_op _ _ rfl _ ((eval_slot x 2).trans q2) _ _ (((HX0.out.of (hg.kept.block _ HX0.out.lt HNE.out)))) _ Try.underlying54 rfl bu_size) ⟨_, rfl, rfl, trivial, hg.quiet 2 (by decide)⟩
    | 3, ho =>
      cases ho
      have q1 : x.tmps[1]?.getD undef = .int .i64 (now : Int) := hk.fix 1 (by kernel_rfl)
      refine .inl ⟨wanted_plain rfl, ?_⟩
      refine wp_value (v := .int .i64 (now : Int)) (w' := W) ?_ ⟨_, rfl, rfl, trivial, hg.quiet 3 (by decide)⟩
      go_simp
    | 4, ho =>
      cases ho
      have q7 : x.tmps[7]?.getD undef = .agg #[.string b.key, .int .i64 (b.left : Int), .int .i64 (b.at_ : Int)] := hk.dep 2 7 (by kernel_rfl) (by kernel_rfl)
      have q8 : x.tmps[8]?.getD undef = .int .i64 (now : Int) := hk.dep 3 8 (by kernel_rfl) (by kernel_rfl)
      refine .inl ⟨wanted_plain rfl, ?_⟩
      refine wp_enter (f := 32) (args := #[.agg #[.string b.key, .int .i64 (b.left : Int), .int .i64 (b.at_ : Int)], .int .i64 (now : Int)]) (w' := W) (S := fun v w1 => v = .int .i64 (m : Int) ∧ Below W.heap.size W w1) ?_ ((HL.out W).mono fun e w' h => ⟨_, h.1, rfl, h.2⟩) ?_
      · go_simp
      · rintro v W' ⟨rfl, hb⟩
        exact ⟨_, rfl, rfl, trivial, hg.calls hb 4 (by decide)⟩
    | 5, ho =>
      cases ho
      have q9 : x.tmps[9]?.getD undef = .int .i64 (m : Int) := hk.dep 4 9 (by kernel_rfl) (by kernel_rfl)
      refine .inl ⟨wanted_plain rfl, ?_⟩
      refine wp_value (v := .int .i64 (n1 : Int)) (w' := W) ?_ ⟨_, rfl, rfl, trivial, hg.quiet 5 (by decide)⟩
      go_simp
    | 6, ho =>
      cases ho
      have q2 : x.tmps[2]?.getD undef = .pointer (some ⟨b0, 0, none⟩) := hk.fix 2 (by kernel_rfl)
      refine .inl ⟨wanted_plain rfl, ?_⟩
      refine wp_value (v := .pointer (some ⟨b0, 2, none⟩)) (w' := W) ?_ ⟨_, rfl, rfl, trivial, hg.quiet 6 (by decide)⟩
      go_simp
    | 7, ho =>
      cases ho
      have q11 : x.tmps[11]?.getD undef = .pointer (some ⟨b0, 2, none⟩) := hk.dep 6 11 (by kernel_rfl) (by kernel_rfl)
      refine .inl ⟨wanted_plain rfl, ?_⟩
      have cf : W.cell? ⟨b0, 2, none⟩ = some (.int .i64 (b.at_ : Int)) := (((HX0.out.of (hg.kept.block _ HX0.out.lt HNE.out)).cell 2)).trans rfl
      refine wp_value (v := .int .i64 (b.at_ : Int)) (w' := W) ?_ ⟨_, rfl, rfl, trivial, hg.quiet 7 (by decide)⟩
      go_simp
    | 8, ho =>
      cases ho
      have q2 : x.tmps[2]?.getD undef = .pointer (some ⟨b0, 0, none⟩) := hk.fix 2 (by kernel_rfl)
      refine .inl ⟨wanted_plain rfl, ?_⟩
      refine wp_value (run_load_op _ _ rfl _ ((eval_slot x 2).trans q2) _ _ (((HX0.out.of (hg.kept.block _ HX0.out.lt HNE.out)))) _ Try.underlying54 rfl bu_size) ⟨_, rfl, rfl, trivial, hg.quiet 8 (by decide)⟩
    | 9, ho =>
      cases ho
      have q1 : x.tmps[1]?.getD undef = .int .i64 (now : Int) := hk.fix 1 (by kernel_rfl)
      refine .inl ⟨wanted_plain rfl, ?_⟩
      refine wp_value (v := .int .i64 (now : Int)) (w' := W) ?_ ⟨_, rfl, rfl, trivial, hg.quiet 9 (by decide)⟩
      go_simp
    | 10, ho =>
      cases ho
      have q13 : x.tmps[13]?.getD undef = .agg #[.string b.key, .int .i64 (b.left : Int), .int .i64 (b.at_ : Int)] := hk.dep 8 13 (by kernel_rfl) (by kernel_rfl)
      have q14 : x.tmps[14]?.getD undef = .int .i64 (now : Int) := hk.dep 9 14 (by kernel_rfl) (by kernel_rfl)
      refine .inl ⟨wanted_plain rfl, ?_⟩
      refine wp_enter (f := 38) (args := #[.agg #[.string b.key, .int .i64 (b.left : Int), .int .i64 (b.at_ : Int)], .int .i64 (now : Int)]) (w' := W) (S := fun v w1 => v = .int .i64 (q : Int) ∧ Below W.heap.size W w1) ?_ ((HK.out W).mono fun e w' h => ⟨_, h.1, rfl, h.2⟩) ?_
      · go_simp
      · rintro v W' ⟨rfl, hb⟩
        exact ⟨_, rfl, rfl, trivial, hg.calls hb 10 (by decide)⟩
    | 11, ho =>
      cases ho
      have q15 : x.tmps[15]?.getD undef = .int .i64 (q : Int) := hk.dep 10 15 (by kernel_rfl) (by kernel_rfl)
      refine .inl ⟨wanted_plain rfl, ?_⟩
      refine wp_value (v := .int .i64 (m25 : Int)) (w' := W) ?_ ⟨_, rfl, rfl, trivial, hg.quiet 11 (by decide)⟩
      go_simp
    | 12, ho =>
      cases ho
      have q12 : x.tmps[12]?.getD undef = .int .i64 (b.at_ : Int) := hk.dep 7 12 (by kernel_rfl) (by kernel_rfl)
      have q16 : x.tmps[16]?.getD undef = .int .i64 (m25 : Int) := hk.dep 11 16 (by kernel_rfl) (by kernel_rfl)
      refine .inl ⟨wanted_plain rfl, ?_⟩
      refine wp_value (v := .int .i64 (T : Int)) (w' := W) ?_ ⟨_, rfl, rfl, trivial, hg.quiet 12 (by decide)⟩
      go_simp
    | 13, ho =>
      cases ho
      have q6 : x.tmps[6]?.getD undef = .string b.key := hk.dep 1 6 (by kernel_rfl) (by kernel_rfl)
      have q10 : x.tmps[10]?.getD undef = .int .i64 (n1 : Int) := hk.dep 5 10 (by kernel_rfl) (by kernel_rfl)
      have q17 : x.tmps[17]?.getD undef = .int .i64 (T : Int) := hk.dep 12 17 (by kernel_rfl) (by kernel_rfl)
      refine .inl ⟨wanted_plain rfl, ?_⟩
      refine wp_value (v := .agg #[.string b.key, .int .i64 (n1 : Int), .int .i64 (T : Int)]) (w' := W) ?_ ⟨_, rfl, rfl, trivial, hg.quiet 13 (by decide)⟩
      go_simp
    | 14, ho =>
      cases ho
      have q4 : x.tmps[4]?.getD undef = .pointer (some ⟨b4, 0, none⟩) := hk.fix 4 (by kernel_rfl)
      have q18 : x.tmps[18]?.getD undef = .agg #[.string b.key, .int .i64 (n1 : Int), .int .i64 (T : Int)] := hk.dep 13 18 (by kernel_rfl) (by kernel_rfl)
      refine .inl ⟨wanted_plain rfl, ?_⟩
      have hg2 := hg.var
      have hni : ¬ (listed.getD 14 false = true) := by rw [hun]; decide
      rw [if_neg hni] at hg2
      refine wp_skip (w' := W.setRow b4 #[.string b.key, .int .i64 (n1 : Int), .int .i64 (T : Int)]) ?_ ⟨undef, rfl, rfl, trivial, hg.stored (by rw [hs]; decide)⟩
      exact run_store_op 54 _ _ rfl b4 #[.string b.key, .int .i64 (n1 : Int), .int .i64 (T : Int)] ((eval_slot x 4).trans q4) ((eval_slot x 18).trans q18) 54 #[.string ⟨#[]⟩, .int .i64 0, .int .i64 0] hg2 bu_size rfl (by simp [Value.oneCell'])
    | _ + 15, ho => cases ho
  intro listed x w3 hall hg hk
  have e5 : x.tmps[5]?.getD undef = .pointer (some ⟨b0, 0, none⟩) := hk.last 0 5 (by decide) (by kernel_rfl)
  have e6 : x.tmps[6]?.getD undef = .string b.key := hk.last 1 6 (by decide) (by kernel_rfl)
  have e7 : x.tmps[7]?.getD undef = .agg #[.string b.key, .int .i64 (b.left : Int), .int .i64 (b.at_ : Int)] := hk.last 2 7 (by decide) (by kernel_rfl)
  have e8 : x.tmps[8]?.getD undef = .int .i64 (now : Int) := hk.last 3 8 (by decide) (by kernel_rfl)
  have e9 : x.tmps[9]?.getD undef = .int .i64 (m : Int) := hk.last 4 9 (by decide) (by kernel_rfl)
  have e10 : x.tmps[10]?.getD undef = .int .i64 (n1 : Int) := hk.last 5 10 (by decide) (by kernel_rfl)
  have e11 : x.tmps[11]?.getD undef = .pointer (some ⟨b0, 2, none⟩) := hk.last 6 11 (by decide) (by kernel_rfl)
  have e12 : x.tmps[12]?.getD undef = .int .i64 (b.at_ : Int) := hk.last 7 12 (by decide) (by kernel_rfl)
  have e13 : x.tmps[13]?.getD undef = .agg #[.string b.key, .int .i64 (b.left : Int), .int .i64 (b.at_ : Int)] := hk.last 8 13 (by decide) (by kernel_rfl)
  have e14 : x.tmps[14]?.getD undef = .int .i64 (now : Int) := hk.last 9 14 (by decide) (by kernel_rfl)
  have e15 : x.tmps[15]?.getD undef = .int .i64 (q : Int) := hk.last 10 15 (by decide) (by kernel_rfl)
  have e16 : x.tmps[16]?.getD undef = .int .i64 (m25 : Int) := hk.last 11 16 (by decide) (by kernel_rfl)
  have e17 : x.tmps[17]?.getD undef = .int .i64 (T : Int) := hk.last 12 17 (by decide) (by kernel_rfl)
  have e18 : x.tmps[18]?.getD undef = .agg #[.string b.key, .int .i64 (n1 : Int), .int .i64 (T : Int)] := hk.last 13 18 (by decide) (by kernel_rfl)
  have hkp := Lib.hid hg.kept
  have hvar := hg.var
  rw [if_pos (hall 14 (by decide))] at hvar
  have hx := hk.act [5, 6, 7, 8, 9, 10, 11, 12, 13, 14, 15, 16, 17, 18] (by kernel_rfl)
  clear hk hg hall
  simp only [List.foldl_cons, List.foldl_nil, e5, e6, e7, e8, e9, e10, e11, e12, e13, e14, e15, e16, e17, e18] at hx
  clear e5 e6 e7 e8 e9 e10 e11 e12 e13 e14 e15 e16 e17 e18
  subst hx
  simp only [Act.put, List.setIfInBounds_toArray, List.set_cons_succ, List.set_cons_zero]
  have HB3 := Lib.hid (Kept.below HB0.out hkp.out (fun k hk => by rw [hk]; omega) HB0.out.size)
  have HVR := Lib.hid hvar
  clear hkp hvar
  go_wp2_with fail
  refine bodyPost_ret (results_cell_row (P := Try.prog) rfl _ _ b4 54 _ (0, 0) _ rfl HVR.out Try.underlying54 rfl bu_size) rfl ?_
  exact ⟨rfl, HB3.out⟩
end Go.Proofs.Ytbldonkfboahmaa
