/-
  Proves the statement of ShaParts: for every text and every two places the law returns true (how a text is parted makes no difference), and its arguments read as they did. Condition: the package-level tables cubeRoots and squareRoots hold what their texts lay.
-/
import Derived.Test.YtnoekmhpgaabjaaDoorShort06
import Derived.Test.YtnoekmhpgaabjaaDoorShR
import Derived.Test.YtnoekmhpgaabjaaDoorShS
import Derived.Test.YtnoekmhpgaabjaaDoorCards
import Derived.Test.YtnoekmhpgaabjaaDoorTie
namespace Go.Proofs.YtnoekmhpgaabjaaDoor.shaParts
open Go.ChangeShapes Go.WideShapes Go.ChangeAt Go.RowKit
open Go.ChangeMaps (open_string shut_string)

/-- What each operation of the last statement leaves. -/
def Vs (t P1 P2 P3 D E : ByteArray) (lo hi : Nat) : Nat → Value → World → Prop
  | 0, v, _ => v = .bool true
  | 1, v, _ => v = .bool true
  | 2, v, _ => v = .string t
  | 3, v, _ => v = .int .i64 (lo : Int)
  | 4, v, _ => v = .string P1
  | 5, v, _ => v = .string t
  | 6, v, _ => v = .int .i64 (lo : Int)
  | 7, v, _ => v = .int .i64 (hi : Int)
  | 8, v, _ => v = .string P2
  | 9, v, _ => v = .string t
  | 10, v, _ => v = .int .i64 (hi : Int)
  | 11, v, _ => v = .string P3
  | 12, v, w => LaidL [P1, P2, P3] v w
  | 13, v, _ => v = .string D
  | 14, v, _ => v = .string t
  | 15, v, w => LaidL [t] v w
  | 16, v, _ => v = .string D
  | 17, v, _ => v = .bool true
  | 18, v, _ => v = .bool true
  | 19, v, _ => v = .bool true
  | 20, v, _ => v = .string t
  | 21, v, w => LaidL [⟨#[]⟩, t] v w
  | 22, v, _ => v = .string D
  | 23, v, _ => v = .string t
  | 24, v, w => LaidL [t] v w
  | 25, v, _ => v = .string D
  | 26, v, _ => v = .bool true
  | 27, v, _ => v = .bool true
  | 28, v, _ => v = .bool true
  | 29, v, _ => v = .string E
  | 30, v, w => LaidL [⟨#[]⟩] v w
  | 31, v, _ => v = .string E
  | 32, v, _ => v = .bool true
  | 33, v, _ => v = .bool true
  | 34, v, _ => v = .bool true
  | _, _, _ => True
theorem Vs_below {t P1 P2 P3 D E : ByteArray} {lo hi : Nat} (i : Nat) (v : Value) (w w' : World) (h : Vs t P1 P2 P3 D E lo hi i v w) (hb : Below w.heap.size w w') : Vs t P1 P2 P3 D E lo hi i v w' := by
  match i, h with
  | 0, h => exact h
  | 1, h => exact h
  | 2, h => exact h
  | 3, h => exact h
  | 4, h => exact h
  | 5, h => exact h
  | 6, h => exact h
  | 7, h => exact h
  | 8, h => exact h
  | 9, h => exact h
  | 10, h => exact h
  | 11, h => exact h
  | 12, h => exact LaidL.below h hb
  | 13, h => exact h
  | 14, h => exact h
  | 15, h => exact LaidL.below h hb
  | 16, h => exact h
  | 17, h => exact h
  | 18, h => exact h
  | 19, h => exact h
  | 20, h => exact h
  | 21, h => exact LaidL.below h hb
  | 22, h => exact h
  | 23, h => exact h
  | 24, h => exact LaidL.below h hb
  | 25, h => exact h
  | 26, h => exact h
  | 27, h => exact h
  | 28, h => exact h
  | 29, h => exact h
  | 30, h => exact LaidL.below h hb
  | 31, h => exact h
  | 32, h => exact h
  | 33, h => exact h
  | 34, h => exact h
  | _ + 35, _ => exact trivial
theorem mod_two (q : Int) (M : Nat) (hM : M ≤ 1000000) : ∃ m : Nat, m ≤ M ∧ (wrap64 (wrap64 (q.tmod ((M : Int) + 1) + (M : Int)) + 1)).tmod ((M : Int) + 1) = (m : Int) := by
  have h1 := Int.tmod_lt_of_pos q (show (0 : Int) < (M : Int) + 1 by omega)
  have h2 : -((M : Int) + 1) < q.tmod ((M : Int) + 1) := by
    have := Int.tmod_lt_of_pos (-q) (show (0 : Int) < (M : Int) + 1 by omega)
    rw [Int.neg_tmod] at this
    omega
  generalize q.tmod ((M : Int) + 1) = t at h1 h2 ⊢
  have h3 : wrap64 (wrap64 (t + (M : Int)) + 1) = t + (M : Int) + 1 := by
    simp only [wrap64]
    omega
  rw [h3]
  have h5 := Int.tmod_lt_of_pos (t + (M : Int) + 1) (show (0 : Int) < (M : Int) + 1 by omega)
  have h4 : 0 ≤ (t + (M : Int) + 1).tmod ((M : Int) + 1) := Int.tmod_nonneg _ (by omega)
  exact ⟨((t + (M : Int) + 1).tmod ((M : Int) + 1)).toNat, by omega, by omega⟩
theorem three_parts (t : ByteArray) (i k : Nat) (h1 : i ≤ k) : (tx [t.extract 0 i, t.extract i k, t.extract k t.size]).flatten = t.data.toList := by
  have hl : t.data.toList.length = t.size := by simp
  have e1 : (t.extract 0 i).data.toList = t.data.toList.take i := by simp
  have e2 : (t.extract i k).data.toList = (t.data.toList.take k).drop i := by simp [List.drop_take]
  have e3 : (t.extract k t.size).data.toList = t.data.toList.drop k := by
    simp
    apply List.take_of_length_le
    simp
  show (t.extract 0 i).data.toList ++ ((t.extract i k).data.toList ++ ((t.extract k t.size).data.toList ++ [])) = _
  rw [e1, e2, e3, List.append_nil]
  have e4 : t.data.toList.take i = (t.data.toList.take k).take i := by rw [List.take_take, Nat.min_eq_left h1]
  rw [e4, ← List.append_assoc, List.take_append_drop, List.take_append_drop]

set_option maxRecDepth 100000 in
set_option maxHeartbeats 8000000 in
theorem walk (s : ByteArray) (a b : Int) (hs : s.size ≤ maxLen) (w : World) (ht : Tab w) :
    Calls Tryd.prog 5 #[.string s, .int .i64 a, .int .i64 b] w fun e w' => e = .returned (.bool true) ∧ Below w.heap.size w w' := by
  have hcz := cut_size s 300
  have HS := Lib.hid (fun W => short_any s 300 hs W)
  generalize cut s 300 = t at hcz HS
  have HT := Lib.hid ht
  clear ht hs
  go_enter Tryd.func5, Tryd.ntmps5
  go_wp2_with fail
  refine (awake_any _ (by exact HT.out)).mono ?_
  rintro e wr ⟨rfl, hb1⟩
  have HB1 := Lib.hid hb1
  have HT1 := Lib.hid (HT.out.next hb1)
  clear hb1
  go_wp2_with fail
  refine (HS.out _).mono ?_
  rintro e w2 ⟨rfl, rfl⟩
  obtain ⟨i1, hj1, ea⟩ := mod_two a t.size (by omega)
  obtain ⟨k1, hk1, eb⟩ := mod_two b t.size (by omega)
  obtain ⟨lo, hlo⟩ : ∃ lo, min i1 k1 = lo := ⟨_, rfl⟩
  obtain ⟨hi, hhi⟩ : ∃ hi, max i1 k1 = hi := ⟨_, rfl⟩
  have emn : min (i1 : Int) (k1 : Int) = (lo : Int) := by omega
  have emx : max (i1 : Int) (k1 : Int) = (hi : Int) := by omega
  have hl1 : lo ≤ hi := by omega
  have hl2 : hi ≤ t.size := by omega
  have h3p := three_parts t lo hi hl1
  have hz1 : (t.extract 0 lo).size ≤ 300 := by simp; omega
  have hz2 : (t.extract lo hi).size ≤ 300 := by simp; omega
  have hz3 : (t.extract hi t.size).size ≤ 300 := by simp; omega
  obtain ⟨P1, hP1⟩ : ∃ P, t.extract 0 lo = P := ⟨_, rfl⟩
  obtain ⟨P2, hP2⟩ : ∃ P, t.extract lo hi = P := ⟨_, rfl⟩
  obtain ⟨P3, hP3⟩ : ∃ P, t.extract hi t.size = P := ⟨_, rfl⟩
  rw [hP1, hP2, hP3] at h3p
  rw [hP1] at hz1
  rw [hP2] at hz2
  rw [hP3] at hz3
  obtain ⟨D, hD⟩ : ∃ D, ba (dig t.data.toList) = D := ⟨_, rfl⟩
  obtain ⟨E, hE⟩ : ∃ E, ba (dig []) = E := ⟨_, rfl⟩
  have HC60 := Lib.hid (fun W v (h : LaidL [P1, P2, P3] v W) (ht : Tab W) => LaidL.sum (by simp) (by simp [len]; omega) D (by rw [h3p]; exact hD) W v h ht)
  have HC63 := Lib.hid (fun W v (h : LaidL [t] v W) (ht : Tab W) => LaidL.sum (by simp) (by simp [len]; omega) D (by rw [show (tx [t]).flatten = t.data.toList by simp [tx]]; exact hD) W v h ht)
  have HC69 := Lib.hid (fun W v (h : LaidL [⟨#[]⟩, t] v W) (ht : Tab W) => LaidL.sum (by simp) (by simp [len]; show 0 + t.size ≤ _; omega) D (by rw [show (tx [⟨#[]⟩, t]).flatten = t.data.toList by simp [tx]]; exact hD) W v h ht)
  have HC76 := Lib.hid (fun W (ht : Tab W) => sum_none E hE W ht)
  have HC78 := Lib.hid (fun W v (h : LaidL [⟨#[]⟩] v W) (ht : Tab W) => LaidL.sum (by simp) (by decide) E (by rw [show (tx [(⟨#[]⟩ : ByteArray)]).flatten = [] by simp [tx]]; exact hE) W v h ht)
  have hDD := same_str D
  have hEE := same_str E
  have hi0 : (lo : Int) ≤ (hi : Int) := by omega
  have hi1 : (lo : Int) ≤ (t.size : Int) := by omega
  have hi3 : lo ≤ t.size := by omega
  have hi4 : ¬ t.size < lo := by omega
  have hi5 : ¬ t.size < hi := by omega
  have hi6 : ¬ hi < lo := by omega
  have hi2 : (hi : Int) ≤ (t.size : Int) := by omega
  have HTr := HT1
  clear hD hE h3p hz1 hz2 hz3 hlo hhi hk1 HS HT
  go_wp2_with fail
  refine wp_region_inv (by kernel_rfl) (Vs t P1 P2 P3 D E lo hi) (fun W => Below wr.heap.size wr W ∧ Tab W) (fun W W' => Below W.heap.size W W') (by kernel_rfl) (by kernel_rfl) 81 rfl (by kernel_rfl) Vs_below ⟨(Below.refl _ _).drew, HTr.out.next (Below.refl _ _).drew⟩ ?_ ?_
  · intro i o ho x W hk
    match i, ho with
    | 0, ho =>
      cases ho
      have qf7 : x.tmps[7]?.getD undef = .bool true := hk.fix 7 (by kernel_rfl)
      refine ⟨wanted_plain rfl, ?_⟩
      refine wp_value (v := .bool true) (w' := W) ?_ ⟨_, rfl, rfl, Below.refl _ _, hk.world⟩
      go_simp
    | 1, ho =>
      cases ho
      have q0 : x.tmps[47]?.getD undef = .bool true := hk.dep 0 47 (by kernel_rfl) (by kernel_rfl)
      refine ⟨wanted_plain rfl, ?_⟩
      refine wp_value (v := .bool true) (w' := W) ?_ ⟨_, rfl, rfl, Below.refl _ _, hk.world⟩
      go_simp
    | 2, ho =>
      cases ho
      have qf0 : x.tmps[0]?.getD undef = .string t := hk.fix 0 (by kernel_rfl)
      refine ⟨wanted_guard (g := 1) (d := 48) (by rfl) (by kernel_rfl) (show x.tmps[48]?.getD undef = .bool true from hk.dep 1 48 (by kernel_rfl) (by kernel_rfl)), ?_⟩
      refine wp_value (v := .string t) (w' := W) ?_ ⟨_, rfl, rfl, Below.refl _ _, hk.world⟩
      go_simp
    | 3, ho =>
      cases ho
      have qf10 : x.tmps[10]?.getD undef = .int .i64 (lo : Int) := hk.fix 10 (by kernel_rfl)
      refine ⟨wanted_guard (g := 1) (d := 48) (by rfl) (by kernel_rfl) (show x.tmps[48]?.getD undef = .bool true from hk.dep 1 48 (by kernel_rfl) (by kernel_rfl)), ?_⟩
      refine wp_value (v := .int .i64 (lo : Int)) (w' := W) ?_ ⟨_, rfl, rfl, Below.refl _ _, hk.world⟩
      go_simp
    | 4, ho =>
      cases ho
      have q2 : x.tmps[49]?.getD undef = .string t := hk.dep 2 49 (by kernel_rfl) (by kernel_rfl)
      have q3 : x.tmps[50]?.getD undef = .int .i64 (lo : Int) := hk.dep 3 50 (by kernel_rfl) (by kernel_rfl)
      refine ⟨wanted_guard (g := 1) (d := 48) (by rfl) (by kernel_rfl) (show x.tmps[48]?.getD undef = .bool true from hk.dep 1 48 (by kernel_rfl) (by kernel_rfl)), ?_⟩
      refine wp_value (v := .string P1) (w' := W) ?_ ⟨_, rfl, rfl, Below.refl _ _, hk.world⟩
      go_simp
    | 5, ho =>
      cases ho
      have qf0 : x.tmps[0]?.getD undef = .string t := hk.fix 0 (by kernel_rfl)
      refine ⟨wanted_guard (g := 1) (d := 48) (by rfl) (by kernel_rfl) (show x.tmps[48]?.getD undef = .bool true from hk.dep 1 48 (by kernel_rfl) (by kernel_rfl)), ?_⟩
      refine wp_value (v := .string t) (w' := W) ?_ ⟨_, rfl, rfl, Below.refl _ _, hk.world⟩
      go_simp
    | 6, ho =>
      cases ho
      have qf10 : x.tmps[10]?.getD undef = .int .i64 (lo : Int) := hk.fix 10 (by kernel_rfl)
      refine ⟨wanted_guard (g := 1) (d := 48) (by rfl) (by kernel_rfl) (show x.tmps[48]?.getD undef = .bool true from hk.dep 1 48 (by kernel_rfl) (by kernel_rfl)), ?_⟩
      refine wp_value (v := .int .i64 (lo : Int)) (w' := W) ?_ ⟨_, rfl, rfl, Below.refl _ _, hk.world⟩
      go_simp
    | 7, ho =>
      cases ho
      have qf11 : x.tmps[11]?.getD undef = .int .i64 (hi : Int) := hk.fix 11 (by kernel_rfl)
      refine ⟨wanted_guard (g := 1) (d := 48) (by rfl) (by kernel_rfl) (show x.tmps[48]?.getD undef = .bool true from hk.dep 1 48 (by kernel_rfl) (by kernel_rfl)), ?_⟩
      refine wp_value (v := .int .i64 (hi : Int)) (w' := W) ?_ ⟨_, rfl, rfl, Below.refl _ _, hk.world⟩
      go_simp
    | 8, ho =>
      cases ho
      have q5 : x.tmps[52]?.getD undef = .string t := hk.dep 5 52 (by kernel_rfl) (by kernel_rfl)
      have q6 : x.tmps[53]?.getD undef = .int .i64 (lo : Int) := hk.dep 6 53 (by kernel_rfl) (by kernel_rfl)
      have q7 : x.tmps[54]?.getD undef = .int .i64 (hi : Int) := hk.dep 7 54 (by kernel_rfl) (by kernel_rfl)
      refine ⟨wanted_guard (g := 1) (d := 48) (by rfl) (by kernel_rfl) (show x.tmps[48]?.getD undef = .bool true from hk.dep 1 48 (by kernel_rfl) (by kernel_rfl)), ?_⟩
      refine wp_value (v := .string P2) (w' := W) ?_ ⟨_, rfl, rfl, Below.refl _ _, hk.world⟩
      go_simp
    | 9, ho =>
      cases ho
      have qf0 : x.tmps[0]?.getD undef = .string t := hk.fix 0 (by kernel_rfl)
      refine ⟨wanted_guard (g := 1) (d := 48) (by rfl) (by kernel_rfl) (show x.tmps[48]?.getD undef = .bool true from hk.dep 1 48 (by kernel_rfl) (by kernel_rfl)), ?_⟩
      refine wp_value (v := .string t) (w' := W) ?_ ⟨_, rfl, rfl, Below.refl _ _, hk.world⟩
      go_simp
    | 10, ho =>
      cases ho
      have qf11 : x.tmps[11]?.getD undef = .int .i64 (hi : Int) := hk.fix 11 (by kernel_rfl)
      refine ⟨wanted_guard (g := 1) (d := 48) (by rfl) (by kernel_rfl) (show x.tmps[48]?.getD undef = .bool true from hk.dep 1 48 (by kernel_rfl) (by kernel_rfl)), ?_⟩
      refine wp_value (v := .int .i64 (hi : Int)) (w' := W) ?_ ⟨_, rfl, rfl, Below.refl _ _, hk.world⟩
      go_simp
    | 11, ho =>
      cases ho
      have q9 : x.tmps[56]?.getD undef = .string t := hk.dep 9 56 (by kernel_rfl) (by kernel_rfl)
      have q10 : x.tmps[57]?.getD undef = .int .i64 (hi : Int) := hk.dep 10 57 (by kernel_rfl) (by kernel_rfl)
      refine ⟨wanted_guard (g := 1) (d := 48) (by rfl) (by kernel_rfl) (show x.tmps[48]?.getD undef = .bool true from hk.dep 1 48 (by kernel_rfl) (by kernel_rfl)), ?_⟩
      refine wp_value (v := .string P3) (w' := W) ?_ ⟨_, rfl, rfl, Below.refl _ _, hk.world⟩
      go_simp
    | 12, ho =>
      cases ho
      have q4 : x.tmps[51]?.getD undef = .string P1 := hk.dep 4 51 (by kernel_rfl) (by kernel_rfl)
      have q8 : x.tmps[55]?.getD undef = .string P2 := hk.dep 8 55 (by kernel_rfl) (by kernel_rfl)
      have q11 : x.tmps[58]?.getD undef = .string P3 := hk.dep 11 58 (by kernel_rfl) (by kernel_rfl)
      refine ⟨wanted_guard (g := 1) (d := 48) (by rfl) (by kernel_rfl) (show x.tmps[48]?.getD undef = .bool true from hk.dep 1 48 (by kernel_rfl) (by kernel_rfl)), ?_⟩
      refine wp_value (v := .slice (some ⟨W.heap.size, 0, none⟩) 3 3) (w' := W.alloc (.cells #[.string P1, .string P2, .string P3] 9)) ?_ ⟨_, rfl, LaidL.new [P1, P2, P3] W, (Below.refl _ _).alloc (Nat.le_refl _) _, hk.world.1.alloc hk.world.1.size _, hk.world.2.next ((Below.refl _ _).alloc (Nat.le_refl _) _)⟩
      go_simp
    | 13, ho =>
      cases ho
      have q12 : LaidL [P1, P2, P3] (x.tmps[59]?.getD undef) W := hk.dep 12 59 (by kernel_rfl) (by kernel_rfl)
      refine ⟨wanted_guard (g := 1) (d := 48) (by rfl) (by kernel_rfl) (show x.tmps[48]?.getD undef = .bool true from hk.dep 1 48 (by kernel_rfl) (by kernel_rfl)), ?_⟩
      refine wp_enter (f := 11) (args := #[x.tmps[59]?.getD undef]) (w' := W) ?_ (HC60.out _ _ q12 hk.world.2) ?_
      · go_simp
      · rintro v W' ⟨rfl, hb⟩
        exact ⟨_, rfl, rfl, hb, hk.world.1.trans (hb.mono hk.world.1.size), hk.world.2.next hb⟩
    | 14, ho =>
      cases ho
      have qf0 : x.tmps[0]?.getD undef = .string t := hk.fix 0 (by kernel_rfl)
      refine ⟨wanted_guard (g := 1) (d := 48) (by rfl) (by kernel_rfl) (show x.tmps[48]?.getD undef = .bool true from hk.dep 1 48 (by kernel_rfl) (by kernel_rfl)), ?_⟩
      refine wp_value (v := .string t) (w' := W) ?_ ⟨_, rfl, rfl, Below.refl _ _, hk.world⟩
      go_simp
    | 15, ho =>
      cases ho
      have q14 : x.tmps[61]?.getD undef = .string t := hk.dep 14 61 (by kernel_rfl) (by kernel_rfl)
      refine ⟨wanted_guard (g := 1) (d := 48) (by rfl) (by kernel_rfl) (show x.tmps[48]?.getD undef = .bool true from hk.dep 1 48 (by kernel_rfl) (by kernel_rfl)), ?_⟩
      refine wp_value (v := .slice (some ⟨W.heap.size, 0, none⟩) 1 1) (w' := W.alloc (.cells #[.string t] 9)) ?_ ⟨_, rfl, LaidL.new [t] W, (Below.refl _ _).alloc (Nat.le_refl _) _, hk.world.1.alloc hk.world.1.size _, hk.world.2.next ((Below.refl _ _).alloc (Nat.le_refl _) _)⟩
      go_simp
    | 16, ho =>
      cases ho
      have q15 : LaidL [t] (x.tmps[62]?.getD undef) W := hk.dep 15 62 (by kernel_rfl) (by kernel_rfl)
      refine ⟨wanted_guard (g := 1) (d := 48) (by rfl) (by kernel_rfl) (show x.tmps[48]?.getD undef = .bool true from hk.dep 1 48 (by kernel_rfl) (by kernel_rfl)), ?_⟩
      refine wp_enter (f := 11) (args := #[x.tmps[62]?.getD undef]) (w' := W) ?_ (HC63.out _ _ q15 hk.world.2) ?_
      · go_simp
      · rintro v W' ⟨rfl, hb⟩
        exact ⟨_, rfl, rfl, hb, hk.world.1.trans (hb.mono hk.world.1.size), hk.world.2.next hb⟩
    | 17, ho =>
      cases ho
      have q13 : x.tmps[60]?.getD undef = .string D := hk.dep 13 60 (by kernel_rfl) (by kernel_rfl)
      have q16 : x.tmps[63]?.getD undef = .string D := hk.dep 16 63 (by kernel_rfl) (by kernel_rfl)
      refine ⟨wanted_guard (g := 1) (d := 48) (by rfl) (by kernel_rfl) (show x.tmps[48]?.getD undef = .bool true from hk.dep 1 48 (by kernel_rfl) (by kernel_rfl)), ?_⟩
      refine wp_value (v := .bool true) (w' := W) ?_ ⟨_, rfl, rfl, Below.refl _ _, hk.world⟩
      go_simp
    | 18, ho =>
      cases ho
      have q1 : x.tmps[48]?.getD undef = .bool true := hk.dep 1 48 (by kernel_rfl) (by kernel_rfl)
      have q17 : x.tmps[64]?.getD undef = .bool true := hk.dep 17 64 (by kernel_rfl) (by kernel_rfl)
      refine ⟨wanted_plain rfl, ?_⟩
      refine wp_value (v := .bool true) (w' := W) ?_ ⟨_, rfl, rfl, Below.refl _ _, hk.world⟩
      go_simp
    | 19, ho =>
      cases ho
      have q18 : x.tmps[65]?.getD undef = .bool true := hk.dep 18 65 (by kernel_rfl) (by kernel_rfl)
      refine ⟨wanted_plain rfl, ?_⟩
      refine wp_value (v := .bool true) (w' := W) ?_ ⟨_, rfl, rfl, Below.refl _ _, hk.world⟩
      go_simp
    | 20, ho =>
      cases ho
      have qf0 : x.tmps[0]?.getD undef = .string t := hk.fix 0 (by kernel_rfl)
      refine ⟨wanted_guard (g := 19) (d := 66) (by rfl) (by kernel_rfl) (show x.tmps[66]?.getD undef = .bool true from hk.dep 19 66 (by kernel_rfl) (by kernel_rfl)), ?_⟩
      refine wp_value (v := .string t) (w' := W) ?_ ⟨_, rfl, rfl, Below.refl _ _, hk.world⟩
      go_simp
    | 21, ho =>
      cases ho
      have q20 : x.tmps[67]?.getD undef = .string t := hk.dep 20 67 (by kernel_rfl) (by kernel_rfl)
      refine ⟨wanted_guard (g := 19) (d := 66) (by rfl) (by kernel_rfl) (show x.tmps[66]?.getD undef = .bool true from hk.dep 19 66 (by kernel_rfl) (by kernel_rfl)), ?_⟩
      refine wp_value (v := .slice (some ⟨W.heap.size, 0, none⟩) 2 2) (w' := W.alloc (.cells #[.string ⟨#[]⟩, .string t] 9)) ?_ ⟨_, rfl, LaidL.new [⟨#[]⟩, t] W, (Below.refl _ _).alloc (Nat.le_refl _) _, hk.world.1.alloc hk.world.1.size _, hk.world.2.next ((Below.refl _ _).alloc (Nat.le_refl _) _)⟩
      go_simp
    | 22, ho =>
      cases ho
      have q21 : LaidL [⟨#[]⟩, t] (x.tmps[68]?.getD undef) W := hk.dep 21 68 (by kernel_rfl) (by kernel_rfl)
      refine ⟨wanted_guard (g := 19) (d := 66) (by rfl) (by kernel_rfl) (show x.tmps[66]?.getD undef = .bool true from hk.dep 19 66 (by kernel_rfl) (by kernel_rfl)), ?_⟩
      refine wp_enter (f := 11) (args := #[x.tmps[68]?.getD undef]) (w' := W) ?_ (HC69.out _ _ q21 hk.world.2) ?_
      · go_simp
      · rintro v W' ⟨rfl, hb⟩
        exact ⟨_, rfl, rfl, hb, hk.world.1.trans (hb.mono hk.world.1.size), hk.world.2.next hb⟩
    | 23, ho =>
      cases ho
      have qf0 : x.tmps[0]?.getD undef = .string t := hk.fix 0 (by kernel_rfl)
      refine ⟨wanted_guard (g := 19) (d := 66) (by rfl) (by kernel_rfl) (show x.tmps[66]?.getD undef = .bool true from hk.dep 19 66 (by kernel_rfl) (by kernel_rfl)), ?_⟩
      refine wp_value (v := .string t) (w' := W) ?_ ⟨_, rfl, rfl, Below.refl _ _, hk.world⟩
      go_simp
    | 24, ho =>
      cases ho
      have q23 : x.tmps[70]?.getD undef = .string t := hk.dep 23 70 (by kernel_rfl) (by kernel_rfl)
      refine ⟨wanted_guard (g := 19) (d := 66) (by rfl) (by kernel_rfl) (show x.tmps[66]?.getD undef = .bool true from hk.dep 19 66 (by kernel_rfl) (by kernel_rfl)), ?_⟩
      refine wp_value (v := .slice (some ⟨W.heap.size, 0, none⟩) 1 1) (w' := W.alloc (.cells #[.string t] 9)) ?_ ⟨_, rfl, LaidL.new [t] W, (Below.refl _ _).alloc (Nat.le_refl _) _, hk.world.1.alloc hk.world.1.size _, hk.world.2.next ((Below.refl _ _).alloc (Nat.le_refl _) _)⟩
      go_simp
    | 25, ho =>
      cases ho
      have q24 : LaidL [t] (x.tmps[71]?.getD undef) W := hk.dep 24 71 (by kernel_rfl) (by kernel_rfl)
      refine ⟨wanted_guard (g := 19) (d := 66) (by rfl) (by kernel_rfl) (show x.tmps[66]?.getD undef = .bool true from hk.dep 19 66 (by kernel_rfl) (by kernel_rfl)), ?_⟩
      refine wp_enter (f := 11) (args := #[x.tmps[71]?.getD undef]) (w' := W) ?_ (HC63.out _ _ q24 hk.world.2) ?_
      · go_simp
      · rintro v W' ⟨rfl, hb⟩
        exact ⟨_, rfl, rfl, hb, hk.world.1.trans (hb.mono hk.world.1.size), hk.world.2.next hb⟩
    | 26, ho =>
      cases ho
      have q22 : x.tmps[69]?.getD undef = .string D := hk.dep 22 69 (by kernel_rfl) (by kernel_rfl)
      have q25 : x.tmps[72]?.getD undef = .string D := hk.dep 25 72 (by kernel_rfl) (by kernel_rfl)
      refine ⟨wanted_guard (g := 19) (d := 66) (by rfl) (by kernel_rfl) (show x.tmps[66]?.getD undef = .bool true from hk.dep 19 66 (by kernel_rfl) (by kernel_rfl)), ?_⟩
      refine wp_value (v := .bool true) (w' := W) ?_ ⟨_, rfl, rfl, Below.refl _ _, hk.world⟩
      go_simp
    | 27, ho =>
      cases ho
      have q19 : x.tmps[66]?.getD undef = .bool true := hk.dep 19 66 (by kernel_rfl) (by kernel_rfl)
      have q26 : x.tmps[73]?.getD undef = .bool true := hk.dep 26 73 (by kernel_rfl) (by kernel_rfl)
      refine ⟨wanted_plain rfl, ?_⟩
      refine wp_value (v := .bool true) (w' := W) ?_ ⟨_, rfl, rfl, Below.refl _ _, hk.world⟩
      go_simp
    | 28, ho =>
      cases ho
      have q27 : x.tmps[74]?.getD undef = .bool true := hk.dep 27 74 (by kernel_rfl) (by kernel_rfl)
      refine ⟨wanted_plain rfl, ?_⟩
      refine wp_value (v := .bool true) (w' := W) ?_ ⟨_, rfl, rfl, Below.refl _ _, hk.world⟩
      go_simp
    | 29, ho =>
      cases ho
      refine ⟨wanted_guard (g := 28) (d := 75) (by rfl) (by kernel_rfl) (show x.tmps[75]?.getD undef = .bool true from hk.dep 28 75 (by kernel_rfl) (by kernel_rfl)), ?_⟩
      refine wp_enter (f := 11) (args := #[.slice none 0 0]) (w' := W) ?_ (HC76.out _ hk.world.2) ?_
      · go_simp
      · rintro v W' ⟨rfl, hb⟩
        exact ⟨_, rfl, rfl, hb, hk.world.1.trans (hb.mono hk.world.1.size), hk.world.2.next hb⟩
    | 30, ho =>
      cases ho
      refine ⟨wanted_guard (g := 28) (d := 75) (by rfl) (by kernel_rfl) (show x.tmps[75]?.getD undef = .bool true from hk.dep 28 75 (by kernel_rfl) (by kernel_rfl)), ?_⟩
      refine wp_value (v := .slice (some ⟨W.heap.size, 0, none⟩) 1 1) (w' := W.alloc (.cells #[.string ⟨#[]⟩] 9)) ?_ ⟨_, rfl, LaidL.new [⟨#[]⟩] W, (Below.refl _ _).alloc (Nat.le_refl _) _, hk.world.1.alloc hk.world.1.size _, hk.world.2.next ((Below.refl _ _).alloc (Nat.le_refl _) _)⟩
      go_simp
    | 31, ho =>
      cases ho
      have q30 : LaidL [⟨#[]⟩] (x.tmps[77]?.getD undef) W := hk.dep 30 77 (by kernel_rfl) (by kernel_rfl)
      refine ⟨wanted_guard (g := 28) (d := 75) (by rfl) (by kernel_rfl) (show x.tmps[75]?.getD undef = .bool true from hk.dep 28 75 (by kernel_rfl) (by kernel_rfl)), ?_⟩
      refine wp_enter (f := 11) (args := #[x.tmps[77]?.getD undef]) (w' := W) ?_ (HC78.out _ _ q30 hk.world.2) ?_
      · go_simp
      · rintro v W' ⟨rfl, hb⟩
        exact ⟨_, rfl, rfl, hb, hk.world.1.trans (hb.mono hk.world.1.size), hk.world.2.next hb⟩
    | 32, ho =>
      cases ho
      have q29 : x.tmps[76]?.getD undef = .string E := hk.dep 29 76 (by kernel_rfl) (by kernel_rfl)
      have q31 : x.tmps[78]?.getD undef = .string E := hk.dep 31 78 (by kernel_rfl) (by kernel_rfl)
      refine ⟨wanted_guard (g := 28) (d := 75) (by rfl) (by kernel_rfl) (show x.tmps[75]?.getD undef = .bool true from hk.dep 28 75 (by kernel_rfl) (by kernel_rfl)), ?_⟩
      refine wp_value (v := .bool true) (w' := W) ?_ ⟨_, rfl, rfl, Below.refl _ _, hk.world⟩
      go_simp
    | 33, ho =>
      cases ho
      have q28 : x.tmps[75]?.getD undef = .bool true := hk.dep 28 75 (by kernel_rfl) (by kernel_rfl)
      have q32 : x.tmps[79]?.getD undef = .bool true := hk.dep 32 79 (by kernel_rfl) (by kernel_rfl)
      refine ⟨wanted_plain rfl, ?_⟩
      refine wp_value (v := .bool true) (w' := W) ?_ ⟨_, rfl, rfl, Below.refl _ _, hk.world⟩
      go_simp
    | 34, ho =>
      cases ho
      have q33 : x.tmps[80]?.getD undef = .bool true := hk.dep 33 80 (by kernel_rfl) (by kernel_rfl)
      refine ⟨wanted_plain rfl, ?_⟩
      refine wp_value (v := .bool true) (w' := W) ?_ ⟨_, rfl, rfl, Below.refl _ _, hk.world⟩
      go_simp
    | _ + 35, ho => cases ho
  · intro x W hk
    have hlast : x.tmps[6]?.getD undef = .bool true := hk.last 34 6 (by decide) (by kernel_rfl)
    have hd := hk.defers
    have hW := hk.world.1
    clear hk
    go_wp2
    refine bodyPost_ret (v := .bool true) ?_ hd ⟨rfl, HB1.out.trans (hW.mono HB1.out.size)⟩
    rw [results_tmp (t := 6) (by rfl), Array.getD_eq_getD_getElem?, hlast]


/-! ### The row -/
set_option maxRecDepth 100000 in
theorem contract (H : Type) (enc : TypeId × Value → H) (W : World) (base : Nat) (args : Array Value) (ds gs : List (DataW H)) (before : List MemPlace)
    (hval : ∀ (j : Nat) t v, Tryd.f5.params[j]? = some t → args[j]? = some v → Value.okWide Tryd.prog W .any base t v)
    (hW : DataW.Whole enc Tryd.prog Tryd.f5.params.toList Rows.shaPartsSpec.vars false W args.toList ds gs before) (hL : laidMetH Tryd.prog Rows.shaPartsRow.laid W) :
    Calls Tryd.prog 5 args W fun e W' => ∃ v, e = .returned v ∧ Rows.shaPartsSpec.post enc Tryd.prog Tryd.f5 false true false false W args v W' := by
  have hW' := hW
  obtain ⟨p, q, hA0, hV, rfl, hfz, hnd⟩ := hW
  have hA : DataW.TrodAll enc Tryd.prog W 0 (fun _ => true) true Tryd.f5.params.toList args.toList ds p := hA0
  rw [Tryd.params5] at hA hval
  obtain ⟨v0, vs0, d0, ds0, p0, q0, hargs, rfl, rfl, h0, r0⟩ := trodAll_cons hA
  obtain ⟨v1, vs1, d1, ds1, p1, q1, rfl, rfl, rfl, h1, r1⟩ := trodAll_cons r0
  obtain ⟨v2, vs2, d2, ds2, p2, q2, rfl, rfl, rfl, h2, r2⟩ := trodAll_cons r1
  obtain ⟨rfl, rfl, rfl⟩ := trodAll_nil r2
  obtain rfl : args = #[v0, v1, v2] := by cases args; simp_all
  obtain ⟨rfl, rfl⟩ := trodVars_none hV
  refine law_contract (tb := 4) laidOut (by kernel_rfl) rfl (by kernel_rfl) Tryd.underlying4 rfl hW' ?_
  clear hA0 hW' hA
  obtain ⟨a0, rfl, _, _, w0⟩ := open_string Tryd.underlying9 (hval 0 9 v0 rfl rfl) h0
  obtain ⟨a1, rfl, rfl, rfl, w1⟩ := open_int Tryd.underlying3 (hval 1 3 v1 rfl rfl) h1
  obtain ⟨a2, rfl, rfl, rfl, w2⟩ := open_int Tryd.underlying3 (hval 2 3 v2 rfl rfl) h2
  exact walk a0 a1 a2 w0 W (tab_of_laid hL)

theorem laid_met (os : Os) : laidMet Tryd.prog Rows.shaPartsRow.laid ((laidWorld os).forCall (fun _ _ => 0) ⟨#[], #[.string ⟨#[]⟩, .int .i64 0, .int .i64 0], []⟩).memory :=
  laidMet_of_run' 8 (by kernel_rfl) (by kernel_rfl)
theorem reads (os : Os) {H : Type} (enc : TypeId × Value → H) : ∃ places, DataW.whole enc Tryd.prog ((laidWorld os).forCall (fun _ _ => 0) ⟨#[], #[.string ⟨#[]⟩, .int .i64 0, .int .i64 0], []⟩).memory Tryd.f5.params.toList Rows.shaPartsSpec.vars false (#[.string ⟨#[]⟩, .int .i64 0, .int .i64 0] : Array Value).toList 8 = some ([.lit (.string []), .lit (.int .i64 0), .lit (.int .i64 0)], [], places) :=
  ⟨[], by kernel_rfl⟩

set_option maxRecDepth 100000 in
theorem lifted (os : Os) (started : os.Started) (H : Type) (enc : TypeId × Value → H) (F : Stop.Interp) :
    ReturnsInHanded {} Tryd.checked os 5 .any ((OpenSpec.ofChange Rows.shaPartsSpec).preRow enc Tryd.prog Tryd.f5 Rows.shaPartsRow.domain false Rows.shaPartsRow.laid) (((OpenSpec.ofChange Rows.shaPartsSpec).at F).post enc Tryd.prog Tryd.f5 false true false false) := by
  obtain ⟨places, hx⟩ := reads os enc
  refine returnsInHanded_of_row (C := Tryd.checked) (s := OpenSpec.ofChange Rows.shaPartsSpec) own started (by kernel_rfl) Tryd.func5
    (witness_row_at (enc := enc) (C := Tryd.checked) false (laidWorld os) #[.string ⟨#[]⟩, .int .i64 0, .int .i64 0] rfl (by kernel_rfl) (by kernel_rfl) (by kernel_rfl)
      (OpenSpec.preRow_of_cond 8 hx (by kernel_rfl) (fun k hk => by cases hk) (by kernel_rfl) (laid_met os))) ?_
  intro W base args ds gs before hval hW _ _ _ hL _ _
  exact contract H enc W base args ds gs before hval hW hL

theorem said : Rows.ShaPartsSaid :=
  OpenClaim.holds_of_cond 5 Tryd.f5 rfl rfl rfl rfl rfl rfl rfl ⟨rfl, rfl, rfl, rfl, rfl⟩ rfl rfl rfl rfl rfl (by kernel_rfl) Tryd.func5 (by kernel_rfl)
    (of_decide_eq_true (by kernel_rfl)) (by unfold Func.isWrapper; first | (rw [if_pos (by decide +kernel)]; kernel_rfl) | (rw [if_neg (by decide +kernel)]; exact ⟨rfl, rfl⟩))
    (fun os started H enc _ F => by rw [OpenClaim.pre_eq_preRow]; exact lifted os started H enc F)

theorem plain (f : FuncId) (fn : Func) (hf : Tryd.pinned.checked.prog.funcNamed "homecoming/homecominglaw06.ShaParts" = some f) (hfn : Tryd.pinned.checked.prog.funcs[f]? = some fn) :
    false = Tryd.pinned.checked.prog.looks [] ∧ ∀ (j : Nat) t, fn.params[j]? = some t → Tryd.pinned.checked.prog.wantsStandIn t = false := by
  obtain rfl : f = 5 := Option.some.inj ((show Tryd.prog.funcNamed "homecoming/homecominglaw06.ShaParts" = some 5 by kernel_rfl).symm.trans hf) |>.symm
  obtain rfl : fn = Tryd.f5 := (Option.some.inj (Tryd.func5.symm.trans hfn)).symm
  refine ⟨by kernel_rfl, fun j t ht => ?_⟩
  have hall : (Tryd.f5.params.toList.all fun u => !Tryd.prog.wantsStandIn u) = true := by kernel_rfl
  have hm : t ∈ Tryd.f5.params.toList := by simpa using Array.mem_of_getElem? ht
  exact (show Tryd.prog.wantsStandIn t = false by simpa using List.all_eq_true.1 hall t hm)

/-- THE STATEMENT. -/
theorem card : Rows.ShaPartsCardSaid :=
  Claim7.holds_tied_plain_at .later [] _ _ _ _ said (fun _ h => by cases h) (by kernel_rfl) (fun _ h => by cases h) shaParts_row_tie rfl ⟨rfl, rfl⟩ (by kernel_rfl) rfl plain (by kernel_rfl)
#print axioms card
end Go.Proofs.YtnoekmhpgaabjaaDoor.shaParts
