/-
  Proves the statement of MintTells: for every secret, every text, every time, ticks and plain text the law returns true (plain texts, digests, secrets and times are told as the document's own functions tell them), and its arguments read as they did. Conditions: the package-level tables uint64pow10, deBruijn32tab, deBruijn64tab, acceptRanges and first of the library, and sha's cubeRoots and squareRoots, hold what their texts lay.
-/
import Derived.Test.YtflgbnolfleicaaGreatDoorMinG
import Derived.Test.YtflgbnolfleicaaGreatDoorMinW
import Derived.Test.YtflgbnolfleicaaGreatDoorMinT
import Derived.Test.YtflgbnolfleicaaGreatDoorShort10
import Derived.Test.YtflgbnolfleicaaGreatDoorStr
import Derived.Test.YtflgbnolfleicaaGreatDoorTabs
import Derived.Test.YtflgbnolfleicaaGreatDoorCards
import Derived.Test.YtflgbnolfleicaaGreatDoorTie
namespace Go.Proofs.YtflgbnolfleicaaGreatDoor.mintTells
open Go.ChangeShapes Go.WideShapes Go.ChangeAt Go.RowKit
open Go.ChangeMaps (open_string shut_string)

theorem ask_size : (Tryz.prog.info? 25).map (·.size) = some 3 := by kernel_rfl
/-- What each operation of the drawn statement leaves. -/
def Vt7 (gq : Nat) (D1 : ByteArray) (c1 : ByteArray) (Q : ByteArray) (S : ByteArray) (X : ByteArray) (d : ByteArray) (a : Int) (p : Int) (e0 : Int) (t0 : Int) (n : Int) (tk : Int) (ay : Int) (ck : Int) : Nat → Value → Prop
  | 0, v => v = .bool true
  | 1, v => v = .bool true
  | 2, v => v = .agg #[.string D1, .int .i64 a, .int .i64 p, .string c1, .int .i64 e0, .int .i64 t0]
  | 3, v => v = .string d
  | 4, v => v = .string S
  | 5, v => v = .agg #[.int .i64 n, .int .i64 tk, .string Q]
  | 6, v => v = .bool true
  | 7, v => v = .bool true
  | 8, v => v = .bool true
  | 9, v => v = .agg #[.string D1, .int .i64 ay, .int .i64 p, .string ⟨#[97, 64, 98, 46, 99, 100]⟩, .int .i64 e0, .int .i64 t0]
  | 10, v => v = .string d
  | 11, v => v = .string X
  | 12, v => v = .agg #[.int .i64 n, .int .i64 tk, .string Q]
  | 13, v => v = .bool true
  | 14, v => v = .bool true
  | 15, v => v = .bool true
  | 16, v => v = .pointer (some ⟨gq, 0, none⟩)
  | 17, v => v = .int .i64 n
  | 18, v => v = .pointer (some ⟨gq, 1, none⟩)
  | 19, v => v = .int .i64 tk
  | 20, v => v = .int .i64 ck
  | 21, v => v = .pointer (some ⟨gq, 0, none⟩)
  | 22, v => v = .int .i64 n
  | 23, v => v = .pointer (some ⟨gq, 1, none⟩)
  | 24, v => v = .int .i64 tk
  | 25, v => v = .int .i64 ck
  | 26, v => v = .bool true
  | 27, v => v = .bool true
  | 28, v => v = .bool true
  | _, _ => True
theorem place99 (q : Int) : ∃ (t k : Int), q.tmod 99 = t ∧ -99 ≤ t ∧ t ≤ 99 ∧ 1 ≤ k ∧ k ≤ 99 ∧ 1 + t % 99 = k := by
  have h1 := Int.tmod_lt_of_pos q (show (0 : Int) < 99 by omega)
  have h2 : -(99 : Int) < q.tmod 99 := by
    have := Int.tmod_lt_of_pos (-q) (show (0 : Int) < 99 by omega)
    rw [Int.neg_tmod] at this
    omega
  generalize q.tmod 99 = t at h1 h2
  exact ⟨t, 1 + t % 99, rfl, by omega, by omega, by omega, by omega, rfl⟩
set_option maxRecDepth 100000 in
set_option maxHeartbeats 4000000 in
theorem less_any (D0 : ByteArray) (a p e0 t0 : Int) (c : ByteArray) (hD : D0.size ≤ maxLen) (hc : c.size ≤ maxLen) (w : World) :
    Calls Tryz.prog 6 #[.agg #[.string D0, .int .i64 a, .int .i64 p, .string c, .int .i64 e0, .int .i64 t0]] w fun e w' => e = .returned (.agg #[.string (cut D0 60), .int .i64 a, .int .i64 p, .string (cut c 60), .int .i64 e0, .int .i64 t0]) ∧ Below w.heap.size w w' := by
  have HS := Lib.hid (fun W => short_any D0 60 hD W)
  have HC := Lib.hid (fun W => short_any c 60 hc W)
  generalize cut D0 60 = D1 at HS ⊢
  generalize cut c 60 = c1 at HC ⊢
  clear hD hc
  go_enter Tryz.func6, Tryz.ntmps6
  go_wp2_with fail
  refine (HS.out _).mono ?_
  rintro e wq ⟨rfl, rfl⟩
  go_wp2_with fail
  refine (HC.out _).mono ?_
  rintro e wq ⟨rfl, rfl⟩
  go_wp2_with fail
  (try simp only [Exit.inBlock, Exit.then])
  refine bodyPost_ret (results_cell_row (P := Tryz.prog) rfl _ _ (w.heap.size + 1) 23 _ (0, 0) _ rfl (Blk.new2 w _ _ _) Tryz.underlying23 rfl sec_size) rfl ?_
  exact ⟨rfl, ((Below.refl _ w).alloc (Nat.le_refl _) _).alloc (by simp) _⟩
set_option maxRecDepth 100000 in
set_option maxHeartbeats 8000000 in
theorem walk (D0 : ByteArray) (a p e0 t0 : Int) (c d q0 : ByteArray) (n tk : Int) (hD : D0.size ≤ maxLen) (hc : c.size ≤ maxLen) (hd : d.size ≤ maxLen) (hq : q0.size ≤ maxLen) (hn : -9223372036854775808 ≤ n ∧ n ≤ 9223372036854775807) (htk : -9223372036854775808 ≤ tk ∧ tk ≤ 9223372036854775807) (w : World) (hR : Ready w) :
    Calls Tryz.prog 3 #[.agg #[.string D0, .int .i64 a, .int .i64 p, .string c, .int .i64 e0, .int .i64 t0], .string d, .agg #[.int .i64 n, .int .i64 tk, .string q0]] w fun e w' => e = .returned (.bool true) ∧ Below w.heap.size w w' := by
  obtain ⟨ta, ay, m1, m2, m3, m4, m5, m6⟩ := place99 a
  have HLS := Lib.hid (fun W => less_any D0 a p e0 t0 c hD hc W)
  have hc1 := cut_size c 60
  have HSD := Lib.hid (fun W => short_any d 12 hd W)
  have hd1 := cut_size d 12
  have HSQ := Lib.hid (fun W => short_any q0 40 hq W)
  have hq1 := cut_size q0 40
  have HDR := Lib.hid (fun W => draw_any d W)
  have hdl := Mi.draw_length d.data.toList
  generalize cut D0 60 = D1 at *
  generalize cut c 60 = c1 at *
  generalize cut d 12 = S at *
  generalize cut q0 40 = Q at *
  generalize Mi.draw d.data.toList = DR at *
  have sl : S.data.toList.length ≤ 12 := by have : S.data.toList.length = S.size := by simp
                                            omega
  have ql : Q.data.toList.length ≤ 40 := by have : Q.data.toList.length = Q.size := by simp
                                            omega
  have HT1 := Lib.hid (fun W h => tells_any D1 a p e0 t0 c1 (by omega) S.data.toList (by omega) n tk hn Q.data.toList (by omega) W h)
  have HT2 := Lib.hid (fun W h => tells_any D1 ay p e0 t0 ⟨#[97, 64, 98, 46, 99, 100]⟩ (by decide) DR (by omega) n tk hn Q.data.toList (by omega) W h)
  rw [ba_back, ba_back] at HT1
  rw [ba_back] at HT2
  have HC1 := Lib.hid (fun W => clock_any n tk hn htk W)
  have HC2 := Lib.hid (fun W => rclock_any n tk hn htk W)
  generalize Mi.clock n tk = ck at *
  generalize ba DR = X at *
  have HR := Lib.hid hR
  clear hR hc1 hd1 hq1 hdl sl ql hD hc hd hq hn htk
  go_enter Tryz.func3, Tryz.ntmps3
  go_wp2_with fail
  generalize hW0 : World.alloc _ (.cells #[.int .i64 n, .int .i64 tk, .string q0] 25) = W0
  have HX0 := Lib.hid (show Blk W0 w.heap.size 23 #[.string D0, .int .i64 a, .int .i64 p, .string c, .int .i64 e0, .int .i64 t0] by rw [← hW0]; exact (Blk.new w _ _).alloc _)
  have HQ0 := Lib.hid (show Blk W0 (w.heap.size + 1) 25 #[.int .i64 n, .int .i64 tk, .string q0] by rw [← hW0]; exact Blk.new2 w _ _ _)
  have HB0 := Lib.hid (show Below w.heap.size w W0 by rw [← hW0]; exact ((Below.refl _ w).alloc (Nat.le_refl _) _).alloc (by simp) _)
  have HR0 := Lib.hid (HR.out.next HB0.out)
  clear hW0
  refine (awake_any W0 HR0.out.pow).mono ?_
  rintro e w1 ⟨rfl, hb⟩
  have HX1 := Lib.hid (HX0.out.of (hb.block _ HX0.out.lt))
  have HQ1 := Lib.hid (HQ0.out.of (hb.block _ HQ0.out.lt))
  have HB1 := Lib.hid (HB0.out.trans (hb.mono HB0.out.size))
  have HR1 := Lib.hid (HR0.out.next hb)
  clear hb HX0 HQ0 HB0 HR0
  have s0 : w1.cell? ⟨w.heap.size, 0, none⟩ = some (.string D0) := (HX1.out.cell 0).trans rfl
  have s1 : w1.cell? ⟨w.heap.size, 1, none⟩ = some (.int .i64 a) := (HX1.out.cell 1).trans rfl
  have s2 : w1.cell? ⟨w.heap.size, 2, none⟩ = some (.int .i64 p) := (HX1.out.cell 2).trans rfl
  have s3 : w1.cell? ⟨w.heap.size, 3, none⟩ = some (.string c) := (HX1.out.cell 3).trans rfl
  have s4 : w1.cell? ⟨w.heap.size, 4, none⟩ = some (.int .i64 e0) := (HX1.out.cell 4).trans rfl
  have s5 : w1.cell? ⟨w.heap.size, 5, none⟩ = some (.int .i64 t0) := (HX1.out.cell 5).trans rfl
  go_wp2_with fail
  refine (HLS.out _).mono ?_
  rintro e w2 ⟨rfl, hb⟩
  have HQ2 := Lib.hid (HQ1.out.of (hb.block _ HQ1.out.lt))
  have HB2 := Lib.hid (HB1.out.trans (hb.mono HB1.out.size))
  have HR2 := Lib.hid (HR1.out.next hb)
  clear hb HX1 HQ1 HB1 HR1 s0 s1 s2 s3 s4 s5
  have HGQ := Lib.hid (show w.heap.size + 1 < w2.heap.size from HQ2.out.lt)
  have q2 : ∀ o1 o2, ((w2.alloc o1).alloc o2).cell? ⟨w.heap.size + 1, 2, none⟩ = some (.string q0) := fun o1 o2 => (((HQ2.out.alloc o1).alloc o2).cell 2).trans rfl
  go_wp2_with fail
  clear q2
  refine (HSQ.out _).mono ?_
  rintro e wq ⟨rfl, rfl⟩
  generalize hV : World.alloc (World.alloc w2 (.cells #[.string D1, .int .i64 a, .int .i64 p, .string c1, .int .i64 e0, .int .i64 t0] 23)) (.cells #[.string D1, .int .i64 ay, .int .i64 p, .string ⟨#[97, 64, 98, 46, 99, 100]⟩, .int .i64 e0, .int .i64 t0] 23) = v3
  have HX3 := Lib.hid (show Blk v3 w2.heap.size 23 #[.string D1, .int .i64 a, .int .i64 p, .string c1, .int .i64 e0, .int .i64 t0] by rw [← hV]; exact (Blk.new w2 _ _).alloc _)
  have HY3 := Lib.hid (show Blk v3 (w2.heap.size + 1) 23 #[.string D1, .int .i64 ay, .int .i64 p, .string ⟨#[97, 64, 98, 46, 99, 100]⟩, .int .i64 e0, .int .i64 t0] by rw [← hV]; exact Blk.new2 w2 _ _ _)
  have HQ3 := Lib.hid (show Blk v3 (w.heap.size + 1) 25 #[.int .i64 n, .int .i64 tk, .string q0] by rw [← hV]; exact (HQ2.out.alloc _).alloc _)
  have HB3 := Lib.hid (show Below w.heap.size w v3 by rw [← hV]; exact (HB2.out.alloc HB2.out.size _).alloc (by have h := HB2.out.size; simp; omega) _)
  have HR3 := Lib.hid (show Ready v3 by rw [← hV]; exact HR2.out.next (((Below.refl _ w2).alloc (Nat.le_refl _) _).alloc (by simp) _))
  clear hV HQ2 HB2 HR2
  have qc : v3.cell? ⟨w.heap.size + 1, 2, none⟩ = some (.string q0) := (HQ3.out.cell 2).trans rfl
  have qf := HQ3.out.frozen 2
  go_wp2_with fail
  generalize hV : World.setCell v3 _ _ = v4
  have HX4 := Lib.hid (show Blk v4 w2.heap.size 23 #[.string D1, .int .i64 a, .int .i64 p, .string c1, .int .i64 e0, .int .i64 t0] by rw [← hV]; exact HX3.out.far (p := ⟨w.heap.size + 1, 2, none⟩) (by have h := HGQ.out; show w2.heap.size ≠ w.heap.size + 1; omega) _)
  have HY4 := Lib.hid (show Blk v4 (w2.heap.size + 1) 23 #[.string D1, .int .i64 ay, .int .i64 p, .string ⟨#[97, 64, 98, 46, 99, 100]⟩, .int .i64 e0, .int .i64 t0] by rw [← hV]; exact HY3.out.far (p := ⟨w.heap.size + 1, 2, none⟩) (by have h := HGQ.out; show w2.heap.size + 1 ≠ w.heap.size + 1; omega) _)
  have HQ4 := Lib.hid (show Blk v4 (w.heap.size + 1) 25 #[.int .i64 n, .int .i64 tk, .string Q] by rw [← hV]; exact HQ3.out.set_ 2 _)
  have HB4 := Lib.hid (show Below w.heap.size w v4 by rw [← hV]; exact HB3.out.setCell (p := ⟨w.heap.size + 1, 2, none⟩) (Nat.le_succ _) _)
  have HR4 := Lib.hid (HR.out.next HB4.out)
  clear hV HX3 HY3 HQ3 HB3 HR3 HR qc qf HGQ
  generalize w2.heap.size = gx at *
  generalize hgq : w.heap.size + 1 = gq at *
  refine wp_region_some (by kernel_rfl) (fun i v _ => Vt7 gq D1 c1 Q S X d a p e0 t0 n tk ay ck i v) (fun _ _ W => Gc v4 W) (fun w w' => Below w.heap.size w w') (by kernel_rfl) (by kernel_rfl) 54 rfl (by kernel_rfl) (fun _ _ _ _ h _ => by exact h) (fun _ => (Below.refl _ _)) (Gc.start v4) ?_ ?_
  · intro i o ho listed x W hs hdep hun hg hk
    match i, ho with
    | 0, ho =>
      cases ho
      have q7 : x.tmps[7]?.getD undef = .bool true := hk.fix 7 (by kernel_rfl)
      refine .inl ⟨wanted_plain rfl, ?_⟩
      refine wp_value (v := .bool true) (w' := W) ?_ ⟨_, rfl, rfl, (Below.refl _ _), hg⟩
      go_simp
    | 1, ho =>
      cases ho
      have q26 : x.tmps[26]?.getD undef = .bool true := hk.dep 0 26 (by kernel_rfl) (by kernel_rfl)
      refine .inl ⟨wanted_plain rfl, ?_⟩
      refine wp_value (v := .bool true) (w' := W) ?_ ⟨_, rfl, rfl, (Below.refl _ _), hg⟩
      go_simp
    | 2, ho =>
      cases ho
      have q8 : x.tmps[8]?.getD undef = .pointer (some ⟨gx, 0, none⟩) := hk.fix 8 (by kernel_rfl)
      refine .inl ⟨wanted_guard (g := 1) (d := 27) (by rfl) (by kernel_rfl) (show x.tmps[27]?.getD undef = .bool true from hk.dep 1 27 (by kernel_rfl) (by kernel_rfl)), ?_⟩
      refine wp_value (run_load_op _ _ rfl _ ((eval_slot x 8).trans q8) _ _ ((HX4.out.of (hg.below.block _ HX4.out.lt))) _ Tryz.underlying23 rfl sec_size) ⟨_, rfl, rfl, (Below.refl _ _), hg⟩
    | 3, ho =>
      cases ho
      have q1 : x.tmps[1]?.getD undef = .string d := hk.fix 1 (by kernel_rfl)
      refine .inl ⟨wanted_guard (g := 1) (d := 27) (by rfl) (by kernel_rfl) (show x.tmps[27]?.getD undef = .bool true from hk.dep 1 27 (by kernel_rfl) (by kernel_rfl)), ?_⟩
      refine wp_value (v := .string d) (w' := W) ?_ ⟨_, rfl, rfl, (Below.refl _ _), hg⟩
      go_simp
    | 4, ho =>
      cases ho
      have q29 : x.tmps[29]?.getD undef = .string d := hk.dep 3 29 (by kernel_rfl) (by kernel_rfl)
      refine .inl ⟨wanted_guard (g := 1) (d := 27) (by rfl) (by kernel_rfl) (show x.tmps[27]?.getD undef = .bool true from hk.dep 1 27 (by kernel_rfl) (by kernel_rfl)), ?_⟩
      refine wp_enter (f := 7) (args := #[.string d, .int .i64 12]) (w' := W) (S := fun v w1 => v = .string S ∧ Below W.heap.size W w1) ?_ ((HSD.out W).mono fun e w' h => ⟨_, h.1, rfl, by rw [← h.2]; exact Below.refl _ _⟩) ?_
      · go_simp
      · rintro v W' ⟨rfl, hb⟩
        exact ⟨_, rfl, rfl, hb, hg.calls hb⟩
    | 5, ho =>
      cases ho
      have q5 : x.tmps[5]?.getD undef = .pointer (some ⟨gq, 0, none⟩) := hk.fix 5 (by kernel_rfl)
      refine .inl ⟨wanted_guard (g := 1) (d := 27) (by rfl) (by kernel_rfl) (show x.tmps[27]?.getD undef = .bool true from hk.dep 1 27 (by kernel_rfl) (by kernel_rfl)), ?_⟩
      refine wp_value (run_load_op _ _ rfl _ ((eval_slot x 5).trans q5) _ _ ((HQ4.out.of (hg.below.block _ HQ4.out.lt))) _ Tryz.underlying25 rfl ask_size) ⟨_, rfl, rfl, (Below.refl _ _), hg⟩
    | 6, ho =>
      cases ho
      have q28 : x.tmps[28]?.getD undef = .agg #[.string D1, .int .i64 a, .int .i64 p, .string c1, .int .i64 e0, .int .i64 t0] := hk.dep 2 28 (by kernel_rfl) (by kernel_rfl)
      have q30 : x.tmps[30]?.getD undef = .string S := hk.dep 4 30 (by kernel_rfl) (by kernel_rfl)
      have q31 : x.tmps[31]?.getD undef = .agg #[.int .i64 n, .int .i64 tk, .string Q] := hk.dep 5 31 (by kernel_rfl) (by kernel_rfl)
      refine .inl ⟨wanted_guard (g := 1) (d := 27) (by rfl) (by kernel_rfl) (show x.tmps[27]?.getD undef = .bool true from hk.dep 1 27 (by kernel_rfl) (by kernel_rfl)), ?_⟩
      refine wp_enter (f := 8) (args := #[.agg #[.string D1, .int .i64 a, .int .i64 p, .string c1, .int .i64 e0, .int .i64 t0], .string S, .agg #[.int .i64 n, .int .i64 tk, .string Q]]) (w' := W) (S := fun v w1 => v = .bool true ∧ Below W.heap.size W w1) ?_ ((HT1.out W (HR4.out.next hg.below)).mono fun e w' h => ⟨_, h.1, rfl, h.2⟩) ?_
      · go_simp
      · rintro v W' ⟨rfl, hb⟩
        exact ⟨_, rfl, rfl, hb, hg.calls hb⟩
    | 7, ho =>
      cases ho
      have q27 : x.tmps[27]?.getD undef = .bool true := hk.dep 1 27 (by kernel_rfl) (by kernel_rfl)
      have q32 : x.tmps[32]?.getD undef = .bool true := hk.dep 6 32 (by kernel_rfl) (by kernel_rfl)
      refine .inl ⟨wanted_plain rfl, ?_⟩
      refine wp_value (v := .bool true) (w' := W) ?_ ⟨_, rfl, rfl, (Below.refl _ _), hg⟩
      go_simp
    | 8, ho =>
      cases ho
      have q33 : x.tmps[33]?.getD undef = .bool true := hk.dep 7 33 (by kernel_rfl) (by kernel_rfl)
      refine .inl ⟨wanted_plain rfl, ?_⟩
      refine wp_value (v := .bool true) (w' := W) ?_ ⟨_, rfl, rfl, (Below.refl _ _), hg⟩
      go_simp
    | 9, ho =>
      cases ho
      have q9 : x.tmps[9]?.getD undef = .pointer (some ⟨gx + 1, 0, none⟩) := hk.fix 9 (by kernel_rfl)
      refine .inl ⟨wanted_guard (g := 8) (d := 34) (by rfl) (by kernel_rfl) (show x.tmps[34]?.getD undef = .bool true from hk.dep 8 34 (by kernel_rfl) (by kernel_rfl)), ?_⟩
      refine wp_value (run_load_op _ _ rfl _ ((eval_slot x 9).trans q9) _ _ ((HY4.out.of (hg.below.block _ HY4.out.lt))) _ Tryz.underlying23 rfl sec_size) ⟨_, rfl, rfl, (Below.refl _ _), hg⟩
    | 10, ho =>
      cases ho
      have q1 : x.tmps[1]?.getD undef = .string d := hk.fix 1 (by kernel_rfl)
      refine .inl ⟨wanted_guard (g := 8) (d := 34) (by rfl) (by kernel_rfl) (show x.tmps[34]?.getD undef = .bool true from hk.dep 8 34 (by kernel_rfl) (by kernel_rfl)), ?_⟩
      refine wp_value (v := .string d) (w' := W) ?_ ⟨_, rfl, rfl, (Below.refl _ _), hg⟩
      go_simp
    | 11, ho =>
      cases ho
      have q36 : x.tmps[36]?.getD undef = .string d := hk.dep 10 36 (by kernel_rfl) (by kernel_rfl)
      refine .inl ⟨wanted_guard (g := 8) (d := 34) (by rfl) (by kernel_rfl) (show x.tmps[34]?.getD undef = .bool true from hk.dep 8 34 (by kernel_rfl) (by kernel_rfl)), ?_⟩
      refine wp_enter (f := 9) (args := #[.string d]) (w' := W) (S := fun v w1 => v = .string X ∧ Below W.heap.size W w1) ?_ ((HDR.out W).mono fun e w' h => ⟨_, h.1, rfl, h.2⟩) ?_
      · go_simp
      · rintro v W' ⟨rfl, hb⟩
        exact ⟨_, rfl, rfl, hb, hg.calls hb⟩
    | 12, ho =>
      cases ho
      have q5 : x.tmps[5]?.getD undef = .pointer (some ⟨gq, 0, none⟩) := hk.fix 5 (by kernel_rfl)
      refine .inl ⟨wanted_guard (g := 8) (d := 34) (by rfl) (by kernel_rfl) (show x.tmps[34]?.getD undef = .bool true from hk.dep 8 34 (by kernel_rfl) (by kernel_rfl)), ?_⟩
      refine wp_value (run_load_op _ _ rfl _ ((eval_slot x 5).trans q5) _ _ ((HQ4.out.of (hg.below.block _ HQ4.out.lt))) _ Tryz.underlying25 rfl ask_size) ⟨_, rfl, rfl, (Below.refl _ _), hg⟩
    | 13, ho =>
      cases ho
      have q35 : x.tmps[35]?.getD undef = .agg #[.string D1, .int .i64 ay, .int .i64 p, .string ⟨#[97, 64, 98, 46, 99, 100]⟩, .int .i64 e0, .int .i64 t0] := hk.dep 9 35 (by kernel_rfl) (by kernel_rfl)
      have q37 : x.tmps[37]?.getD undef = .string X := hk.dep 11 37 (by kernel_rfl) (by kernel_rfl)
      have q38 : x.tmps[38]?.getD undef = .agg #[.int .i64 n, .int .i64 tk, .string Q] := hk.dep 12 38 (by kernel_rfl) (by kernel_rfl)
      refine .inl ⟨wanted_guard (g := 8) (d := 34) (by rfl) (by kernel_rfl) (show x.tmps[34]?.getD undef = .bool true from hk.dep 8 34 (by kernel_rfl) (by kernel_rfl)), ?_⟩
      refine wp_enter (f := 8) (args := #[.agg #[.string D1, .int .i64 ay, .int .i64 p, .string ⟨#[97, 64, 98, 46, 99, 100]⟩, .int .i64 e0, .int .i64 t0], .string X, .agg #[.int .i64 n, .int .i64 tk, .string Q]]) (w' := W) (S := fun v w1 => v = .bool true ∧ Below W.heap.size W w1) ?_ ((HT2.out W (HR4.out.next hg.below)).mono fun e w' h => ⟨_, h.1, rfl, h.2⟩) ?_
      · go_simp
      · rintro v W' ⟨rfl, hb⟩
        exact ⟨_, rfl, rfl, hb, hg.calls hb⟩
    | 14, ho =>
      cases ho
      have q34 : x.tmps[34]?.getD undef = .bool true := hk.dep 8 34 (by kernel_rfl) (by kernel_rfl)
      have q39 : x.tmps[39]?.getD undef = .bool true := hk.dep 13 39 (by kernel_rfl) (by kernel_rfl)
      refine .inl ⟨wanted_plain rfl, ?_⟩
      refine wp_value (v := .bool true) (w' := W) ?_ ⟨_, rfl, rfl, (Below.refl _ _), hg⟩
      go_simp
    | 15, ho =>
      cases ho
      have q40 : x.tmps[40]?.getD undef = .bool true := hk.dep 14 40 (by kernel_rfl) (by kernel_rfl)
      refine .inl ⟨wanted_plain rfl, ?_⟩
      refine wp_value (v := .bool true) (w' := W) ?_ ⟨_, rfl, rfl, (Below.refl _ _), hg⟩
      go_simp
    | 16, ho =>
      cases ho
      have q5 : x.tmps[5]?.getD undef = .pointer (some ⟨gq, 0, none⟩) := hk.fix 5 (by kernel_rfl)
      refine .inl ⟨wanted_guard (g := 15) (d := 41) (by rfl) (by kernel_rfl) (show x.tmps[41]?.getD undef = .bool true from hk.dep 15 41 (by kernel_rfl) (by kernel_rfl)), ?_⟩
      refine wp_value (v := .pointer (some ⟨gq, 0, none⟩)) (w' := W) ?_ ⟨_, rfl, rfl, (Below.refl _ _), hg⟩
      go_simp
    | 17, ho =>
      cases ho
      have q42 : x.tmps[42]?.getD undef = .pointer (some ⟨gq, 0, none⟩) := hk.dep 16 42 (by kernel_rfl) (by kernel_rfl)
      refine .inl ⟨wanted_guard (g := 15) (d := 41) (by rfl) (by kernel_rfl) (show x.tmps[41]?.getD undef = .bool true from hk.dep 15 41 (by kernel_rfl) (by kernel_rfl)), ?_⟩
      have cf : W.cell? ⟨gq, 0, none⟩ = some (.int .i64 n) := ((HQ4.out.of (hg.below.block _ HQ4.out.lt)).cell 0).trans rfl
      refine wp_value (v := .int .i64 n) (w' := W) ?_ ⟨_, rfl, rfl, (Below.refl _ _), hg⟩
      go_simp
    | 18, ho =>
      cases ho
      have q5 : x.tmps[5]?.getD undef = .pointer (some ⟨gq, 0, none⟩) := hk.fix 5 (by kernel_rfl)
      refine .inl ⟨wanted_guard (g := 15) (d := 41) (by rfl) (by kernel_rfl) (show x.tmps[41]?.getD undef = .bool true from hk.dep 15 41 (by kernel_rfl) (by kernel_rfl)), ?_⟩
      refine wp_value (v := .pointer (some ⟨gq, 1, none⟩)) (w' := W) ?_ ⟨_, rfl, rfl, (Below.refl _ _), hg⟩
      go_simp
    | 19, ho =>
      cases ho
      have q44 : x.tmps[44]?.getD undef = .pointer (some ⟨gq, 1, none⟩) := hk.dep 18 44 (by kernel_rfl) (by kernel_rfl)
      refine .inl ⟨wanted_guard (g := 15) (d := 41) (by rfl) (by kernel_rfl) (show x.tmps[41]?.getD undef = .bool true from hk.dep 15 41 (by kernel_rfl) (by kernel_rfl)), ?_⟩
      have cf : W.cell? ⟨gq, 1, none⟩ = some (.int .i64 tk) := ((HQ4.out.of (hg.below.block _ HQ4.out.lt)).cell 1).trans rfl
      refine wp_value (v := .int .i64 tk) (w' := W) ?_ ⟨_, rfl, rfl, (Below.refl _ _), hg⟩
      go_simp
    | 20, ho =>
      cases ho
      have q43 : x.tmps[43]?.getD undef = .int .i64 n := hk.dep 17 43 (by kernel_rfl) (by kernel_rfl)
      have q45 : x.tmps[45]?.getD undef = .int .i64 tk := hk.dep 19 45 (by kernel_rfl) (by kernel_rfl)
      refine .inl ⟨wanted_guard (g := 15) (d := 41) (by rfl) (by kernel_rfl) (show x.tmps[41]?.getD undef = .bool true from hk.dep 15 41 (by kernel_rfl) (by kernel_rfl)), ?_⟩
      refine wp_enter (f := 10) (args := #[.int .i64 n, .int .i64 tk]) (w' := W) (S := fun v w1 => v = .int .i64 ck ∧ Below W.heap.size W w1) ?_ ((HC1.out W).mono fun e w' h => ⟨_, h.1, rfl, by rw [← h.2]; exact Below.refl _ _⟩) ?_
      · go_simp
      · rintro v W' ⟨rfl, hb⟩
        exact ⟨_, rfl, rfl, hb, hg.calls hb⟩
    | 21, ho =>
      cases ho
      have q5 : x.tmps[5]?.getD undef = .pointer (some ⟨gq, 0, none⟩) := hk.fix 5 (by kernel_rfl)
      refine .inl ⟨wanted_guard (g := 15) (d := 41) (by rfl) (by kernel_rfl) (show x.tmps[41]?.getD undef = .bool true from hk.dep 15 41 (by kernel_rfl) (by kernel_rfl)), ?_⟩
      refine wp_value (v := .pointer (some ⟨gq, 0, none⟩)) (w' := W) ?_ ⟨_, rfl, rfl, (Below.refl _ _), hg⟩
      go_simp
    | 22, ho =>
      cases ho
      have q47 : x.tmps[47]?.getD undef = .pointer (some ⟨gq, 0, none⟩) := hk.dep 21 47 (by kernel_rfl) (by kernel_rfl)
      refine .inl ⟨wanted_guard (g := 15) (d := 41) (by rfl) (by kernel_rfl) (show x.tmps[41]?.getD undef = .bool true from hk.dep 15 41 (by kernel_rfl) (by kernel_rfl)), ?_⟩
      have cf : W.cell? ⟨gq, 0, none⟩ = some (.int .i64 n) := ((HQ4.out.of (hg.below.block _ HQ4.out.lt)).cell 0).trans rfl
      refine wp_value (v := .int .i64 n) (w' := W) ?_ ⟨_, rfl, rfl, (Below.refl _ _), hg⟩
      go_simp
    | 23, ho =>
      cases ho
      have q5 : x.tmps[5]?.getD undef = .pointer (some ⟨gq, 0, none⟩) := hk.fix 5 (by kernel_rfl)
      refine .inl ⟨wanted_guard (g := 15) (d := 41) (by rfl) (by kernel_rfl) (show x.tmps[41]?.getD undef = .bool true from hk.dep 15 41 (by kernel_rfl) (by kernel_rfl)), ?_⟩
      refine wp_value (v := .pointer (some ⟨gq, 1, none⟩)) (w' := W) ?_ ⟨_, rfl, rfl, (Below.refl _ _), hg⟩
      go_simp
    | 24, ho =>
      cases ho
      have q49 : x.tmps[49]?.getD undef = .pointer (some ⟨gq, 1, none⟩) := hk.dep 23 49 (by kernel_rfl) (by kernel_rfl)
      refine .inl ⟨wanted_guard (g := 15) (d := 41) (by rfl) (by kernel_rfl) (show x.tmps[41]?.getD undef = .bool true from hk.dep 15 41 (by kernel_rfl) (by kernel_rfl)), ?_⟩
      have cf : W.cell? ⟨gq, 1, none⟩ = some (.int .i64 tk) := ((HQ4.out.of (hg.below.block _ HQ4.out.lt)).cell 1).trans rfl
      refine wp_value (v := .int .i64 tk) (w' := W) ?_ ⟨_, rfl, rfl, (Below.refl _ _), hg⟩
      go_simp
    | 25, ho =>
      cases ho
      have q48 : x.tmps[48]?.getD undef = .int .i64 n := hk.dep 22 48 (by kernel_rfl) (by kernel_rfl)
      have q50 : x.tmps[50]?.getD undef = .int .i64 tk := hk.dep 24 50 (by kernel_rfl) (by kernel_rfl)
      refine .inl ⟨wanted_guard (g := 15) (d := 41) (by rfl) (by kernel_rfl) (show x.tmps[41]?.getD undef = .bool true from hk.dep 15 41 (by kernel_rfl) (by kernel_rfl)), ?_⟩
      refine wp_enter (f := 11) (args := #[.int .i64 n, .int .i64 tk]) (w' := W) (S := fun v w1 => v = .int .i64 ck ∧ Below W.heap.size W w1) ?_ ((HC2.out W).mono fun e w' h => ⟨_, h.1, rfl, by rw [← h.2]; exact Below.refl _ _⟩) ?_
      · go_simp
      · rintro v W' ⟨rfl, hb⟩
        exact ⟨_, rfl, rfl, hb, hg.calls hb⟩
    | 26, ho =>
      cases ho
      have q46 : x.tmps[46]?.getD undef = .int .i64 ck := hk.dep 20 46 (by kernel_rfl) (by kernel_rfl)
      have q51 : x.tmps[51]?.getD undef = .int .i64 ck := hk.dep 25 51 (by kernel_rfl) (by kernel_rfl)
      refine .inl ⟨wanted_guard (g := 15) (d := 41) (by rfl) (by kernel_rfl) (show x.tmps[41]?.getD undef = .bool true from hk.dep 15 41 (by kernel_rfl) (by kernel_rfl)), ?_⟩
      refine wp_value (v := .bool true) (w' := W) ?_ ⟨_, rfl, rfl, (Below.refl _ _), hg⟩
      go_simp
    | 27, ho =>
      cases ho
      have q41 : x.tmps[41]?.getD undef = .bool true := hk.dep 15 41 (by kernel_rfl) (by kernel_rfl)
      have q52 : x.tmps[52]?.getD undef = .bool true := hk.dep 26 52 (by kernel_rfl) (by kernel_rfl)
      refine .inl ⟨wanted_plain rfl, ?_⟩
      refine wp_value (v := .bool true) (w' := W) ?_ ⟨_, rfl, rfl, (Below.refl _ _), hg⟩
      go_simp
    | 28, ho =>
      cases ho
      have q53 : x.tmps[53]?.getD undef = .bool true := hk.dep 27 53 (by kernel_rfl) (by kernel_rfl)
      refine .inl ⟨wanted_plain rfl, ?_⟩
      refine wp_value (v := .bool true) (w' := W) ?_ ⟨_, rfl, rfl, (Below.refl _ _), hg⟩
      go_simp
    | _ + 29, ho => cases ho
  intro listed x w5 hall hg hk
  have e26 : x.tmps[26]?.getD undef = .bool true := hk.last 0 26 (by decide) (by kernel_rfl)
  have e27 : x.tmps[27]?.getD undef = .bool true := hk.last 1 27 (by decide) (by kernel_rfl)
  have e28 : x.tmps[28]?.getD undef = .agg #[.string D1, .int .i64 a, .int .i64 p, .string c1, .int .i64 e0, .int .i64 t0] := hk.last 2 28 (by decide) (by kernel_rfl)
  have e29 : x.tmps[29]?.getD undef = .string d := hk.last 3 29 (by decide) (by kernel_rfl)
  have e30 : x.tmps[30]?.getD undef = .string S := hk.last 4 30 (by decide) (by kernel_rfl)
  have e31 : x.tmps[31]?.getD undef = .agg #[.int .i64 n, .int .i64 tk, .string Q] := hk.last 5 31 (by decide) (by kernel_rfl)
  have e32 : x.tmps[32]?.getD undef = .bool true := hk.last 6 32 (by decide) (by kernel_rfl)
  have e33 : x.tmps[33]?.getD undef = .bool true := hk.last 7 33 (by decide) (by kernel_rfl)
  have e34 : x.tmps[34]?.getD undef = .bool true := hk.last 8 34 (by decide) (by kernel_rfl)
  have e35 : x.tmps[35]?.getD undef = .agg #[.string D1, .int .i64 ay, .int .i64 p, .string ⟨#[97, 64, 98, 46, 99, 100]⟩, .int .i64 e0, .int .i64 t0] := hk.last 9 35 (by decide) (by kernel_rfl)
  have e36 : x.tmps[36]?.getD undef = .string d := hk.last 10 36 (by decide) (by kernel_rfl)
  have e37 : x.tmps[37]?.getD undef = .string X := hk.last 11 37 (by decide) (by kernel_rfl)
  have e38 : x.tmps[38]?.getD undef = .agg #[.int .i64 n, .int .i64 tk, .string Q] := hk.last 12 38 (by decide) (by kernel_rfl)
  have e39 : x.tmps[39]?.getD undef = .bool true := hk.last 13 39 (by decide) (by kernel_rfl)
  have e40 : x.tmps[40]?.getD undef = .bool true := hk.last 14 40 (by decide) (by kernel_rfl)
  have e41 : x.tmps[41]?.getD undef = .bool true := hk.last 15 41 (by decide) (by kernel_rfl)
  have e42 : x.tmps[42]?.getD undef = .pointer (some ⟨gq, 0, none⟩) := hk.last 16 42 (by decide) (by kernel_rfl)
  have e43 : x.tmps[43]?.getD undef = .int .i64 n := hk.last 17 43 (by decide) (by kernel_rfl)
  have e44 : x.tmps[44]?.getD undef = .pointer (some ⟨gq, 1, none⟩) := hk.last 18 44 (by decide) (by kernel_rfl)
  have e45 : x.tmps[45]?.getD undef = .int .i64 tk := hk.last 19 45 (by decide) (by kernel_rfl)
  have e46 : x.tmps[46]?.getD undef = .int .i64 ck := hk.last 20 46 (by decide) (by kernel_rfl)
  have e47 : x.tmps[47]?.getD undef = .pointer (some ⟨gq, 0, none⟩) := hk.last 21 47 (by decide) (by kernel_rfl)
  have e48 : x.tmps[48]?.getD undef = .int .i64 n := hk.last 22 48 (by decide) (by kernel_rfl)
  have e49 : x.tmps[49]?.getD undef = .pointer (some ⟨gq, 1, none⟩) := hk.last 23 49 (by decide) (by kernel_rfl)
  have e50 : x.tmps[50]?.getD undef = .int .i64 tk := hk.last 24 50 (by decide) (by kernel_rfl)
  have e51 : x.tmps[51]?.getD undef = .int .i64 ck := hk.last 25 51 (by decide) (by kernel_rfl)
  have e52 : x.tmps[52]?.getD undef = .bool true := hk.last 26 52 (by decide) (by kernel_rfl)
  have e53 : x.tmps[53]?.getD undef = .bool true := hk.last 27 53 (by decide) (by kernel_rfl)
  have e6 : x.tmps[6]?.getD undef = .bool true := hk.last 28 6 (by decide) (by kernel_rfl)
  have hB := Lib.hid hg.below
  have hx := hk.act [26, 27, 28, 29, 30, 31, 32, 33, 34, 35, 36, 37, 38, 39, 40, 41, 42, 43, 44, 45, 46, 47, 48, 49, 50, 51, 52, 53, 6] (by kernel_rfl)
  clear hk hg hall
  simp only [List.foldl_cons, List.foldl_nil, e26, e27, e28, e29, e30, e31, e32, e33, e34, e35, e36, e37, e38, e39, e40, e41, e42, e43, e44, e45, e46, e47, e48, e49, e50, e51, e52, e53, e6] at hx
  clear e26 e27 e28 e29 e30 e31 e32 e33 e34 e35 e36 e37 e38 e39 e40 e41 e42 e43 e44 e45 e46 e47 e48 e49 e50 e51 e52 e53 e6
  subst hx
  simp only [Act.put, List.setIfInBounds_toArray, List.set_cons_succ, List.set_cons_zero]
  go_wp2_with fail
  go_ret
  exact ⟨rfl, HB4.out.trans (hB.out.mono HB4.out.size)⟩

/-! ### The row -/
set_option maxRecDepth 100000 in
theorem contract (H : Type) (enc : TypeId × Value → H) (W : World) (base : Nat) (args : Array Value) (ds gs : List (DataW H)) (before : List MemPlace)
    (hval : ∀ (j : Nat) t v, Tryz.f3.params[j]? = some t → args[j]? = some v → Value.okWide Tryz.prog W .any base t v)
    (hW : DataW.Whole enc Tryz.prog Tryz.f3.params.toList Rows.mintTellsSpec.vars false W args.toList ds gs before) (hL : laidMet Tryz.prog Rows.mintTellsRow.laid W) (hS : W.ShapedOpen Tryz.prog) :
    Calls Tryz.prog 3 args W fun e W' => ∃ v, e = .returned v ∧ Rows.mintTellsSpec.post enc Tryz.prog Tryz.f3 false true false false W args v W' := by
  have hW' := hW
  obtain ⟨p, q, hA0, hV, rfl, hfz, hnd⟩ := hW
  have hA : DataW.TrodAll enc Tryz.prog W 0 (fun _ => true) true Tryz.f3.params.toList args.toList ds p := hA0
  rw [Tryz.params3] at hA hval
  obtain ⟨v0, vs0, d0, ds0, p0, q0, hargs, rfl, rfl, h0, r0⟩ := trodAll_cons hA
  obtain ⟨v1, vs1, d1, ds1, p1, q1, rfl, rfl, rfl, h1, r1⟩ := trodAll_cons r0
  obtain ⟨v2, vs2, d2, ds2, p2, q2, rfl, rfl, rfl, h2, r2⟩ := trodAll_cons r1
  obtain ⟨rfl, rfl, rfl⟩ := trodAll_nil r2
  obtain rfl : args = #[v0, v1, v2] := by cases args; simp_all
  obtain ⟨rfl, rfl⟩ := trodVars_none hV
  refine law_contract (tb := 4) laidOut (by kernel_rfl) rfl (by kernel_rfl) Tryz.underlying4 rfl hW' ?_
  clear hA0 hW' hA
  obtain ⟨cs, nn, xs, rfl, hlen, hxl, hf⟩ := open_fields Tryz.underlying23 (hval 0 23 v0 rfl rfl) h0
  have hlen6 : cs.length = 6 := hlen.trans (by kernel_rfl)
  obtain ⟨ds, mm, ys, rfl, hlen2, hyl, hg⟩ := open_fields Tryz.underlying25 (hval 2 25 v2 rfl rfl) h2
  have hlen3 : ds.length = 3 := hlen2.trans (by kernel_rfl)
  obtain ⟨a1, rfl, _, _, w1⟩ := open_string Tryz.underlying9 (hval 1 9 v1 rfl rfl) h1
  match cs, hlen6, ds, hlen3 with
  | [c0, c1, c2, c3, c4, c5], _, [b0, b1, b2], _ =>
    obtain ⟨x0, hx0⟩ := field_cell hf hxl 0 _ rfl (by kernel_rfl) c0 rfl
    obtain ⟨x1, hx1⟩ := field_cell hf hxl 1 _ rfl (by kernel_rfl) c1 rfl
    obtain ⟨x2, hx2⟩ := field_cell hf hxl 2 _ rfl (by kernel_rfl) c2 rfl
    obtain ⟨x3, hx3⟩ := field_cell hf hxl 3 _ rfl (by kernel_rfl) c3 rfl
    obtain ⟨x4, hx4⟩ := field_cell hf hxl 4 _ rfl (by kernel_rfl) c4 rfl
    obtain ⟨x5, hx5⟩ := field_cell hf hxl 5 _ rfl (by kernel_rfl) c5 rfl
    obtain ⟨y0, hy0⟩ := field_cell hg hyl 0 _ rfl (by kernel_rfl) b0 rfl
    obtain ⟨y1, hy1⟩ := field_cell hg hyl 1 _ rfl (by kernel_rfl) b1 rfl
    obtain ⟨y2, hy2⟩ := field_cell hg hyl 2 _ rfl (by kernel_rfl) b2 rfl
    obtain ⟨D, rfl, zD⟩ := str_field Tryz.underlying9 hx0
    obtain ⟨a, rfl, _⟩ := int_field Tryz.underlying3 hx1
    obtain ⟨p, rfl, _⟩ := int_field Tryz.underlying3 hx2
    obtain ⟨c, rfl, zc⟩ := str_field Tryz.underlying9 hx3
    obtain ⟨e, rfl, _⟩ := int_field Tryz.underlying2 hx4
    obtain ⟨t, rfl, _⟩ := int_field Tryz.underlying3 hx5
    obtain ⟨n, rfl, wn⟩ := int_field Tryz.underlying2 hy0
    obtain ⟨k, rfl, wk⟩ := int_field Tryz.underlying2 hy1
    obtain ⟨q, rfl, zq⟩ := str_field Tryz.underlying9 hy2
    exact walk D a p e t c a1 q n k zD zc w1 zq (bounds_int wn) (bounds_int wk) W (ready_of (tab_CubeRoots (laidMet.tail (laidMet.tail (laidMet.tail (laidMet.tail hL))))) (tab_SquareRoots (laidMet.tail (laidMet.tail (laidMet.tail (laidMet.tail (laidMet.tail hL)))))) (tab_Uint64pow10 (laidMet.tail (laidMet.tail hL))) hS)

theorem laid_met (os : Os) : laidMet Tryz.prog Rows.mintTellsRow.laid ((laidWorld os).forCall (fun _ _ => 0) ⟨#[], #[.agg #[.string ⟨#[]⟩, .int .i64 0, .int .i64 0, .string ⟨#[]⟩, .int .i64 0, .int .i64 0], .string ⟨#[]⟩, .agg #[.int .i64 0, .int .i64 0, .string ⟨#[]⟩]], []⟩).memory :=
  laidMet_of_run' 8 (by kernel_rfl) (by kernel_rfl)
theorem reads (os : Os) {H : Type} (enc : TypeId × Value → H) : ∃ places, DataW.whole enc Tryz.prog ((laidWorld os).forCall (fun _ _ => 0) ⟨#[], #[.agg #[.string ⟨#[]⟩, .int .i64 0, .int .i64 0, .string ⟨#[]⟩, .int .i64 0, .int .i64 0], .string ⟨#[]⟩, .agg #[.int .i64 0, .int .i64 0, .string ⟨#[]⟩]], []⟩).memory Tryz.f3.params.toList Rows.mintTellsSpec.vars false (#[.agg #[.string ⟨#[]⟩, .int .i64 0, .int .i64 0, .string ⟨#[]⟩, .int .i64 0, .int .i64 0], .string ⟨#[]⟩, .agg #[.int .i64 0, .int .i64 0, .string ⟨#[]⟩]] : Array Value).toList 8 = some ([.agg [.lit (.string []), .lit (.int .i64 0), .lit (.int .i64 0), .lit (.string []), .lit (.int .i64 0), .lit (.int .i64 0)], .lit (.string []), .agg [.lit (.int .i64 0), .lit (.int .i64 0), .lit (.string [])]], [], places) :=
  ⟨[], by kernel_rfl⟩

set_option maxRecDepth 100000 in
theorem lifted (os : Os) (started : os.Started) (H : Type) (enc : TypeId × Value → H) (F : Stop.Interp) :
    ReturnsInHanded {} Tryz.checked os 3 .any ((OpenSpec.ofChange Rows.mintTellsSpec).preRow enc Tryz.prog Tryz.f3 Rows.mintTellsRow.domain false Rows.mintTellsRow.laid) (((OpenSpec.ofChange Rows.mintTellsSpec).at F).post enc Tryz.prog Tryz.f3 false true false false) := by
  obtain ⟨places, hx⟩ := reads os enc
  refine returnsInHanded_of_row (C := Tryz.checked) (s := OpenSpec.ofChange Rows.mintTellsSpec) own started (by kernel_rfl) Tryz.func3
    (witness_row_at (enc := enc) (C := Tryz.checked) false (laidWorld os) #[.agg #[.string ⟨#[]⟩, .int .i64 0, .int .i64 0, .string ⟨#[]⟩, .int .i64 0, .int .i64 0], .string ⟨#[]⟩, .agg #[.int .i64 0, .int .i64 0, .string ⟨#[]⟩]] rfl (by kernel_rfl) (by kernel_rfl) (by kernel_rfl)
      (OpenSpec.preRow_of_cond 8 hx (by kernel_rfl) (fun k hk => by cases hk) (by kernel_rfl) (laid_met os))) ?_
  intro W base args ds gs before hval hW _ _ _ hL hS _
  exact contract H enc W base args ds gs before hval hW hL hS

theorem said : Rows.MintTellsSaid :=
  OpenClaim.holds_of_cond 3 Tryz.f3 rfl rfl rfl rfl rfl rfl rfl ⟨rfl, rfl, rfl, rfl, rfl⟩ rfl rfl rfl rfl rfl (by kernel_rfl) Tryz.func3 (by kernel_rfl)
    (of_decide_eq_true (by kernel_rfl)) (by unfold Func.isWrapper; first | (rw [if_pos (by decide +kernel)]; kernel_rfl) | (rw [if_neg (by decide +kernel)]; exact ⟨rfl, rfl⟩))
    (fun os started H enc _ F => by rw [OpenClaim.pre_eq_preRow]; exact lifted os started H enc F)

theorem plain (f : FuncId) (fn : Func) (hf : Tryz.pinned.checked.prog.funcNamed "homecoming/homecominglaw10.MintTells" = some f) (hfn : Tryz.pinned.checked.prog.funcs[f]? = some fn) :
    false = Tryz.pinned.checked.prog.looks [] ∧ ∀ (j : Nat) t, fn.params[j]? = some t → Tryz.pinned.checked.prog.wantsStandIn t = false := by
  obtain rfl : f = 3 := Option.some.inj ((show Tryz.prog.funcNamed "homecoming/homecominglaw10.MintTells" = some 3 by kernel_rfl).symm.trans hf) |>.symm
  obtain rfl : fn = Tryz.f3 := (Option.some.inj (Tryz.func3.symm.trans hfn)).symm
  refine ⟨by kernel_rfl, fun j t ht => ?_⟩
  have hall : (Tryz.f3.params.toList.all fun u => !Tryz.prog.wantsStandIn u) = true := by kernel_rfl
  have hm : t ∈ Tryz.f3.params.toList := by simpa using Array.mem_of_getElem? ht
  exact (show Tryz.prog.wantsStandIn t = false by simpa using List.all_eq_true.1 hall t hm)

/-- THE STATEMENT. -/
theorem card : Rows.MintTellsCardSaid :=
  Claim7.holds_tied_plain_at .later [] _ _ _ _ said (fun _ h => by cases h) (by kernel_rfl) (fun _ h => by cases h) mintTells_row_tie rfl ⟨rfl, rfl⟩ (by kernel_rfl) rfl plain (by kernel_rfl)
#print axioms card
end Go.Proofs.YtflgbnolfleicaaGreatDoor.mintTells
