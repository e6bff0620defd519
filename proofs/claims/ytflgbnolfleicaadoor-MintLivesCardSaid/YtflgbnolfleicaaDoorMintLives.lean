/-
  Proves the statement of MintLives: for every purpose, every two draws and every two times the law returns true (a secret that is minted later ends no sooner; two that were minted at once, for one purpose, end together, and are alike but for their digests), and its arguments read as they did. Conditions: the package-level tables uint64pow10, deBruijn32tab, deBruijn64tab, acceptRanges and first of the library, and sha's cubeRoots and squareRoots, hold what their texts lay.
-/
import Derived.Test.YtflgbnolfleicaaDoorMinW
import Derived.Test.YtflgbnolfleicaaDoorMinT
import Derived.Test.YtflgbnolfleicaaDoorAnyH
import Derived.Test.YtflgbnolfleicaaDoorStr
import Derived.Test.YtflgbnolfleicaaDoorTabs
import Derived.Test.YtflgbnolfleicaaDoorCards
import Derived.Test.YtflgbnolfleicaaDoorTie
namespace Go.Proofs.YtflgbnolfleicaaDoor.mintLives
open Go.ChangeShapes Go.WideShapes Go.ChangeAt Go.RowKit
open Go.ChangeMaps (open_string shut_string)

/-- What each operation of the drawn statement leaves. -/
def V6 (b4 : Nat) (n : Nat) (d0 : ByteArray) (XA : ByteArray) (PA : ByteArray) (DA : ByteArray) (p : Int) (E1 : Int) (tr : Int) : Nat → Value → Prop
  | 0, v => v = .agg #[.string ⟨#[]⟩, .int .i64 7, .int .i64 p, .string ⟨#[97, 64, 98, 46, 99, 100]⟩, .int .i64 0, .int .i64 0]
  | 1, v => v = .pointer (some ⟨b4, 0, none⟩)
  | 2, v => v = .string d0
  | 3, v => v = .string XA
  | 4, v => v = .int .i64 n
  | 5, v => v = .tuple #[.string PA, .agg #[.string DA, .int .i64 7, .int .i64 p, .string ⟨#[97, 64, 98, 46, 99, 100]⟩, .int .i64 E1, .int .i64 tr], .bool true]
  | 6, v => v = .tuple #[.string PA, .agg #[.string DA, .int .i64 7, .int .i64 p, .string ⟨#[97, 64, 98, 46, 99, 100]⟩, .int .i64 E1, .int .i64 tr], .bool true]
  | 7, v => v = .string PA
  | 8, v => v = .agg #[.string DA, .int .i64 7, .int .i64 p, .string ⟨#[97, 64, 98, 46, 99, 100]⟩, .int .i64 E1, .int .i64 tr]
  | 9, v => v = .bool true
  | 10, v => True ∨ v = v
  | 11, v => v = .string PA
  | 12, v => v = undef
  | 13, v => v = .bool true
  | _, _ => True
/-- What each operation of the drawn statement leaves. -/
def V7 (b4 : Nat) (n : Nat) (d1 : ByteArray) (XB : ByteArray) (PB : ByteArray) (DB : ByteArray) (p : Int) (E1 : Int) (tr : Int) : Nat → Value → Prop
  | 0, v => v = .agg #[.string ⟨#[]⟩, .int .i64 7, .int .i64 p, .string ⟨#[97, 64, 98, 46, 99, 100]⟩, .int .i64 0, .int .i64 0]
  | 1, v => v = .pointer (some ⟨b4, 1, none⟩)
  | 2, v => v = .string d1
  | 3, v => v = .string XB
  | 4, v => v = .int .i64 n
  | 5, v => v = .tuple #[.string PB, .agg #[.string DB, .int .i64 7, .int .i64 p, .string ⟨#[97, 64, 98, 46, 99, 100]⟩, .int .i64 E1, .int .i64 tr], .bool true]
  | 6, v => v = .tuple #[.string PB, .agg #[.string DB, .int .i64 7, .int .i64 p, .string ⟨#[97, 64, 98, 46, 99, 100]⟩, .int .i64 E1, .int .i64 tr], .bool true]
  | 7, v => v = .string PB
  | 8, v => v = .agg #[.string DB, .int .i64 7, .int .i64 p, .string ⟨#[97, 64, 98, 46, 99, 100]⟩, .int .i64 E1, .int .i64 tr]
  | 9, v => v = .bool true
  | 10, v => True ∨ v = v
  | 11, v => v = .string PB
  | 12, v => v = undef
  | 13, v => v = .bool true
  | _, _ => True
/-- What each operation of the drawn statement leaves. -/
def V8 (b4 : Nat) (d0 : ByteArray) (XA : ByteArray) (PA : ByteArray) (DA : ByteArray) (p : Int) (l : Int) (E2 : Int) (tr : Int) : Nat → Value → Prop
  | 0, v => v = .agg #[.string ⟨#[]⟩, .int .i64 7, .int .i64 p, .string ⟨#[97, 64, 98, 46, 99, 100]⟩, .int .i64 0, .int .i64 0]
  | 1, v => v = .pointer (some ⟨b4, 0, none⟩)
  | 2, v => v = .string d0
  | 3, v => v = .string XA
  | 4, v => v = .int .i64 l
  | 5, v => v = .tuple #[.string PA, .agg #[.string DA, .int .i64 7, .int .i64 p, .string ⟨#[97, 64, 98, 46, 99, 100]⟩, .int .i64 E2, .int .i64 tr], .bool true]
  | 6, v => v = .tuple #[.string PA, .agg #[.string DA, .int .i64 7, .int .i64 p, .string ⟨#[97, 64, 98, 46, 99, 100]⟩, .int .i64 E2, .int .i64 tr], .bool true]
  | 7, v => v = .string PA
  | 8, v => v = .agg #[.string DA, .int .i64 7, .int .i64 p, .string ⟨#[97, 64, 98, 46, 99, 100]⟩, .int .i64 E2, .int .i64 tr]
  | 9, v => v = .bool true
  | 10, v => True ∨ v = v
  | 11, v => v = .string PA
  | 12, v => v = undef
  | 13, v => v = .bool true
  | _, _ => True
theorem stays_nil : Stays (fun _ => False) (fun _ _ => True) := ⟨fun _ _ _ _ _ => trivial, fun _ _ _ _ h => h.elim⟩
theorem made_sec (W : World) : (Instr.alloc 32 true (.tuple #[])).run Tryd.prog W = .ok (.pointer (some ⟨W.heap.size, 0, none⟩)) (W.alloc (.cells zeroV 32)) := by
  unfold zeroV secV
  go_simp
theorem place6 (q : Int) : ∃ (t p : Int), q.tmod 6 = t ∧ -6 ≤ t ∧ t ≤ 6 ∧ 1 ≤ p ∧ p ≤ 6 ∧ 1 + t % 6 = p := by
  have h1 := Int.tmod_lt_of_pos q (show (0 : Int) < 6 by omega)
  have h2 : -(6 : Int) < q.tmod 6 := by
    have := Int.tmod_lt_of_pos (-q) (show (0 : Int) < 6 by omega)
    rw [Int.neg_tmod] at this
    omega
  generalize q.tmod 6 = t at h1 h2
  exact ⟨t, 1 + t % 6, rfl, by omega, by omega, by omega, by omega, rfl⟩
theorem plainB_in (p : Int) (A : List UInt8) (h : 1 ≤ p ∧ p ≤ 6) (hA : A.length = 10) : plainB p A = true := by
  unfold plainB
  rw [decide_eq_true h, decide_eq_true hA]
  rfl
theorem plainL_tok (p : Int) (A : List UInt8) (h : 1 ≤ p ∧ p ≤ 6) (h4 : p ≠ 4) (hA : A.length = 10) : plainL p A = Tk.enc A := by
  unfold plainL
  rw [if_pos ⟨h.1, h.2, hA⟩, if_neg h4]
theorem plainL_code (A : List UInt8) (hA : A.length = 10) : (plainL 4 A).length = 6 := by
  unfold plainL
  rw [if_pos ⟨by decide, by decide, hA⟩, if_pos rfl, Tk.code_length]
theorem mint_nil (D0 : ByteArray) (a p e0 t0 : Int) (c : ByteArray) (hc : c.size ≤ 50000) (d : List UInt8) (hd : d.length ≤ 100000) (n : Int) (hB : mintB a p c d n = true) (w : World) (hR : Ready w) :
    Calls Tryd.prog 10 #[.pointer none, .agg (secV D0 a p c e0 t0), .string (ba d), .int .i64 n] w fun e w' => e = .returned (.tuple #[.string (ba (plainL p d)), .agg (secV (ba (digL p (plainL p d))) a p c (Mi.clock n (Mi.life p)) (Mi.tries p)), .bool true]) ∧ Below w.heap.size w w' :=
  (mint_made Mt.nil D0 a p e0 t0 c hc d hd n hB 0 (by decide) w trivial hR).mono fun _ _ h => ⟨h.1, below_of_kept h.2.2⟩
theorem kind_c : (Ad.kind (⟨#[97, 64, 98, 46, 99, 100]⟩ : ByteArray).data.toList == 0) = false := by decide +kernel
set_option maxRecDepth 100000 in
set_option maxHeartbeats 8000000 in
theorem walk (p0 : Int) (d0 d1 : ByteArray) (q0 q1 : Int) (w : World) (hR : Ready w) :
    Calls Tryd.prog 5 #[.int .i64 p0, .agg #[.string d0, .string d1], .agg #[.int .i64 q0, .int .i64 q1]] w fun e w' => e = .returned (.bool true) ∧ Below w.heap.size w w' := by
  obtain ⟨t, p, e1, t1, t2, p1, p2, e2⟩ := place6 p0
  obtain ⟨n, hn, en⟩ := and_mask q0 39 549755813887 (by decide) (by decide)
  obtain ⟨m, hm, em⟩ := and_mask q1 39 549755813887 (by decide) (by decide)
  rw [show (2 : Nat) ^ 39 = 549755813888 by decide] at hn hm
  obtain ⟨l, hl⟩ : ∃ l : Int, (n : Int) + (m : Int) = l := ⟨_, rfl⟩
  have wl : IntKind.i64.wrap ((n : Int) + (m : Int)) = l := by rw [IntKind.wrap_i64]; omega
  have HA := Lib.hid (fun W => draw_any d0 W)
  have HB := Lib.hid (fun W => draw_any d1 W)
  have hA10 := Mi.draw_length d0.data.toList
  have hB10 := Mi.draw_length d1.data.toList
  generalize Mi.draw d0.data.toList = A at *
  generalize Mi.draw d1.data.toList = B at *
  have hmb : ∀ (d : List UInt8) (x : Int), d.length = 10 → 0 ≤ x ∧ x ≤ 1099511627776 → mintB 7 p ⟨#[97, 64, 98, 46, 99, 100]⟩ d x = true := by
    intro d x hd hx
    unfold mintB
    rw [plainB_in p d ⟨p1, p2⟩ hd, kind_c, decide_eq_true hx]
    rfl
  have HMX := Lib.hid (fun W h => mint_nil ⟨#[]⟩ 7 p 0 0 ⟨#[97, 64, 98, 46, 99, 100]⟩ (by decide) A (by omega) n (hmb A n hA10 (by omega)) W h)
  have HMY := Lib.hid (fun W h => mint_nil ⟨#[]⟩ 7 p 0 0 ⟨#[97, 64, 98, 46, 99, 100]⟩ (by decide) B (by omega) n (hmb B n hB10 (by omega)) W h)
  have HMZ := Lib.hid (fun W h => mint_nil ⟨#[]⟩ 7 p 0 0 ⟨#[97, 64, 98, 46, 99, 100]⟩ (by decide) A (by omega) l (hmb A l hA10 (by omega)) W h)
  have hlf := Mi.life_at p ⟨p1, p2⟩
  have hE := Mi.clock_mono n l (Mi.life p) (by omega) (by omega) (by omega)
  have hE2 : (n : Int) < Mi.clock n (Mi.life p) := by
    rw [Mi.clock_low n (Mi.life p) (by omega) (by omega) (by omega)]; omega
  generalize Mi.clock n (Mi.life p) = E1 at *
  generalize Mi.clock l (Mi.life p) = E2 at *
  generalize Mi.tries p = tr at *
  generalize ba (digL p (plainL p A)) = DA at *
  generalize ba (digL p (plainL p B)) = DB at *
  generalize ba (plainL p A) = PA at *
  generalize ba (plainL p B) = PB at *
  generalize ba A = XA at *
  generalize ba B = XB at *
  have hlt1 : ¬ (E2 < E1) := by omega
  have HR := Lib.hid hR
  clear hR hmb hA10 hB10 hlf hn hm hl
  unfold secV at *
  go_enter Tryd.func5, Tryd.ntmps5
  go_wp2_with fail
  generalize hW0 : World.alloc _ (.cells #[.int .i64 q0, .int .i64 q1] 30) = W0
  have H4 := Lib.hid (show Blk W0 w.heap.size 29 #[.string d0, .string d1] by rw [← hW0]; exact (Blk.new w _ _).alloc _)
  have H5 := Lib.hid (show Blk W0 (w.heap.size + 1) 30 #[.int .i64 q0, .int .i64 q1] by rw [← hW0]; exact Blk.new2 w _ _ _)
  have HW0 := Lib.hid (show Below w.heap.size w W0 by rw [← hW0]; exact ((Below.refl _ w).alloc (Nat.le_refl _) _).alloc (by simp) _)
  have HR0 := Lib.hid (HR.out.next HW0.out)
  clear hW0 HR
  refine (awake_any W0 HR0.out.pow).mono ?_
  rintro e w1 ⟨rfl, hb⟩
  have H41 := Lib.hid (H4.out.of (hb.block _ H4.out.lt))
  have H51 := Lib.hid (H5.out.of (hb.block _ H5.out.lt))
  have HW1 := Lib.hid (HW0.out.trans (hb.mono HW0.out.size))
  have HR1 := Lib.hid (HR0.out.next hb)
  have c0 := H51.out.cell 0
  have c1 := H51.out.cell 1
  simp only [List.getElem?_toArray, List.getElem?_cons_zero, List.getElem?_cons_succ] at c0 c1
  clear hb H4 H5 HW0 HR0
  go_wp2_with fail
  generalize hV0 : World.alloc w1 (.cells _ 32) = V0
  have HS0 := Lib.hid (show Blk V0 w1.heap.size 32 #[.string ⟨#[]⟩, .int .i64 7, .int .i64 p, .string ⟨#[97, 64, 98, 46, 99, 100]⟩, .int .i64 0, .int .i64 0] by rw [← hV0]; exact Blk.new w1 _ _)
  have HW0 := Lib.hid (show Below w.heap.size w V0 by rw [← hV0]; exact HW1.out.alloc HW1.out.size _)
  have HR0 := Lib.hid (show Ready V0 by rw [← hV0]; exact HR1.out.next ((Below.refl _ w1).alloc (Nat.le_refl _) _))
  have HD0 := Lib.hid (show Blk V0 w.heap.size 29 #[.string d0, .string d1] by rw [← hV0]; exact H41.out.alloc _)
  generalize w1.heap.size = b11 at *
  generalize hb4 : w.heap.size = b4 at *
  clear hV0 H41 H51 HW1 HR1 c0 c1
  refine wp_region_acts (by kernel_rfl) (fun i v _ => V6 b4 n d0 XA PA DA p E1 tr i v) (Gv (fun _ => False) (fun _ _ => True) V0 0 32 zeroV #[.string DA, .int .i64 7, .int .i64 p, .string ⟨#[97, 64, 98, 46, 99, 100]⟩, .int .i64 E1, .int .i64 tr] 5 10 12 13) (fun _ _ => True) (by kernel_rfl) (by kernel_rfl) 106 rfl (by kernel_rfl) (fun _ _ _ _ h _ => h) (Gv.start trivial stays_nil 14 _) ?_ ?_
  · intro i o ho listed x W hs hdep hun hg hk
    match i, ho with
    | 0, ho =>
      cases ho
      have q11 : x.tmps[11]?.getD undef = .pointer (some ⟨b11, 0, none⟩) := hk.fix 11 (by kernel_rfl)
      refine ⟨wanted_plain rfl, ?_⟩
      refine wp_value (run_load_op _ _ rfl _ ((eval_slot x 11).trans q11) _ _ (HS0.out.of (hg.kept.block _ HS0.out.lt (fun h => h))) _ Tryd.underlying32 rfl sec_size) ⟨_, rfl, rfl, trivial, hg.quiet 0 (by decide) (by decide) (by decide) (some 38) (by decide) _⟩
    | 1, ho =>
      cases ho
      have q4 : x.tmps[4]?.getD undef = .pointer (some ⟨b4, 0, none⟩) := hk.fix 4 (by kernel_rfl)
      refine ⟨wanted_plain rfl, ?_⟩
      refine wp_value (v := .pointer (some ⟨b4, 0, none⟩)) (w' := W) ?_ ⟨_, rfl, rfl, trivial, hg.quiet 1 (by decide) (by decide) (by decide) (some 39) (by decide) _⟩
      go_simp
    | 2, ho =>
      cases ho
      have q39 : x.tmps[39]?.getD undef = .pointer (some ⟨b4, 0, none⟩) := hk.dep 1 39 (by kernel_rfl) (by kernel_rfl)
      refine ⟨wanted_plain rfl, ?_⟩
      have cf : W.cell? ⟨b4, 0, none⟩ = some (.string d0) := ((HD0.out.of (hg.kept.block _ HD0.out.lt (fun h => h))).cell 0).trans rfl
      refine wp_value (v := .string d0) (w' := W) ?_ ⟨_, rfl, rfl, trivial, hg.quiet 2 (by decide) (by decide) (by decide) (some 40) (by decide) _⟩
      go_simp
    | 3, ho =>
      cases ho
      have q40 : x.tmps[40]?.getD undef = .string d0 := hk.dep 2 40 (by kernel_rfl) (by kernel_rfl)
      refine ⟨wanted_plain rfl, ?_⟩
      refine wp_enter (f := 8) (args := #[.string d0]) (w' := W) (S := fun v w1 => v = .string XA ∧ Below W.heap.size W w1) ?_ ((HA.out W).mono fun e w' h => ⟨_, h.1, rfl, h.2⟩) ?_
      · go_simp
      · rintro v W' ⟨rfl, hb⟩
        exact ⟨_, rfl, rfl, trivial, hg.calls stays_nil hb 3 (by decide) (by decide) (by decide) (some 41) (by decide) _⟩
    | 4, ho =>
      cases ho
      have q9 : x.tmps[9]?.getD undef = .int .i64 n := hk.fix 9 (by kernel_rfl)
      refine ⟨wanted_plain rfl, ?_⟩
      refine wp_value (v := .int .i64 n) (w' := W) ?_ ⟨_, rfl, rfl, trivial, hg.quiet 4 (by decide) (by decide) (by decide) (some 42) (by decide) _⟩
      go_simp
    | 5, ho =>
      cases ho
      have q38 : x.tmps[38]?.getD undef = .agg #[.string ⟨#[]⟩, .int .i64 7, .int .i64 p, .string ⟨#[97, 64, 98, 46, 99, 100]⟩, .int .i64 0, .int .i64 0] := hk.dep 0 38 (by kernel_rfl) (by kernel_rfl)
      have q41 : x.tmps[41]?.getD undef = .string XA := hk.dep 3 41 (by kernel_rfl) (by kernel_rfl)
      have q42 : x.tmps[42]?.getD undef = .int .i64 n := hk.dep 4 42 (by kernel_rfl) (by kernel_rfl)
      refine ⟨wanted_plain rfl, ?_⟩
      refine wp_enter (f := 10) (args := #[.pointer none, .agg #[.string ⟨#[]⟩, .int .i64 7, .int .i64 p, .string ⟨#[97, 64, 98, 46, 99, 100]⟩, .int .i64 0, .int .i64 0], .string XA, .int .i64 n]) (w' := W) (S := fun v w1 => v = .tuple #[.string PA, .agg #[.string DA, .int .i64 7, .int .i64 p, .string ⟨#[97, 64, 98, 46, 99, 100]⟩, .int .i64 E1, .int .i64 tr], .bool true] ∧ (True ∧ Kept (fun _ => False) W w1)) ?_ ((HMX.out W (HR0.out.next (hg.below hun))).mono fun e w' h => ⟨_, h.1, rfl, trivial, Kept.of_below h.2⟩) ?_
      · go_simp
      · rintro v W' ⟨rfl, hb⟩
        exact ⟨_, rfl, rfl, trivial, hg.counted (fun _ h => h.elim) hb.2 hb.1 (by rw [hs]; decide) (by decide) (by decide) (some 43) (by decide) _⟩
    | 6, ho =>
      cases ho
      have q43 : x.tmps[43]?.getD undef = .tuple #[.string PA, .agg #[.string DA, .int .i64 7, .int .i64 p, .string ⟨#[97, 64, 98, 46, 99, 100]⟩, .int .i64 E1, .int .i64 tr], .bool true] := hk.dep 5 43 (by kernel_rfl) (by kernel_rfl)
      refine ⟨wanted_plain rfl, ?_⟩
      refine wp_value (v := .tuple #[.string PA, .agg #[.string DA, .int .i64 7, .int .i64 p, .string ⟨#[97, 64, 98, 46, 99, 100]⟩, .int .i64 E1, .int .i64 tr], .bool true]) (w' := W) ?_ ⟨_, rfl, rfl, trivial, hg.quiet 6 (by decide) (by decide) (by decide) (some 37) (by decide) _⟩
      go_simp
    | 7, ho =>
      cases ho
      have q37 : x.tmps[37]?.getD undef = .tuple #[.string PA, .agg #[.string DA, .int .i64 7, .int .i64 p, .string ⟨#[97, 64, 98, 46, 99, 100]⟩, .int .i64 E1, .int .i64 tr], .bool true] := hk.dep 6 37 (by kernel_rfl) (by kernel_rfl)
      refine ⟨wanted_plain rfl, ?_⟩
      refine wp_value (v := .string PA) (w' := W) ?_ ⟨_, rfl, rfl, trivial, hg.quiet 7 (by decide) (by decide) (by decide) (some 44) (by decide) _⟩
      go_simp
    | 8, ho =>
      cases ho
      have q37 : x.tmps[37]?.getD undef = .tuple #[.string PA, .agg #[.string DA, .int .i64 7, .int .i64 p, .string ⟨#[97, 64, 98, 46, 99, 100]⟩, .int .i64 E1, .int .i64 tr], .bool true] := hk.dep 6 37 (by kernel_rfl) (by kernel_rfl)
      refine ⟨wanted_plain rfl, ?_⟩
      refine wp_value (v := .agg #[.string DA, .int .i64 7, .int .i64 p, .string ⟨#[97, 64, 98, 46, 99, 100]⟩, .int .i64 E1, .int .i64 tr]) (w' := W) ?_ ⟨_, rfl, rfl, trivial, hg.quiet 8 (by decide) (by decide) (by decide) (some 45) (by decide) _⟩
      go_simp
    | 9, ho =>
      cases ho
      have q37 : x.tmps[37]?.getD undef = .tuple #[.string PA, .agg #[.string DA, .int .i64 7, .int .i64 p, .string ⟨#[97, 64, 98, 46, 99, 100]⟩, .int .i64 E1, .int .i64 tr], .bool true] := hk.dep 6 37 (by kernel_rfl) (by kernel_rfl)
      refine ⟨wanted_plain rfl, ?_⟩
      refine wp_value (v := .bool true) (w' := W) ?_ ⟨_, rfl, rfl, trivial, hg.quiet 9 (by decide) (by decide) (by decide) (some 46) (by decide) _⟩
      go_simp
    | 10, ho =>
      cases ho
      refine ⟨wanted_plain rfl, ?_⟩
      refine wp_value (run_alloc_op 32 rfl zeroV (made_sec W)) ⟨_, rfl, .inl trivial, trivial, Gv.made stays_nil hg hun (by rw [hs]; decide) (by decide) (by decide) (Nat.lt_of_lt_of_eq (by decide : 13 < 106) (hk.size.trans rfl).symm)⟩
    | 11, ho =>
      cases ho
      have q44 : x.tmps[44]?.getD undef = .string PA := hk.dep 7 44 (by kernel_rfl) (by kernel_rfl)
      refine ⟨wanted_plain rfl, ?_⟩
      refine wp_value (v := .string PA) (w' := W) ?_ ⟨_, rfl, rfl, trivial, hg.quiet 11 (by decide) (by decide) (by decide) (some 12) (by decide) _⟩
      go_simp
    | 12, ho =>
      cases ho
      have q45 : x.tmps[45]?.getD undef = .agg #[.string DA, .int .i64 7, .int .i64 p, .string ⟨#[97, 64, 98, 46, 99, 100]⟩, .int .i64 E1, .int .i64 tr] := hk.dep 8 45 (by kernel_rfl) (by kernel_rfl)
      refine ⟨wanted_plain rfl, ?_⟩
      have hla := hdep 10 (by kernel_rfl)
      obtain ⟨g, e0, hg1, hg2⟩ := hg.var hla
      have hni : ¬ (listed.getD 12 false = true) := by rw [hun]; decide
      rw [if_neg hni] at hg2
      refine wp_skip (w' := W.setRow g #[.string DA, .int .i64 7, .int .i64 p, .string ⟨#[97, 64, 98, 46, 99, 100]⟩, .int .i64 E1, .int .i64 tr]) ?_ ⟨undef, rfl, rfl, trivial, Gv.stored stays_nil (fun _ h => h.elim) hg hla (by rw [hs]; decide) (by decide) (by decide) g hg1 e0 zeroV hg2 undef⟩
      exact run_store_op 32 _ _ rfl g #[.string DA, .int .i64 7, .int .i64 p, .string ⟨#[97, 64, 98, 46, 99, 100]⟩, .int .i64 E1, .int .i64 tr] ((eval_slot x 13).trans e0) ((eval_slot x 45).trans q45) 32 zeroV hg2 sec_size rfl (by simp [Value.oneCell'])
    | 13, ho =>
      cases ho
      have q46 : x.tmps[46]?.getD undef = .bool true := hk.dep 9 46 (by kernel_rfl) (by kernel_rfl)
      refine ⟨wanted_plain rfl, ?_⟩
      refine wp_value (v := .bool true) (w' := W) ?_ ⟨_, rfl, rfl, trivial, hg.quiet 13 (by decide) (by decide) (by decide) (some 14) (by decide) _⟩
      go_simp
    | _ + 14, ho => cases ho
  intro listed x V1 hall hg hk
  obtain ⟨g13, e13, hg13, hx13⟩ := hg.var (hall 10 (by decide))
  rw [if_pos (hall 12 (by decide))] at hx13
  have e38 : x.tmps[38]?.getD undef = .agg #[.string ⟨#[]⟩, .int .i64 7, .int .i64 p, .string ⟨#[97, 64, 98, 46, 99, 100]⟩, .int .i64 0, .int .i64 0] := hk.last 0 38 (by decide) (by kernel_rfl)
  have e39 : x.tmps[39]?.getD undef = .pointer (some ⟨b4, 0, none⟩) := hk.last 1 39 (by decide) (by kernel_rfl)
  have e40 : x.tmps[40]?.getD undef = .string d0 := hk.last 2 40 (by decide) (by kernel_rfl)
  have e41 : x.tmps[41]?.getD undef = .string XA := hk.last 3 41 (by decide) (by kernel_rfl)
  have e42 : x.tmps[42]?.getD undef = .int .i64 n := hk.last 4 42 (by decide) (by kernel_rfl)
  have e43 : x.tmps[43]?.getD undef = .tuple #[.string PA, .agg #[.string DA, .int .i64 7, .int .i64 p, .string ⟨#[97, 64, 98, 46, 99, 100]⟩, .int .i64 E1, .int .i64 tr], .bool true] := hk.last 5 43 (by decide) (by kernel_rfl)
  have e37 : x.tmps[37]?.getD undef = .tuple #[.string PA, .agg #[.string DA, .int .i64 7, .int .i64 p, .string ⟨#[97, 64, 98, 46, 99, 100]⟩, .int .i64 E1, .int .i64 tr], .bool true] := hk.last 6 37 (by decide) (by kernel_rfl)
  have e44 : x.tmps[44]?.getD undef = .string PA := hk.last 7 44 (by decide) (by kernel_rfl)
  have e45 : x.tmps[45]?.getD undef = .agg #[.string DA, .int .i64 7, .int .i64 p, .string ⟨#[97, 64, 98, 46, 99, 100]⟩, .int .i64 E1, .int .i64 tr] := hk.last 8 45 (by decide) (by kernel_rfl)
  have e46 : x.tmps[46]?.getD undef = .bool true := hk.last 9 46 (by decide) (by kernel_rfl)
  have e12 : x.tmps[12]?.getD undef = .string PA := hk.last 11 12 (by decide) (by kernel_rfl)
  have e14 : x.tmps[14]?.getD undef = .bool true := hk.last 13 14 (by decide) (by kernel_rfl)
  have hkp := Lib.hid hg.kept
  have hx := hk.act [38, 39, 40, 41, 42, 43, 37, 44, 45, 46, 13, 12, 14] (by kernel_rfl)
  clear hk hg hall
  simp only [List.foldl_cons, List.foldl_nil, e38, e39, e40, e41, e42, e43, e37, e44, e45, e46, e13, e12, e14] at hx
  clear e38 e39 e40 e41 e42 e43 e37 e44 e45 e46 e13 e12 e14
  subst hx
  simp only [Act.put, List.setIfInBounds_toArray, List.set_cons_succ, List.set_cons_zero]
  have HS1 := Lib.hid (HS0.out.of (hkp.out.block _ HS0.out.lt (fun h => h)))
  have HD1 := Lib.hid (HD0.out.of (hkp.out.block _ HD0.out.lt (fun h => h)))
  have HW1 := Lib.hid (HW0.out.trans ((below_of_kept hkp.out).mono (by have h := HW0.out.size; omega)))
  have HR1 := Lib.hid (HR0.out.next (below_of_kept hkp.out))
  have HX1 := Lib.hid hx13
  clear hkp HS0 HD0 HW0 HR0 hx13
  go_wp2_with fail
  refine wp_region_acts (by kernel_rfl) (fun i v _ => V7 b4 n d1 XB PB DB p E1 tr i v) (Gv (fun _ => False) (fun _ _ => True) V1 0 32 zeroV #[.string DB, .int .i64 7, .int .i64 p, .string ⟨#[97, 64, 98, 46, 99, 100]⟩, .int .i64 E1, .int .i64 tr] 5 10 12 16) (fun _ _ => True) (by kernel_rfl) (by kernel_rfl) 106 rfl (by kernel_rfl) (fun _ _ _ _ h _ => h) (Gv.start trivial stays_nil 14 _) ?_ ?_
  · intro i o ho listed x W hs hdep hun hg hk
    match i, ho with
    | 0, ho =>
      cases ho
      have q11 : x.tmps[11]?.getD undef = .pointer (some ⟨b11, 0, none⟩) := hk.fix 11 (by kernel_rfl)
      refine ⟨wanted_plain rfl, ?_⟩
      refine wp_value (run_load_op _ _ rfl _ ((eval_slot x 11).trans q11) _ _ (HS1.out.of (hg.kept.block _ HS1.out.lt (fun h => h))) _ Tryd.underlying32 rfl sec_size) ⟨_, rfl, rfl, trivial, hg.quiet 0 (by decide) (by decide) (by decide) (some 48) (by decide) _⟩
    | 1, ho =>
      cases ho
      have q4 : x.tmps[4]?.getD undef = .pointer (some ⟨b4, 0, none⟩) := hk.fix 4 (by kernel_rfl)
      refine ⟨wanted_plain rfl, ?_⟩
      refine wp_value (v := .pointer (some ⟨b4, 1, none⟩)) (w' := W) ?_ ⟨_, rfl, rfl, trivial, hg.quiet 1 (by decide) (by decide) (by decide) (some 49) (by decide) _⟩
      go_simp
    | 2, ho =>
      cases ho
      have q49 : x.tmps[49]?.getD undef = .pointer (some ⟨b4, 1, none⟩) := hk.dep 1 49 (by kernel_rfl) (by kernel_rfl)
      refine ⟨wanted_plain rfl, ?_⟩
      have cf : W.cell? ⟨b4, 1, none⟩ = some (.string d1) := ((HD1.out.of (hg.kept.block _ HD1.out.lt (fun h => h))).cell 1).trans rfl
      refine wp_value (v := .string d1) (w' := W) ?_ ⟨_, rfl, rfl, trivial, hg.quiet 2 (by decide) (by decide) (by decide) (some 50) (by decide) _⟩
      go_simp
    | 3, ho =>
      cases ho
      have q50 : x.tmps[50]?.getD undef = .string d1 := hk.dep 2 50 (by kernel_rfl) (by kernel_rfl)
      refine ⟨wanted_plain rfl, ?_⟩
      refine wp_enter (f := 8) (args := #[.string d1]) (w' := W) (S := fun v w1 => v = .string XB ∧ Below W.heap.size W w1) ?_ ((HB.out W).mono fun e w' h => ⟨_, h.1, rfl, h.2⟩) ?_
      · go_simp
      · rintro v W' ⟨rfl, hb⟩
        exact ⟨_, rfl, rfl, trivial, hg.calls stays_nil hb 3 (by decide) (by decide) (by decide) (some 51) (by decide) _⟩
    | 4, ho =>
      cases ho
      have q9 : x.tmps[9]?.getD undef = .int .i64 n := hk.fix 9 (by kernel_rfl)
      refine ⟨wanted_plain rfl, ?_⟩
      refine wp_value (v := .int .i64 n) (w' := W) ?_ ⟨_, rfl, rfl, trivial, hg.quiet 4 (by decide) (by decide) (by decide) (some 52) (by decide) _⟩
      go_simp
    | 5, ho =>
      cases ho
      have q48 : x.tmps[48]?.getD undef = .agg #[.string ⟨#[]⟩, .int .i64 7, .int .i64 p, .string ⟨#[97, 64, 98, 46, 99, 100]⟩, .int .i64 0, .int .i64 0] := hk.dep 0 48 (by kernel_rfl) (by kernel_rfl)
      have q51 : x.tmps[51]?.getD undef = .string XB := hk.dep 3 51 (by kernel_rfl) (by kernel_rfl)
      have q52 : x.tmps[52]?.getD undef = .int .i64 n := hk.dep 4 52 (by kernel_rfl) (by kernel_rfl)
      refine ⟨wanted_plain rfl, ?_⟩
      refine wp_enter (f := 10) (args := #[.pointer none, .agg #[.string ⟨#[]⟩, .int .i64 7, .int .i64 p, .string ⟨#[97, 64, 98, 46, 99, 100]⟩, .int .i64 0, .int .i64 0], .string XB, .int .i64 n]) (w' := W) (S := fun v w1 => v = .tuple #[.string PB, .agg #[.string DB, .int .i64 7, .int .i64 p, .string ⟨#[97, 64, 98, 46, 99, 100]⟩, .int .i64 E1, .int .i64 tr], .bool true] ∧ (True ∧ Kept (fun _ => False) W w1)) ?_ ((HMY.out W (HR1.out.next (hg.below hun))).mono fun e w' h => ⟨_, h.1, rfl, trivial, Kept.of_below h.2⟩) ?_
      · go_simp
      · rintro v W' ⟨rfl, hb⟩
        exact ⟨_, rfl, rfl, trivial, hg.counted (fun _ h => h.elim) hb.2 hb.1 (by rw [hs]; decide) (by decide) (by decide) (some 53) (by decide) _⟩
    | 6, ho =>
      cases ho
      have q53 : x.tmps[53]?.getD undef = .tuple #[.string PB, .agg #[.string DB, .int .i64 7, .int .i64 p, .string ⟨#[97, 64, 98, 46, 99, 100]⟩, .int .i64 E1, .int .i64 tr], .bool true] := hk.dep 5 53 (by kernel_rfl) (by kernel_rfl)
      refine ⟨wanted_plain rfl, ?_⟩
      refine wp_value (v := .tuple #[.string PB, .agg #[.string DB, .int .i64 7, .int .i64 p, .string ⟨#[97, 64, 98, 46, 99, 100]⟩, .int .i64 E1, .int .i64 tr], .bool true]) (w' := W) ?_ ⟨_, rfl, rfl, trivial, hg.quiet 6 (by decide) (by decide) (by decide) (some 47) (by decide) _⟩
      go_simp
    | 7, ho =>
      cases ho
      have q47 : x.tmps[47]?.getD undef = .tuple #[.string PB, .agg #[.string DB, .int .i64 7, .int .i64 p, .string ⟨#[97, 64, 98, 46, 99, 100]⟩, .int .i64 E1, .int .i64 tr], .bool true] := hk.dep 6 47 (by kernel_rfl) (by kernel_rfl)
      refine ⟨wanted_plain rfl, ?_⟩
      refine wp_value (v := .string PB) (w' := W) ?_ ⟨_, rfl, rfl, trivial, hg.quiet 7 (by decide) (by decide) (by decide) (some 54) (by decide) _⟩
      go_simp
    | 8, ho =>
      cases ho
      have q47 : x.tmps[47]?.getD undef = .tuple #[.string PB, .agg #[.string DB, .int .i64 7, .int .i64 p, .string ⟨#[97, 64, 98, 46, 99, 100]⟩, .int .i64 E1, .int .i64 tr], .bool true] := hk.dep 6 47 (by kernel_rfl) (by kernel_rfl)
      refine ⟨wanted_plain rfl, ?_⟩
      refine wp_value (v := .agg #[.string DB, .int .i64 7, .int .i64 p, .string ⟨#[97, 64, 98, 46, 99, 100]⟩, .int .i64 E1, .int .i64 tr]) (w' := W) ?_ ⟨_, rfl, rfl, trivial, hg.quiet 8 (by decide) (by decide) (by decide) (some 55) (by decide) _⟩
      go_simp
    | 9, ho =>
      cases ho
      have q47 : x.tmps[47]?.getD undef = .tuple #[.string PB, .agg #[.string DB, .int .i64 7, .int .i64 p, .string ⟨#[97, 64, 98, 46, 99, 100]⟩, .int .i64 E1, .int .i64 tr], .bool true] := hk.dep 6 47 (by kernel_rfl) (by kernel_rfl)
      refine ⟨wanted_plain rfl, ?_⟩
      refine wp_value (v := .bool true) (w' := W) ?_ ⟨_, rfl, rfl, trivial, hg.quiet 9 (by decide) (by decide) (by decide) (some 56) (by decide) _⟩
      go_simp
    | 10, ho =>
      cases ho
      refine ⟨wanted_plain rfl, ?_⟩
      refine wp_value (run_alloc_op 32 rfl zeroV (made_sec W)) ⟨_, rfl, .inl trivial, trivial, Gv.made stays_nil hg hun (by rw [hs]; decide) (by decide) (by decide) (Nat.lt_of_lt_of_eq (by decide : 16 < 106) (hk.size.trans rfl).symm)⟩
    | 11, ho =>
      cases ho
      have q54 : x.tmps[54]?.getD undef = .string PB := hk.dep 7 54 (by kernel_rfl) (by kernel_rfl)
      refine ⟨wanted_plain rfl, ?_⟩
      refine wp_value (v := .string PB) (w' := W) ?_ ⟨_, rfl, rfl, trivial, hg.quiet 11 (by decide) (by decide) (by decide) (some 15) (by decide) _⟩
      go_simp
    | 12, ho =>
      cases ho
      have q55 : x.tmps[55]?.getD undef = .agg #[.string DB, .int .i64 7, .int .i64 p, .string ⟨#[97, 64, 98, 46, 99, 100]⟩, .int .i64 E1, .int .i64 tr] := hk.dep 8 55 (by kernel_rfl) (by kernel_rfl)
      refine ⟨wanted_plain rfl, ?_⟩
      have hla := hdep 10 (by kernel_rfl)
      obtain ⟨g, e0, hg1, hg2⟩ := hg.var hla
      have hni : ¬ (listed.getD 12 false = true) := by rw [hun]; decide
      rw [if_neg hni] at hg2
      refine wp_skip (w' := W.setRow g #[.string DB, .int .i64 7, .int .i64 p, .string ⟨#[97, 64, 98, 46, 99, 100]⟩, .int .i64 E1, .int .i64 tr]) ?_ ⟨undef, rfl, rfl, trivial, Gv.stored stays_nil (fun _ h => h.elim) hg hla (by rw [hs]; decide) (by decide) (by decide) g hg1 e0 zeroV hg2 undef⟩
      exact run_store_op 32 _ _ rfl g #[.string DB, .int .i64 7, .int .i64 p, .string ⟨#[97, 64, 98, 46, 99, 100]⟩, .int .i64 E1, .int .i64 tr] ((eval_slot x 16).trans e0) ((eval_slot x 55).trans q55) 32 zeroV hg2 sec_size rfl (by simp [Value.oneCell'])
    | 13, ho =>
      cases ho
      have q56 : x.tmps[56]?.getD undef = .bool true := hk.dep 9 56 (by kernel_rfl) (by kernel_rfl)
      refine ⟨wanted_plain rfl, ?_⟩
      refine wp_value (v := .bool true) (w' := W) ?_ ⟨_, rfl, rfl, trivial, hg.quiet 13 (by decide) (by decide) (by decide) (some 17) (by decide) _⟩
      go_simp
    | _ + 14, ho => cases ho
  intro listed x V2 hall hg hk
  obtain ⟨g16, e16, hg16, hx16⟩ := hg.var (hall 10 (by decide))
  rw [if_pos (hall 12 (by decide))] at hx16
  have e48 : x.tmps[48]?.getD undef = .agg #[.string ⟨#[]⟩, .int .i64 7, .int .i64 p, .string ⟨#[97, 64, 98, 46, 99, 100]⟩, .int .i64 0, .int .i64 0] := hk.last 0 48 (by decide) (by kernel_rfl)
  have e49 : x.tmps[49]?.getD undef = .pointer (some ⟨b4, 1, none⟩) := hk.last 1 49 (by decide) (by kernel_rfl)
  have e50 : x.tmps[50]?.getD undef = .string d1 := hk.last 2 50 (by decide) (by kernel_rfl)
  have e51 : x.tmps[51]?.getD undef = .string XB := hk.last 3 51 (by decide) (by kernel_rfl)
  have e52 : x.tmps[52]?.getD undef = .int .i64 n := hk.last 4 52 (by decide) (by kernel_rfl)
  have e53 : x.tmps[53]?.getD undef = .tuple #[.string PB, .agg #[.string DB, .int .i64 7, .int .i64 p, .string ⟨#[97, 64, 98, 46, 99, 100]⟩, .int .i64 E1, .int .i64 tr], .bool true] := hk.last 5 53 (by decide) (by kernel_rfl)
  have e47 : x.tmps[47]?.getD undef = .tuple #[.string PB, .agg #[.string DB, .int .i64 7, .int .i64 p, .string ⟨#[97, 64, 98, 46, 99, 100]⟩, .int .i64 E1, .int .i64 tr], .bool true] := hk.last 6 47 (by decide) (by kernel_rfl)
  have e54 : x.tmps[54]?.getD undef = .string PB := hk.last 7 54 (by decide) (by kernel_rfl)
  have e55 : x.tmps[55]?.getD undef = .agg #[.string DB, .int .i64 7, .int .i64 p, .string ⟨#[97, 64, 98, 46, 99, 100]⟩, .int .i64 E1, .int .i64 tr] := hk.last 8 55 (by decide) (by kernel_rfl)
  have e56 : x.tmps[56]?.getD undef = .bool true := hk.last 9 56 (by decide) (by kernel_rfl)
  have e15 : x.tmps[15]?.getD undef = .string PB := hk.last 11 15 (by decide) (by kernel_rfl)
  have e17 : x.tmps[17]?.getD undef = .bool true := hk.last 13 17 (by decide) (by kernel_rfl)
  have hkp := Lib.hid hg.kept
  have hx := hk.act [48, 49, 50, 51, 52, 53, 47, 54, 55, 56, 16, 15, 17] (by kernel_rfl)
  clear hk hg hall
  simp only [List.foldl_cons, List.foldl_nil, e48, e49, e50, e51, e52, e53, e47, e54, e55, e56, e16, e15, e17] at hx
  clear e48 e49 e50 e51 e52 e53 e47 e54 e55 e56 e16 e15 e17
  subst hx
  simp only [Act.put, List.setIfInBounds_toArray, List.set_cons_succ, List.set_cons_zero]
  have HW1s : Hid (b4 ≤ g16) := Lib.hid (by have h := HW1.out.size; omega)
  have hne : g13 ≠ g16 := by have h := HX1.out.lt; omega
  have HS2 := Lib.hid (HS1.out.of (hkp.out.block _ HS1.out.lt (fun h => h)))
  have HD2 := Lib.hid (HD1.out.of (hkp.out.block _ HD1.out.lt (fun h => h)))
  have HX2 := Lib.hid (HX1.out.of (hkp.out.block _ HX1.out.lt (fun h => h)))
  have HW2 := Lib.hid (HW1.out.trans ((below_of_kept hkp.out).mono (by have h := HW1.out.size; omega)))
  have HR2 := Lib.hid (HR1.out.next (below_of_kept hkp.out))
  have HY2 := Lib.hid hx16
  clear hkp HS1 HD1 HX1 HW1 HR1 hx16
  go_wp2_with fail
  refine wp_region_acts (by kernel_rfl) (fun i v _ => V8 b4 d0 XA PA DA p l E2 tr i v) (Gv (fun _ => False) (fun _ _ => True) V2 0 32 zeroV #[.string DA, .int .i64 7, .int .i64 p, .string ⟨#[97, 64, 98, 46, 99, 100]⟩, .int .i64 E2, .int .i64 tr] 5 10 12 19) (fun _ _ => True) (by kernel_rfl) (by kernel_rfl) 106 rfl (by kernel_rfl) (fun _ _ _ _ h _ => h) (Gv.start trivial stays_nil 14 _) ?_ ?_
  · intro i o ho listed x W hs hdep hun hg hk
    match i, ho with
    | 0, ho =>
      cases ho
      have q11 : x.tmps[11]?.getD undef = .pointer (some ⟨b11, 0, none⟩) := hk.fix 11 (by kernel_rfl)
      refine ⟨wanted_plain rfl, ?_⟩
      refine wp_value (run_load_op _ _ rfl _ ((eval_slot x 11).trans q11) _ _ (HS2.out.of (hg.kept.block _ HS2.out.lt (fun h => h))) _ Tryd.underlying32 rfl sec_size) ⟨_, rfl, rfl, trivial, hg.quiet 0 (by decide) (by decide) (by decide) (some 58) (by decide) _⟩
    | 1, ho =>
      cases ho
      have q4 : x.tmps[4]?.getD undef = .pointer (some ⟨b4, 0, none⟩) := hk.fix 4 (by kernel_rfl)
      refine ⟨wanted_plain rfl, ?_⟩
      refine wp_value (v := .pointer (some ⟨b4, 0, none⟩)) (w' := W) ?_ ⟨_, rfl, rfl, trivial, hg.quiet 1 (by decide) (by decide) (by decide) (some 59) (by decide) _⟩
      go_simp
    | 2, ho =>
      cases ho
      have q59 : x.tmps[59]?.getD undef = .pointer (some ⟨b4, 0, none⟩) := hk.dep 1 59 (by kernel_rfl) (by kernel_rfl)
      refine ⟨wanted_plain rfl, ?_⟩
      have cf : W.cell? ⟨b4, 0, none⟩ = some (.string d0) := ((HD2.out.of (hg.kept.block _ HD2.out.lt (fun h => h))).cell 0).trans rfl
      refine wp_value (v := .string d0) (w' := W) ?_ ⟨_, rfl, rfl, trivial, hg.quiet 2 (by decide) (by decide) (by decide) (some 60) (by decide) _⟩
      go_simp
    | 3, ho =>
      cases ho
      have q60 : x.tmps[60]?.getD undef = .string d0 := hk.dep 2 60 (by kernel_rfl) (by kernel_rfl)
      refine ⟨wanted_plain rfl, ?_⟩
      refine wp_enter (f := 8) (args := #[.string d0]) (w' := W) (S := fun v w1 => v = .string XA ∧ Below W.heap.size W w1) ?_ ((HA.out W).mono fun e w' h => ⟨_, h.1, rfl, h.2⟩) ?_
      · go_simp
      · rintro v W' ⟨rfl, hb⟩
        exact ⟨_, rfl, rfl, trivial, hg.calls stays_nil hb 3 (by decide) (by decide) (by decide) (some 61) (by decide) _⟩
    | 4, ho =>
      cases ho
      have q10 : x.tmps[10]?.getD undef = .int .i64 l := hk.fix 10 (by kernel_rfl)
      refine ⟨wanted_plain rfl, ?_⟩
      refine wp_value (v := .int .i64 l) (w' := W) ?_ ⟨_, rfl, rfl, trivial, hg.quiet 4 (by decide) (by decide) (by decide) (some 62) (by decide) _⟩
      go_simp
    | 5, ho =>
      cases ho
      have q58 : x.tmps[58]?.getD undef = .agg #[.string ⟨#[]⟩, .int .i64 7, .int .i64 p, .string ⟨#[97, 64, 98, 46, 99, 100]⟩, .int .i64 0, .int .i64 0] := hk.dep 0 58 (by kernel_rfl) (by kernel_rfl)
      have q61 : x.tmps[61]?.getD undef = .string XA := hk.dep 3 61 (by kernel_rfl) (by kernel_rfl)
      have q62 : x.tmps[62]?.getD undef = .int .i64 l := hk.dep 4 62 (by kernel_rfl) (by kernel_rfl)
      refine ⟨wanted_plain rfl, ?_⟩
      refine wp_enter (f := 10) (args := #[.pointer none, .agg #[.string ⟨#[]⟩, .int .i64 7, .int .i64 p, .string ⟨#[97, 64, 98, 46, 99, 100]⟩, .int .i64 0, .int .i64 0], .string XA, .int .i64 l]) (w' := W) (S := fun v w1 => v = .tuple #[.string PA, .agg #[.string DA, .int .i64 7, .int .i64 p, .string ⟨#[97, 64, 98, 46, 99, 100]⟩, .int .i64 E2, .int .i64 tr], .bool true] ∧ (True ∧ Kept (fun _ => False) W w1)) ?_ ((HMZ.out W (HR2.out.next (hg.below hun))).mono fun e w' h => ⟨_, h.1, rfl, trivial, Kept.of_below h.2⟩) ?_
      · go_simp
      · rintro v W' ⟨rfl, hb⟩
        exact ⟨_, rfl, rfl, trivial, hg.counted (fun _ h => h.elim) hb.2 hb.1 (by rw [hs]; decide) (by decide) (by decide) (some 63) (by decide) _⟩
    | 6, ho =>
      cases ho
      have q63 : x.tmps[63]?.getD undef = .tuple #[.string PA, .agg #[.string DA, .int .i64 7, .int .i64 p, .string ⟨#[97, 64, 98, 46, 99, 100]⟩, .int .i64 E2, .int .i64 tr], .bool true] := hk.dep 5 63 (by kernel_rfl) (by kernel_rfl)
      refine ⟨wanted_plain rfl, ?_⟩
      refine wp_value (v := .tuple #[.string PA, .agg #[.string DA, .int .i64 7, .int .i64 p, .string ⟨#[97, 64, 98, 46, 99, 100]⟩, .int .i64 E2, .int .i64 tr], .bool true]) (w' := W) ?_ ⟨_, rfl, rfl, trivial, hg.quiet 6 (by decide) (by decide) (by decide) (some 57) (by decide) _⟩
      go_simp
    | 7, ho =>
      cases ho
      have q57 : x.tmps[57]?.getD undef = .tuple #[.string PA, .agg #[.string DA, .int .i64 7, .int .i64 p, .string ⟨#[97, 64, 98, 46, 99, 100]⟩, .int .i64 E2, .int .i64 tr], .bool true] := hk.dep 6 57 (by kernel_rfl) (by kernel_rfl)
      refine ⟨wanted_plain rfl, ?_⟩
      refine wp_value (v := .string PA) (w' := W) ?_ ⟨_, rfl, rfl, trivial, hg.quiet 7 (by decide) (by decide) (by decide) (some 64) (by decide) _⟩
      go_simp
    | 8, ho =>
      cases ho
      have q57 : x.tmps[57]?.getD undef = .tuple #[.string PA, .agg #[.string DA, .int .i64 7, .int .i64 p, .string ⟨#[97, 64, 98, 46, 99, 100]⟩, .int .i64 E2, .int .i64 tr], .bool true] := hk.dep 6 57 (by kernel_rfl) (by kernel_rfl)
      refine ⟨wanted_plain rfl, ?_⟩
      refine wp_value (v := .agg #[.string DA, .int .i64 7, .int .i64 p, .string ⟨#[97, 64, 98, 46, 99, 100]⟩, .int .i64 E2, .int .i64 tr]) (w' := W) ?_ ⟨_, rfl, rfl, trivial, hg.quiet 8 (by decide) (by decide) (by decide) (some 65) (by decide) _⟩
      go_simp
    | 9, ho =>
      cases ho
      have q57 : x.tmps[57]?.getD undef = .tuple #[.string PA, .agg #[.string DA, .int .i64 7, .int .i64 p, .string ⟨#[97, 64, 98, 46, 99, 100]⟩, .int .i64 E2, .int .i64 tr], .bool true] := hk.dep 6 57 (by kernel_rfl) (by kernel_rfl)
      refine ⟨wanted_plain rfl, ?_⟩
      refine wp_value (v := .bool true) (w' := W) ?_ ⟨_, rfl, rfl, trivial, hg.quiet 9 (by decide) (by decide) (by decide) (some 66) (by decide) _⟩
      go_simp
    | 10, ho =>
      cases ho
      refine ⟨wanted_plain rfl, ?_⟩
      refine wp_value (run_alloc_op 32 rfl zeroV (made_sec W)) ⟨_, rfl, .inl trivial, trivial, Gv.made stays_nil hg hun (by rw [hs]; decide) (by decide) (by decide) (Nat.lt_of_lt_of_eq (by decide : 19 < 106) (hk.size.trans rfl).symm)⟩
    | 11, ho =>
      cases ho
      have q64 : x.tmps[64]?.getD undef = .string PA := hk.dep 7 64 (by kernel_rfl) (by kernel_rfl)
      refine ⟨wanted_plain rfl, ?_⟩
      refine wp_value (v := .string PA) (w' := W) ?_ ⟨_, rfl, rfl, trivial, hg.quiet 11 (by decide) (by decide) (by decide) (some 18) (by decide) _⟩
      go_simp
    | 12, ho =>
      cases ho
      have q65 : x.tmps[65]?.getD undef = .agg #[.string DA, .int .i64 7, .int .i64 p, .string ⟨#[97, 64, 98, 46, 99, 100]⟩, .int .i64 E2, .int .i64 tr] := hk.dep 8 65 (by kernel_rfl) (by kernel_rfl)
      refine ⟨wanted_plain rfl, ?_⟩
      have hla := hdep 10 (by kernel_rfl)
      obtain ⟨g, e0, hg1, hg2⟩ := hg.var hla
      have hni : ¬ (listed.getD 12 false = true) := by rw [hun]; decide
      rw [if_neg hni] at hg2
      refine wp_skip (w' := W.setRow g #[.string DA, .int .i64 7, .int .i64 p, .string ⟨#[97, 64, 98, 46, 99, 100]⟩, .int .i64 E2, .int .i64 tr]) ?_ ⟨undef, rfl, rfl, trivial, Gv.stored stays_nil (fun _ h => h.elim) hg hla (by rw [hs]; decide) (by decide) (by decide) g hg1 e0 zeroV hg2 undef⟩
      exact run_store_op 32 _ _ rfl g #[.string DA, .int .i64 7, .int .i64 p, .string ⟨#[97, 64, 98, 46, 99, 100]⟩, .int .i64 E2, .int .i64 tr] ((eval_slot x 19).trans e0) ((eval_slot x 65).trans q65) 32 zeroV hg2 sec_size rfl (by simp [Value.oneCell'])
    | 13, ho =>
      cases ho
      have q66 : x.tmps[66]?.getD undef = .bool true := hk.dep 9 66 (by kernel_rfl) (by kernel_rfl)
      refine ⟨wanted_plain rfl, ?_⟩
      refine wp_value (v := .bool true) (w' := W) ?_ ⟨_, rfl, rfl, trivial, hg.quiet 13 (by decide) (by decide) (by decide) (some 20) (by decide) _⟩
      go_simp
    | _ + 14, ho => cases ho
  intro listed x V3 hall hg hk
  obtain ⟨g19, e19, hg19, hx19⟩ := hg.var (hall 10 (by decide))
  rw [if_pos (hall 12 (by decide))] at hx19
  have e58 : x.tmps[58]?.getD undef = .agg #[.string ⟨#[]⟩, .int .i64 7, .int .i64 p, .string ⟨#[97, 64, 98, 46, 99, 100]⟩, .int .i64 0, .int .i64 0] := hk.last 0 58 (by decide) (by kernel_rfl)
  have e59 : x.tmps[59]?.getD undef = .pointer (some ⟨b4, 0, none⟩) := hk.last 1 59 (by decide) (by kernel_rfl)
  have e60 : x.tmps[60]?.getD undef = .string d0 := hk.last 2 60 (by decide) (by kernel_rfl)
  have e61 : x.tmps[61]?.getD undef = .string XA := hk.last 3 61 (by decide) (by kernel_rfl)
  have e62 : x.tmps[62]?.getD undef = .int .i64 l := hk.last 4 62 (by decide) (by kernel_rfl)
  have e63 : x.tmps[63]?.getD undef = .tuple #[.string PA, .agg #[.string DA, .int .i64 7, .int .i64 p, .string ⟨#[97, 64, 98, 46, 99, 100]⟩, .int .i64 E2, .int .i64 tr], .bool true] := hk.last 5 63 (by decide) (by kernel_rfl)
  have e57 : x.tmps[57]?.getD undef = .tuple #[.string PA, .agg #[.string DA, .int .i64 7, .int .i64 p, .string ⟨#[97, 64, 98, 46, 99, 100]⟩, .int .i64 E2, .int .i64 tr], .bool true] := hk.last 6 57 (by decide) (by kernel_rfl)
  have e64 : x.tmps[64]?.getD undef = .string PA := hk.last 7 64 (by decide) (by kernel_rfl)
  have e65 : x.tmps[65]?.getD undef = .agg #[.string DA, .int .i64 7, .int .i64 p, .string ⟨#[97, 64, 98, 46, 99, 100]⟩, .int .i64 E2, .int .i64 tr] := hk.last 8 65 (by decide) (by kernel_rfl)
  have e66 : x.tmps[66]?.getD undef = .bool true := hk.last 9 66 (by decide) (by kernel_rfl)
  have e18 : x.tmps[18]?.getD undef = .string PA := hk.last 11 18 (by decide) (by kernel_rfl)
  have e20 : x.tmps[20]?.getD undef = .bool true := hk.last 13 20 (by decide) (by kernel_rfl)
  have hkp := Lib.hid hg.kept
  have hx := hk.act [58, 59, 60, 61, 62, 63, 57, 64, 65, 66, 19, 18, 20] (by kernel_rfl)
  clear hk hg hall
  simp only [List.foldl_cons, List.foldl_nil, e58, e59, e60, e61, e62, e63, e57, e64, e65, e66, e19, e18, e20] at hx
  clear e58 e59 e60 e61 e62 e63 e57 e64 e65 e66 e19 e18 e20
  subst hx
  simp only [Act.put, List.setIfInBounds_toArray, List.set_cons_succ, List.set_cons_zero]
  have HS3 := Lib.hid (HS2.out.of (hkp.out.block _ HS2.out.lt (fun h => h)))
  have HD3 := Lib.hid (HD2.out.of (hkp.out.block _ HD2.out.lt (fun h => h)))
  have HX3 := Lib.hid (HX2.out.of (hkp.out.block _ HX2.out.lt (fun h => h)))
  have HY3 := Lib.hid (HY2.out.of (hkp.out.block _ HY2.out.lt (fun h => h)))
  have HW3 := Lib.hid (HW2.out.trans ((below_of_kept hkp.out).mono (by have h := HW2.out.size; omega)))
  have HR3 := Lib.hid (HR2.out.next (below_of_kept hkp.out))
  have HZ3 := Lib.hid hx19
  clear hkp HS2 HD2 HX2 HY2 HW2 HR2 hx19
  have x0 : V3.cell? ⟨g13, 0, none⟩ = some (.string DA) := (HX3.out.cell 0).trans rfl
  have x4 : V3.cell? ⟨g13, 4, none⟩ = some (.int .i64 E1) := (HX3.out.cell 4).trans rfl
  have z0 : V3.cell? ⟨g19, 0, none⟩ = some (.string DA) := (HZ3.out.cell 0).trans rfl
  have z4 : V3.cell? ⟨g19, 4, none⟩ = some (.int .i64 E2) := (HZ3.out.cell 4).trans rfl
  have y0 : V3.cell? ⟨g16, 0, none⟩ = some (.string DB) := (HY3.out.cell 0).trans rfl
  have yf := HY3.out.frozen 0
  have hdd : (DA.toList == DA.toList) = true := by simp
  have hdn : (DA.toList != DA.toList) = false := by simp
  have HX4 := Lib.hid (HX3.out.far (p := ⟨g16, 0, none⟩) hne (.string DA))
  have HY4 := Lib.hid (HY3.out.set_ 0 (.string DA))
  have HW4 := Lib.hid (HW3.out.setCell (p := ⟨g16, 0, none⟩) HW1s.out (.string DA))
  have u0 : (V3.setCell ⟨g16, 0, none⟩ (.string DA)).cell? ⟨g13, 0, none⟩ = some (.string DA) := (HX4.out.cell 0).trans rfl
  have v0 : (V3.setCell ⟨g16, 0, none⟩ (.string DA)).cell? ⟨g16, 0, none⟩ = some (.string DA) := (HY4.out.cell 0).trans rfl
  have u1 : (V3.setCell ⟨g16, 0, none⟩ (.string DA)).cell? ⟨g13, 1, none⟩ = some (.int .i64 7) := (HX4.out.cell 1).trans rfl
  have v1 : (V3.setCell ⟨g16, 0, none⟩ (.string DA)).cell? ⟨g16, 1, none⟩ = some (.int .i64 7) := (HY4.out.cell 1).trans rfl
  have u2 : (V3.setCell ⟨g16, 0, none⟩ (.string DA)).cell? ⟨g13, 2, none⟩ = some (.int .i64 p) := (HX4.out.cell 2).trans rfl
  have v2 : (V3.setCell ⟨g16, 0, none⟩ (.string DA)).cell? ⟨g16, 2, none⟩ = some (.int .i64 p) := (HY4.out.cell 2).trans rfl
  have u3 : (V3.setCell ⟨g16, 0, none⟩ (.string DA)).cell? ⟨g13, 3, none⟩ = some (.string ⟨#[97, 64, 98, 46, 99, 100]⟩) := (HX4.out.cell 3).trans rfl
  have v3 : (V3.setCell ⟨g16, 0, none⟩ (.string DA)).cell? ⟨g16, 3, none⟩ = some (.string ⟨#[97, 64, 98, 46, 99, 100]⟩) := (HY4.out.cell 3).trans rfl
  have u4 : (V3.setCell ⟨g16, 0, none⟩ (.string DA)).cell? ⟨g13, 4, none⟩ = some (.int .i64 E1) := (HX4.out.cell 4).trans rfl
  have v4 : (V3.setCell ⟨g16, 0, none⟩ (.string DA)).cell? ⟨g16, 4, none⟩ = some (.int .i64 E1) := (HY4.out.cell 4).trans rfl
  have u5 : (V3.setCell ⟨g16, 0, none⟩ (.string DA)).cell? ⟨g13, 5, none⟩ = some (.int .i64 tr) := (HX4.out.cell 5).trans rfl
  have v5 : (V3.setCell ⟨g16, 0, none⟩ (.string DA)).cell? ⟨g16, 5, none⟩ = some (.int .i64 tr) := (HY4.out.cell 5).trans rfl
  clear HS3 HD3 HX3 HY3 HZ3 HR3 HX4 HY4
  go_wp2_with fail
  go_ret
  exact ⟨rfl, by rw [hb4]; exact HW4.out⟩

/-! ### The row -/
set_option maxRecDepth 100000 in
theorem contract (H : Type) (enc : TypeId × Value → H) (W : World) (base : Nat) (args : Array Value) (ds gs : List (DataW H)) (before : List MemPlace)
    (hval : ∀ (j : Nat) t v, Tryd.f5.params[j]? = some t → args[j]? = some v → Value.okWide Tryd.prog W .any base t v)
    (hW : DataW.Whole enc Tryd.prog Tryd.f5.params.toList Rows.mintLivesSpec.vars false W args.toList ds gs before) (hL : laidMet Tryd.prog Rows.mintLivesRow.laid W) (hS : W.ShapedOpen Tryd.prog) :
    Calls Tryd.prog 5 args W fun e W' => ∃ v, e = .returned v ∧ Rows.mintLivesSpec.post enc Tryd.prog Tryd.f5 false true false false W args v W' := by
  have hW' := hW
  obtain ⟨p, q, hA0, hV, rfl, hfz, hnd⟩ := hW
  have hA : DataW.TrodAll enc Tryd.prog W 0 (fun _ => true) true Tryd.f5.params.toList args.toList ds p := hA0
  rw [Tryd.params5] at hA hval
  obtain ⟨v0, vs0, d0, ds0, p0, q0, hargs, rfl, rfl, h0, r0⟩ := trodAll_cons hA
  obtain ⟨v1, vs1, d1, ds1, p1, q1, rfl, rfl, rfl, h1, r1⟩ := trodAll_cons r0
  obtain ⟨v2, vs2, d2, ds2, p2, q2, rfl, rfl, rfl, h2, r2⟩ := trodAll_cons r1
  obtain ⟨rfl, rfl, rfl⟩ := trodAll_nil r2
  obtain rfl : args = #[v0, v1, v2] := by cases args; simp_all
  obtain ⟨rfl, rfl⟩ := trodVars_none hV
  refine law_contract (tb := 4) laidOut (by kernel_rfl) rfl (by kernel_rfl) Tryd.underlying4 rfl hW' ?_
  clear hA0 hW' hA
  obtain ⟨a0, rfl, rfl, rfl, w0⟩ := open_int Tryd.underlying3 (hval 0 3 v0 rfl rfl) h0
  obtain ⟨ss, rfl, hs1, hz1⟩ := open_array_texts Tryd.underlying29 Tryd.underlying9 cells_str (by kernel_rfl) (hval 1 29 v1 rfl rfl) h1
  obtain ⟨zs, rfl, hz, _⟩ := open_array Tryd.underlying30 Tryd.underlying2 cells_int (by kernel_rfl) (hval 2 30 v2 rfl rfl) h2
  match ss, hs1, zs, hz with
  | [s0, s1], _, [z0, z1], _ =>
    exact walk a0 s0 s1 z0 z1 W (ready_of (tab_CubeRoots (laidMet.tail (laidMet.tail (laidMet.tail (laidMet.tail hL))))) (tab_SquareRoots (laidMet.tail (laidMet.tail (laidMet.tail (laidMet.tail (laidMet.tail hL)))))) (tab_Uint64pow10 (laidMet.tail (laidMet.tail hL))) hS)

theorem laid_met (os : Os) : laidMet Tryd.prog Rows.mintLivesRow.laid ((laidWorld os).forCall (fun _ _ => 0) ⟨#[], #[.int .i64 0, .agg #[.string ⟨#[]⟩, .string ⟨#[]⟩], .agg #[.int .i64 0, .int .i64 0]], []⟩).memory :=
  laidMet_of_run' 8 (by kernel_rfl) (by kernel_rfl)
theorem reads (os : Os) {H : Type} (enc : TypeId × Value → H) : ∃ places, DataW.whole enc Tryd.prog ((laidWorld os).forCall (fun _ _ => 0) ⟨#[], #[.int .i64 0, .agg #[.string ⟨#[]⟩, .string ⟨#[]⟩], .agg #[.int .i64 0, .int .i64 0]], []⟩).memory Tryd.f5.params.toList Rows.mintLivesSpec.vars false (#[.int .i64 0, .agg #[.string ⟨#[]⟩, .string ⟨#[]⟩], .agg #[.int .i64 0, .int .i64 0]] : Array Value).toList 8 = some ([.lit (.int .i64 0), .agg [.lit (.string []), .lit (.string [])], .agg [.lit (.int .i64 0), .lit (.int .i64 0)]], [], places) :=
  ⟨[], by kernel_rfl⟩

set_option maxRecDepth 100000 in
theorem lifted (os : Os) (started : os.Started) (H : Type) (enc : TypeId × Value → H) (F : Stop.Interp) :
    ReturnsInHanded {} Tryd.checked os 5 .any ((OpenSpec.ofChange Rows.mintLivesSpec).preRow enc Tryd.prog Tryd.f5 Rows.mintLivesRow.domain false Rows.mintLivesRow.laid) (((OpenSpec.ofChange Rows.mintLivesSpec).at F).post enc Tryd.prog Tryd.f5 false true false false) := by
  obtain ⟨places, hx⟩ := reads os enc
  refine returnsInHanded_of_row (C := Tryd.checked) (s := OpenSpec.ofChange Rows.mintLivesSpec) own started (by kernel_rfl) Tryd.func5
    (witness_row_at (enc := enc) (C := Tryd.checked) false (laidWorld os) #[.int .i64 0, .agg #[.string ⟨#[]⟩, .string ⟨#[]⟩], .agg #[.int .i64 0, .int .i64 0]] rfl (by kernel_rfl) (by kernel_rfl) (by kernel_rfl)
      (OpenSpec.preRow_of_cond 8 hx (by kernel_rfl) (fun k hk => by cases hk) (by kernel_rfl) (laid_met os))) ?_
  intro W base args ds gs before hval hW _ _ _ hL hS _
  exact contract H enc W base args ds gs before hval hW hL hS

theorem said : Rows.MintLivesSaid :=
  OpenClaim.holds_of_cond 5 Tryd.f5 rfl rfl rfl rfl rfl rfl rfl ⟨rfl, rfl, rfl, rfl, rfl⟩ rfl rfl rfl rfl rfl (by kernel_rfl) Tryd.func5 (by kernel_rfl)
    (of_decide_eq_true (by kernel_rfl)) (by unfold Func.isWrapper; first | (rw [if_pos (by decide +kernel)]; kernel_rfl) | (rw [if_neg (by decide +kernel)]; exact ⟨rfl, rfl⟩))
    (fun os started H enc _ F => by rw [OpenClaim.pre_eq_preRow]; exact lifted os started H enc F)

theorem plain (f : FuncId) (fn : Func) (hf : Tryd.pinned.checked.prog.funcNamed "homecoming/homecominglaw10.MintLives" = some f) (hfn : Tryd.pinned.checked.prog.funcs[f]? = some fn) :
    false = Tryd.pinned.checked.prog.looks [] ∧ ∀ (j : Nat) t, fn.params[j]? = some t → Tryd.pinned.checked.prog.wantsStandIn t = false := by
  obtain rfl : f = 5 := Option.some.inj ((show Tryd.prog.funcNamed "homecoming/homecominglaw10.MintLives" = some 5 by kernel_rfl).symm.trans hf) |>.symm
  obtain rfl : fn = Tryd.f5 := (Option.some.inj (Tryd.func5.symm.trans hfn)).symm
  refine ⟨by kernel_rfl, fun j t ht => ?_⟩
  have hall : (Tryd.f5.params.toList.all fun u => !Tryd.prog.wantsStandIn u) = true := by kernel_rfl
  have hm : t ∈ Tryd.f5.params.toList := by simpa using Array.mem_of_getElem? ht
  exact (show Tryd.prog.wantsStandIn t = false by simpa using List.all_eq_true.1 hall t hm)

/-- THE STATEMENT. -/
theorem card : Rows.MintLivesCardSaid :=
  Claim7.holds_tied_plain_at .later [] _ _ _ _ said (fun _ h => by cases h) (by kernel_rfl) (fun _ h => by cases h) mintLives_row_tie rfl ⟨rfl, rfl⟩ (by kernel_rfl) rfl plain (by kernel_rfl)
#print axioms card
end Go.Proofs.YtflgbnolfleicaaDoor.mintLives
