/-
  Proves the statement of MintRight: for every purpose, every text and every two numbers the law returns true (what was minted is right; its plain text has its digest, typed with blanks and in capital letters, too; of another purpose it has one of 32 bytes), and its arguments read as they did. Conditions: the package-level tables uint64pow10, deBruijn32tab, deBruijn64tab, acceptRanges and first of the library, and sha's cubeRoots and squareRoots, hold what their texts lay.
-/
import Derived.Test.YtflgbnolfleicaaGreatDoorMinW
import Derived.Test.YtflgbnolfleicaaGreatDoorMinT
import Derived.Test.YtflgbnolfleicaaGreatDoorMinD
import Derived.Test.YtflgbnolfleicaaGreatDoorMinN
import Derived.Test.YtflgbnolfleicaaGreatDoorAnyI
import Derived.Test.YtflgbnolfleicaaGreatDoorTabs
import Derived.Test.YtflgbnolfleicaaGreatDoorCards
import Derived.Test.YtflgbnolfleicaaGreatDoorTie
namespace Go.Proofs.YtflgbnolfleicaaGreatDoor.mintRight
open Go.ChangeShapes Go.WideShapes Go.ChangeAt Go.RowKit
open Go.ChangeMaps (open_string shut_string)

/-- What each operation of the drawn statement leaves. -/
def Vr6 (gm : Nat) (d : ByteArray) (XA : ByteArray) (PL : ByteArray) (DG : ByteArray) (a : Int) (p : Int) (E : Int) (tr : Int) (n : Nat) : Nat → Value → Prop
  | 0, v => v = .pointer (some ⟨gm, 0, none⟩)
  | 1, v => v = .agg #[.string ⟨#[]⟩, .int .i64 a, .int .i64 p, .string ⟨#[97, 110, 110, 64, 98, 46, 111, 114, 103]⟩, .int .i64 0, .int .i64 0]
  | 2, v => v = .string d
  | 3, v => v = .string XA
  | 4, v => v = .int .i64 n
  | 5, v => v = .tuple #[.string PL, .agg #[.string DG, .int .i64 a, .int .i64 p, .string ⟨#[97, 110, 110, 64, 98, 46, 111, 114, 103]⟩, .int .i64 E, .int .i64 tr], .bool true]
  | 6, v => v = .tuple #[.string PL, .agg #[.string DG, .int .i64 a, .int .i64 p, .string ⟨#[97, 110, 110, 64, 98, 46, 111, 114, 103]⟩, .int .i64 E, .int .i64 tr], .bool true]
  | 7, v => v = .string PL
  | 8, v => v = .agg #[.string DG, .int .i64 a, .int .i64 p, .string ⟨#[97, 110, 110, 64, 98, 46, 111, 114, 103]⟩, .int .i64 E, .int .i64 tr]
  | 9, v => v = .bool true
  | 10, v => True ∨ v = v
  | 11, v => v = .string PL
  | 12, v => v = undef
  | 13, v => v = .bool true
  | _, _ => True
/-- What each operation of the drawn statement leaves. -/
def Vr7 (g10 : Nat) (gm : Nat) (g13 : Nat) (DG : ByteArray) (a : Int) (p : Int) (E : Int) (tr : Int) (lf : Int) (n : Nat) : Nat → Value → Prop
  | 0, v => v = .bool true
  | 1, v => v = .bool false
  | 2, v => v = .bool false
  | 3, v => v = .agg #[.string DG, .int .i64 a, .int .i64 p, .string ⟨#[97, 110, 110, 64, 98, 46, 111, 114, 103]⟩, .int .i64 E, .int .i64 tr]
  | 4, v => v = .bool true
  | 5, v => v = .bool false
  | 6, v => v = .bool false
  | 7, v => v = .bool false
  | 8, v => v = .pointer (some ⟨gm, 0, none⟩)
  | 9, v => v = .int .i64 1
  | 10, v => v = .bool false
  | 11, v => v = .bool false
  | 12, v => v = .bool false
  | 13, v => v = .pointer (some ⟨g13, 4, none⟩)
  | 14, v => v = .int .i64 E
  | 15, v => v = .int .i64 n
  | 16, v => v = .int .i64 p
  | 17, v => v = .int .i64 lf
  | 18, v => v = .int .i64 E
  | 19, v => v = .bool false
  | 20, v => v = .bool false
  | 21, v => v = .bool false
  | 22, v => v = .pointer (some ⟨g13, 1, none⟩)
  | 23, v => v = .int .i64 a
  | 24, v => v = .pointer (some ⟨g10, 1, none⟩)
  | 25, v => v = .int .i64 a
  | 26, v => v = .bool false
  | 27, v => v = .bool false
  | 28, v => v = .bool false
  | 29, v => v = .pointer (some ⟨g13, 3, none⟩)
  | 30, v => v = .string ⟨#[97, 110, 110, 64, 98, 46, 111, 114, 103]⟩
  | 31, v => v = .pointer (some ⟨g10, 3, none⟩)
  | 32, v => v = .string ⟨#[97, 110, 110, 64, 98, 46, 111, 114, 103]⟩
  | 33, v => v = .bool false
  | 34, v => v = .bool false
  | 35, v => v = .bool false
  | 36, v => v = .pointer (some ⟨g13, 2, none⟩)
  | 37, v => v = .int .i64 p
  | 38, v => v = .int .i64 p
  | 39, v => v = .bool false
  | 40, v => v = .bool false
  | _, _ => True
/-- What each operation of the drawn statement leaves. -/
def Vr18 (g13 : Nat) (PL : ByteArray) (DG : ByteArray) (TY : ByteArray) (OD : ByteArray) (PB1 : ByteArray) (p : Int) (pb : Int) : Nat → Value → World → Prop
  | 0, v, _ => v = .bool true
  | 1, v, _ => v = .bool true
  | 2, v, _ => v = .int .i64 p
  | 3, v, _ => v = .string PL
  | 4, v, _ => v = .string DG
  | 5, v, _ => v = .pointer (some ⟨g13, 0, none⟩)
  | 6, v, _ => v = .string DG
  | 7, v, _ => v = .bool true
  | 8, v, _ => v = .bool true
  | 9, v, _ => v = .bool true
  | 10, v, _ => v = .int .i64 p
  | 11, v, _ => v = .string TY
  | 12, v, _ => v = .string DG
  | 13, v, _ => v = .pointer (some ⟨g13, 0, none⟩)
  | 14, v, _ => v = .string DG
  | 15, v, _ => v = .bool true
  | 16, v, _ => v = .bool true
  | 17, v, _ => v = .bool true
  | 18, v, _ => v = .int .i64 p
  | 19, v, _ => v = .string PL
  | 20, v, _ => v = .string DG
  | 21, v, _ => v = .int .i64 p
  | 22, v, _ => v = .int .u8 pb
  | 23, v, W => ∃ g, v = .slice (some ⟨g, 0, none⟩) 1 1 ∧ Blk W g 5 #[.int .u8 pb]
  | 24, v, _ => v = .string PB1
  | 25, v, _ => v = .string PL
  | 26, v, W => ∃ g, v = .slice (some ⟨g, 0, none⟩) 2 2 ∧ Blk W g 9 #[.string PB1, .string PL]
  | 27, v, _ => v = .string DG
  | 28, v, _ => v = .bool true
  | 29, v, _ => v = .bool true
  | 30, v, _ => v = .bool true
  | 31, v, _ => v = .string OD
  | 32, v, _ => v = .int .i64 32
  | 33, v, _ => v = .bool true
  | 34, v, _ => v = .bool true
  | 35, v, _ => v = .bool true
  | _, _, _ => True
theorem Vr18.on (g13 : Nat) (PL : ByteArray) (DG : ByteArray) (TY : ByteArray) (OD : ByteArray) (PB1 : ByteArray) (p : Int) (pb : Int) : ∀ (i : Nat) (v : Value) (w w' : World), Vr18 g13 PL DG TY OD PB1 p pb i v w → Below w.heap.size w w' → Vr18 g13 PL DG TY OD PB1 p pb i v w' := by
  intro i v w w' hv hb
  revert hv
  unfold Vr18
  split <;> first
    | exact fun h => h
    | exact fun ⟨g, h1, h2⟩ => ⟨g, h1, h2.of (hb.block g h2.lt)⟩
theorem made_sec (W : World) : (Instr.alloc 23 true (.tuple #[])).run Tryz.prog W = .ok (.pointer (some ⟨W.heap.size, 0, none⟩)) (W.alloc (.cells zeroV 23)) := by
  unfold zeroV secV
  go_simp
theorem place6 (q : Int) : ∃ (t p : Int), q.tmod 6 = t ∧ -6 ≤ t ∧ t ≤ 6 ∧ 1 ≤ p ∧ p ≤ 6 ∧ 1 + t % 6 = p := by
  have h1 := Int.tmod_lt_of_pos q (show (0 : Int) < 6 by omega)
  have h2 : -(6 : Int) < q.tmod 6 := by
    have := Int.tmod_lt_of_pos (-q) (show (0 : Int) < 6 by omega)
    rw [Int.neg_tmod] at this
    omega
  generalize q.tmod 6 = t at h1 h2
  exact ⟨t, 1 + t % 6, rfl, by omega, by omega, by omega, by omega, rfl⟩
theorem plainB_in (p : Int) (A : List UInt8) (h : 1 ≤ p ∧ p ≤ 6) (hA : A.length = 10) : plainB p A = true := by
  unfold plainB
  rw [decide_eq_true h, decide_eq_true hA]
  rfl
theorem kind_c : (Ad.kind (⟨#[97, 110, 110, 64, 98, 46, 111, 114, 103]⟩ : ByteArray).data.toList == 0) = false := by decide +kernel
theorem lies_two (W : World) (g : Nat) (x y : ByteArray) (h : Blk W g 9 #[.string x, .string y]) : Lies (fun _ => False) W (some ⟨g, 0, none⟩) (cs [x, y]) := fun i u hi => by
  have hadd : (⟨g, 0, none⟩ : Addr).add i = ⟨g, i, none⟩ := by unfold Addr.add; split <;> simp_all
  exact ⟨_, rfl, h.lt, fun h => h, by rw [hadd, h.cell]; simpa [cs] using hi⟩
set_option maxRecDepth 100000 in
set_option maxHeartbeats 16000000 in
theorem walk (p0 : Int) (d : ByteArray) (q0 q1 : Int) (w : World) (hR : Ready w) :
    Calls Tryz.prog 4 #[.int .i64 p0, .string d, .agg #[.int .i64 q0, .int .i64 q1]] w fun e w' => e = .returned (.bool true) ∧ Below w.heap.size w w' := by
  obtain ⟨t, p, e1, t1, t2, p1, p2, e2⟩ := place6 p0
  obtain ⟨n, hn, en⟩ := and_mask q0 39 549755813887 (by decide) (by decide)
  obtain ⟨m, hm, em⟩ := and_mask q1 6 63 (by decide) (by decide)
  rw [show (2 : Nat) ^ 39 = 549755813888 by decide] at hn
  rw [show (2 : Nat) ^ 6 = 64 by decide] at hm
  obtain ⟨a, ha⟩ : ∃ a : Int, 1 + (m : Int) = a := ⟨_, rfl⟩
  obtain ⟨pp, hpp⟩ : ∃ z : Int, 1 + p % 6 = z := ⟨_, rfl⟩
  have HA := Lib.hid (fun W => draw_any d W)
  have hA10 := Mi.draw_length d.data.toList
  generalize Mi.draw d.data.toList = A at *
  have hB : mintB a p ⟨#[97, 110, 110, 64, 98, 46, 111, 114, 103]⟩ A n = true := by
    unfold mintB
    rw [plainB_in p A ⟨p1, p2⟩ hA10, kind_c, decide_eq_true (show 1 ≤ a ∧ a ≤ 99 by omega), decide_eq_true (show (0 : Int) ≤ (n : Int) ∧ (n : Int) ≤ 1099511627776 by omega)]
    rfl
  have hlf := Mi.life_at p ⟨p1, p2⟩
  have htr := Mi.tries_at p ⟨p1, p2⟩
  have hE := Mi.clock_low n (Mi.life p) (by omega) (by omega) (by omega)
  have hgB : rightB (ba (digL p (plainL p A))) a p ⟨#[97, 110, 110, 64, 98, 46, 111, 114, 103]⟩ (Mi.clock n (Mi.life p)) (Mi.tries p) = true := by
    unfold rightB
    rw [kind_c, decide_eq_true (digL_size p (plainL p A)), decide_eq_true (show 1 ≤ a ∧ a ≤ 99 by omega), decide_eq_true (show 1 ≤ p ∧ p ≤ 6 from ⟨p1, p2⟩), hE, decide_eq_true (show 0 ≤ (n : Int) + Mi.life p ∧ (n : Int) + Mi.life p ≤ 1099511627776 by omega), decide_eq_true (show 1 ≤ Mi.tries p ∧ Mi.tries p ≤ Mi.tries p by omega)]
    rfl
  have hpl := plainL_length p A
  have HMI := Lib.hid (fun (gm : Nat) (hgm : gm ≠ 1 ∧ gm ≠ 0) W h1 h2 => mint_made (Mt.one gm hgm) ⟨#[]⟩ a p 0 0 ⟨#[97, 110, 110, 64, 98, 46, 111, 114, 103]⟩ (by decide) A (by omega) n hB 0 (by decide) W h1 h2)
  have HG := Lib.hid (fun W h => right_any (ba (digL p (plainL p A))) a p ⟨#[97, 110, 110, 64, 98, 46, 111, 114, 103]⟩ (Mi.clock n (Mi.life p)) (Mi.tries p) (by decide) W h)
  rw [hgB] at HG
  have HL := Lib.hid (fun W => life_any p W)
  have HDG := Lib.hid (fun W (h : Tab W) => (digest_any Mt.nil p (plainL p A) (by omega) 0 (by decide) W trivial h).mono fun e w' h => (⟨h.1, below_of_kept h.2.2⟩ : e = .returned (.string (ba (digL p (plainL p A)))) ∧ Below W.heap.size W w'))
  have HDO := Lib.hid (fun W (h : Tab W) => (digest_any Mt.nil pp (plainL p A) (by omega) 0 (by decide) W trivial h).mono fun e w' h => (⟨h.1, below_of_kept h.2.2⟩ : e = .returned (.string (ba (digL pp (plainL p A)))) ∧ Below W.heap.size W w'))
  have HDT0 : Hid (∀ l : List UInt8, l.length ≤ 50000 → Tk.clean l = plainL p A → ∀ W, Tab W → Calls Tryz.prog 16 #[.pointer none, .int .i64 p, .string (ba l)] W fun e w' => e = .returned (.string (ba (digL p (plainL p A)))) ∧ Below W.heap.size W w') := Lib.hid (fun l hl hcl W h => (digest_any Mt.nil p l hl 0 (by decide) W trivial h).mono fun e w' h => (⟨by rw [h.1]; unfold digL; rw [hcl, clean_plain], below_of_kept h.2.2⟩ : e = .returned (.string (ba (digL p (plainL p A)))) ∧ Below W.heap.size W w'))
  have hOD := digL_size pp (plainL p A)
  have hw8 := pbyte_wrap p
  have HCV : Hid (∀ (W : World) (g : Nat), W.cell? ⟨g, 0, none⟩ = some (.int .u8 ((pbyte p).toNat : Int)) → (convert 46 9 (.slice (some ⟨g, 0, none⟩) 1 1)).run Tryz.prog W = .ok (.string (ba [pbyte p])) W) := Lib.hid (fun W g h => run_one W g _ (pbyte p) rfl h)
  have HSU : Hid (∀ (W : World) (g : Nat), Blk W g 9 #[.string (ba [pbyte p]), .string (ba (plainL p A))] → Tab W → Calls Tryz.prog 17 #[.slice (some ⟨g, 0, none⟩) 2 2] W fun e w' => e = .returned (.string (ba (digL p (plainL p A)))) ∧ Below W.heap.size W w') := Lib.hid (fun W g hb hT => by
    have h := sum_any [ba [pbyte p], ba (plainL p A)] (by simp) (by simp [len, ba_size]; omega) (some ⟨g, 0, none⟩) 2 W (lies_two W g _ _ hb) hT
    rw [show (tx [ba [pbyte p], ba (plainL p A)]).flatten = pbyte p :: plainL p A by simp [tx, ba_list]] at h
    rw [digL_plain]
    exact h)
  have HST := Lib.hid (still_plain p A)
  rw [hE] at HMI HG
  generalize Mi.tries p = tr at *
  generalize ba (digL p (plainL p A)) = DG at *
  generalize ba (digL pp (plainL p A)) = OD at *
  generalize ba [pbyte p] = PB1 at *
  obtain ⟨pb, hpb⟩ : ∃ z : Int, (((pbyte p).toNat : Nat) : Int) = z := ⟨_, rfl⟩
  rw [hpb] at HCV hw8
  obtain ⟨E, hEE⟩ : ∃ z : Int, (n : Int) + Mi.life p = z := ⟨_, rfl⟩
  rw [hEE] at HMI HG
  have hwE : IntKind.i64.wrap ((n : Int) + Mi.life p) = E := by rw [IntKind.wrap_i64]; omega
  generalize Mi.life p = lf at *
  generalize plainL p A = L at *
  obtain ⟨PL, hPL⟩ : ∃ z, ba L = z := ⟨_, rfl⟩
  rw [hPL] at HMI HDG HDO HSU
  have hPz : PL.size = L.length := by rw [← hPL, ba_size]
  have HGET : Hid (∀ k (h : k < PL.size) (h2 : k < L.length), PL[k] = L[k]) := Lib.hid (by subst hPL; intro k h h2; simp [ba]; rfl)
  generalize ba A = XA at *
  have hODi : (OD.size : Int) = 32 := by omega
  have HR := Lib.hid hR
  have HLK := Lib.hid (show 1 < w.heap.size ∧ 0 < w.heap.size from ⟨hR.tab.ltK, hR.tab.ltH⟩)
  have hcc : ((⟨#[97, 110, 110, 64, 98, 46, 111, 114, 103]⟩ : ByteArray).toList != (⟨#[97, 110, 110, 64, 98, 46, 111, 114, 103]⟩ : ByteArray).toList) = false := by simp
  have hdd : (DG.toList == DG.toList) = true := by simp
  clear hR hB hgB hlf htr hE hPL hpb hEE hA10 hn hOD
  unfold secV at *
  go_enter Tryz.func4, Tryz.ntmps4
  go_wp2_with fail
  have H50 := Lib.hid (Blk.new w 32 #[.int .i64 q0, .int .i64 q1])
  have HWa := Lib.hid ((Below.refl _ w).alloc (Nat.le_refl _) (.cells #[.int .i64 q0, .int .i64 q1] 32))
  generalize w.alloc (.cells #[.int .i64 q0, .int .i64 q1] 32) = W0 at *
  refine (awake_any W0 (HR.out.next HWa.out).pow).mono ?_
  rintro e w1 ⟨rfl, hb⟩
  have H51 := Lib.hid (H50.out.of (hb.block _ H50.out.lt))
  have HWz := Lib.hid (HWa.out.trans (hb.mono HWa.out.size))
  have c0 : w1.cell? ⟨w.heap.size, 0, none⟩ = some (.int .i64 q0) := (H51.out.cell 0).trans rfl
  have c1 : w1.cell? ⟨w.heap.size, 1, none⟩ = some (.int .i64 q1) := (H51.out.cell 1).trans rfl
  have c1b : ∀ o, (w1.alloc o).cell? ⟨w.heap.size, 1, none⟩ = some (.int .i64 q1) := fun o => ((H51.out.alloc o).cell 1).trans rfl
  clear hb H50 HWa
  go_wp2_with fail
  generalize hV0 : World.alloc _ (.cells #[.int .i64 0] 40) = V0
  have HS0 := Lib.hid (show Blk V0 w1.heap.size 23 #[.string ⟨#[]⟩, .int .i64 a, .int .i64 p, .string ⟨#[97, 110, 110, 64, 98, 46, 111, 114, 103]⟩, .int .i64 0, .int .i64 0] by rw [← hV0]; exact (Blk.new w1 _ _).alloc _)
  have HM0 := Lib.hid (show Met V0 (w1.heap.size + 1) 0 by rw [← hV0]; exact Blk.new2 w1 _ _ _)
  have HW0 := Lib.hid (show Below w.heap.size w V0 by rw [← hV0]; exact (HWz.out.alloc HWz.out.size _).alloc (by have h := HWz.out.size; simp; omega) _)
  have HWG := Lib.hid (show w.heap.size ≤ w1.heap.size + 1 by have h := HWz.out.size; omega)
  have HNM : Hid (¬ w1.heap.size = w1.heap.size + 1) := Lib.hid (by omega)
  clear hV0 HWz H51 c0 c1 c1b
  generalize w1.heap.size + 1 = gm at *
  generalize w1.heap.size = g10 at *
  have HGM : Hid (gm ≠ 1 ∧ gm ≠ 0) := Lib.hid (by have h := HWG.out; have h2 := HLK.out; omega)
  have HMT := Lib.hid (Mt.one gm HGM.out)
  have HMJ := Lib.hid (HMI.out gm HGM.out)
  have HLOW : Hid (∀ b, b = gm → b < V0.heap.size) := Lib.hid (fun b hb => by subst hb; exact HM0.out.lt)
  clear HMI HGM
  refine wp_region_some (by kernel_rfl) (fun i v _ => Vr6 gm d XA PL DG a p E tr n i v) (Gv (fun b => b = gm) (fun W k => Met W gm k) V0 0 23 zeroV #[.string DG, .int .i64 a, .int .i64 p, .string ⟨#[97, 110, 110, 64, 98, 46, 111, 114, 103]⟩, .int .i64 E, .int .i64 tr] 5 10 12 13) (fun _ _ => True) (by kernel_rfl) (by kernel_rfl) 150 rfl (by kernel_rfl) (fun _ _ _ _ h _ => by exact h) (fun _ => trivial) (by exact Gv.start HM0.out HMT.out.stays 14 _) ?_ ?_
  · intro i o ho listed x W hs hdep hun hg hk
    match i, ho with
    | 0, ho =>
      cases ho
      have q11 : x.tmps[11]?.getD undef = .pointer (some ⟨gm, 0, none⟩) := hk.fix 11 (by kernel_rfl)
      refine .inl ⟨wanted_plain rfl, ?_⟩
      refine wp_value (v := .pointer (some ⟨gm, 0, none⟩)) (w' := W) ?_ ⟨_, rfl, rfl, trivial, hg.quiet 0 (by decide) (by decide) (by decide) (some 37) (by decide) _⟩
      go_simp
    | 1, ho =>
      cases ho
      have q10 : x.tmps[10]?.getD undef = .pointer (some ⟨g10, 0, none⟩) := hk.fix 10 (by kernel_rfl)
      refine .inl ⟨wanted_plain rfl, ?_⟩
      refine wp_value (run_load_op _ _ rfl _ ((eval_slot x 10).trans q10) _ _ (HS0.out.of (hg.kept.block _ HS0.out.lt HNM.out)) _ Tryz.underlying23 rfl sec_size) ⟨_, rfl, rfl, trivial, hg.quiet 1 (by decide) (by decide) (by decide) (some 38) (by decide) _⟩
    | 2, ho =>
      cases ho
      have q1 : x.tmps[1]?.getD undef = .string d := hk.fix 1 (by kernel_rfl)
      refine .inl ⟨wanted_plain rfl, ?_⟩
      refine wp_value (v := .string d) (w' := W) ?_ ⟨_, rfl, rfl, trivial, hg.quiet 2 (by decide) (by decide) (by decide) (some 39) (by decide) _⟩
      go_simp
    | 3, ho =>
      cases ho
      have q39 : x.tmps[39]?.getD undef = .string d := hk.dep 2 39 (by kernel_rfl) (by kernel_rfl)
      refine .inl ⟨wanted_plain rfl, ?_⟩
      refine wp_enter (f := 9) (args := #[.string d]) (w' := W) (S := fun v w1 => v = .string XA ∧ Below W.heap.size W w1) ?_ ((HA.out W).mono fun e w' h => ⟨_, h.1, rfl, h.2⟩) ?_
      · go_simp
      · rintro v W' ⟨rfl, hb⟩
        exact ⟨_, rfl, rfl, trivial, hg.calls HMT.out.stays hb 3 (by decide) (by decide) (by decide) (some 40) (by decide) _⟩
    | 4, ho =>
      cases ho
      have q9 : x.tmps[9]?.getD undef = .int .i64 n := hk.fix 9 (by kernel_rfl)
      refine .inl ⟨wanted_plain rfl, ?_⟩
      refine wp_value (v := .int .i64 n) (w' := W) ?_ ⟨_, rfl, rfl, trivial, hg.quiet 4 (by decide) (by decide) (by decide) (some 41) (by decide) _⟩
      go_simp
    | 5, ho =>
      cases ho
      have q37 : x.tmps[37]?.getD undef = .pointer (some ⟨gm, 0, none⟩) := hk.dep 0 37 (by kernel_rfl) (by kernel_rfl)
      have q38 : x.tmps[38]?.getD undef = .agg #[.string ⟨#[]⟩, .int .i64 a, .int .i64 p, .string ⟨#[97, 110, 110, 64, 98, 46, 111, 114, 103]⟩, .int .i64 0, .int .i64 0] := hk.dep 1 38 (by kernel_rfl) (by kernel_rfl)
      have q40 : x.tmps[40]?.getD undef = .string XA := hk.dep 3 40 (by kernel_rfl) (by kernel_rfl)
      have q41 : x.tmps[41]?.getD undef = .int .i64 n := hk.dep 4 41 (by kernel_rfl) (by kernel_rfl)
      refine .inl ⟨wanted_plain rfl, ?_⟩
      refine wp_enter (f := 12) (args := #[.pointer (some ⟨gm, 0, none⟩), .agg #[.string ⟨#[]⟩, .int .i64 a, .int .i64 p, .string ⟨#[97, 110, 110, 64, 98, 46, 111, 114, 103]⟩, .int .i64 0, .int .i64 0], .string XA, .int .i64 n]) (w' := W) (S := fun v w1 => v = .tuple #[.string PL, .agg #[.string DG, .int .i64 a, .int .i64 p, .string ⟨#[97, 110, 110, 64, 98, 46, 111, 114, 103]⟩, .int .i64 E, .int .i64 tr], .bool true] ∧ (Met w1 gm (0 + 1) ∧ Kept (fun b => b = gm) W w1)) ?_ ((HMJ.out W (by have h := hg.st; rw [if_neg (by rw [hun]; decide)] at h; exact h) (HR.out.next (HW0.out.trans ((hg.below hun).mono HW0.out.size)))).mono fun e w' h => ⟨_, h.1, rfl, h.2⟩) ?_
      · go_simp
      · rintro v W' ⟨rfl, hb⟩
        exact ⟨_, rfl, rfl, trivial, hg.counted HLOW.out hb.2 hb.1 (by rw [hs]; decide) (by decide) (by decide) (some 42) (by decide) _⟩
    | 6, ho =>
      cases ho
      have q42 : x.tmps[42]?.getD undef = .tuple #[.string PL, .agg #[.string DG, .int .i64 a, .int .i64 p, .string ⟨#[97, 110, 110, 64, 98, 46, 111, 114, 103]⟩, .int .i64 E, .int .i64 tr], .bool true] := hk.dep 5 42 (by kernel_rfl) (by kernel_rfl)
      refine .inl ⟨wanted_plain rfl, ?_⟩
      refine wp_value (v := .tuple #[.string PL, .agg #[.string DG, .int .i64 a, .int .i64 p, .string ⟨#[97, 110, 110, 64, 98, 46, 111, 114, 103]⟩, .int .i64 E, .int .i64 tr], .bool true]) (w' := W) ?_ ⟨_, rfl, rfl, trivial, hg.quiet 6 (by decide) (by decide) (by decide) (some 36) (by decide) _⟩
      go_simp
    | 7, ho =>
      cases ho
      have q36 : x.tmps[36]?.getD undef = .tuple #[.string PL, .agg #[.string DG, .int .i64 a, .int .i64 p, .string ⟨#[97, 110, 110, 64, 98, 46, 111, 114, 103]⟩, .int .i64 E, .int .i64 tr], .bool true] := hk.dep 6 36 (by kernel_rfl) (by kernel_rfl)
      refine .inl ⟨wanted_plain rfl, ?_⟩
      refine wp_value (v := .string PL) (w' := W) ?_ ⟨_, rfl, rfl, trivial, hg.quiet 7 (by decide) (by decide) (by decide) (some 43) (by decide) _⟩
      go_simp
    | 8, ho =>
      cases ho
      have q36 : x.tmps[36]?.getD undef = .tuple #[.string PL, .agg #[.string DG, .int .i64 a, .int .i64 p, .string ⟨#[97, 110, 110, 64, 98, 46, 111, 114, 103]⟩, .int .i64 E, .int .i64 tr], .bool true] := hk.dep 6 36 (by kernel_rfl) (by kernel_rfl)
      refine .inl ⟨wanted_plain rfl, ?_⟩
      refine wp_value (v := .agg #[.string DG, .int .i64 a, .int .i64 p, .string ⟨#[97, 110, 110, 64, 98, 46, 111, 114, 103]⟩, .int .i64 E, .int .i64 tr]) (w' := W) ?_ ⟨_, rfl, rfl, trivial, hg.quiet 8 (by decide) (by decide) (by decide) (some 44) (by decide) _⟩
      go_simp
    | 9, ho =>
      cases ho
      have q36 : x.tmps[36]?.getD undef = .tuple #[.string PL, .agg #[.string DG, .int .i64 a, .int .i64 p, .string ⟨#[97, 110, 110, 64, 98, 46, 111, 114, 103]⟩, .int .i64 E, .int .i64 tr], .bool true] := hk.dep 6 36 (by kernel_rfl) (by kernel_rfl)
      refine .inl ⟨wanted_plain rfl, ?_⟩
      refine wp_value (v := .bool true) (w' := W) ?_ ⟨_, rfl, rfl, trivial, hg.quiet 9 (by decide) (by decide) (by decide) (some 45) (by decide) _⟩
      go_simp
    | 10, ho =>
      cases ho
      refine .inl ⟨wanted_plain rfl, ?_⟩
      refine wp_value (run_alloc_op 23 rfl zeroV (made_sec W)) ⟨_, rfl, .inl trivial, trivial, Gv.made HMT.out.stays hg hun (by rw [hs]; decide) (by decide) (by decide) (Nat.lt_of_lt_of_eq (by decide : 13 < 150) (hk.size.trans rfl).symm)⟩
    | 11, ho =>
      cases ho
      have q43 : x.tmps[43]?.getD undef = .string PL := hk.dep 7 43 (by kernel_rfl) (by kernel_rfl)
      refine .inl ⟨wanted_plain rfl, ?_⟩
      refine wp_value (v := .string PL) (w' := W) ?_ ⟨_, rfl, rfl, trivial, hg.quiet 11 (by decide) (by decide) (by decide) (some 12) (by decide) _⟩
      go_simp
    | 12, ho =>
      cases ho
      have q44 : x.tmps[44]?.getD undef = .agg #[.string DG, .int .i64 a, .int .i64 p, .string ⟨#[97, 110, 110, 64, 98, 46, 111, 114, 103]⟩, .int .i64 E, .int .i64 tr] := hk.dep 8 44 (by kernel_rfl) (by kernel_rfl)
      refine .inl ⟨wanted_plain rfl, ?_⟩
      have hla := hdep 10 (by kernel_rfl)
      obtain ⟨g, e0, hg1, hg2⟩ := hg.var hla
      have hni : ¬ (listed.getD 12 false = true) := by rw [hun]; decide
      rw [if_neg hni] at hg2
      refine wp_skip (w' := W.setRow g #[.string DG, .int .i64 a, .int .i64 p, .string ⟨#[97, 110, 110, 64, 98, 46, 111, 114, 103]⟩, .int .i64 E, .int .i64 tr]) ?_ ⟨undef, rfl, rfl, trivial, Gv.stored HMT.out.stays HLOW.out hg hla (by rw [hs]; decide) (by decide) (by decide) g hg1 e0 zeroV hg2 undef⟩
      exact run_store_op 23 _ _ rfl g #[.string DG, .int .i64 a, .int .i64 p, .string ⟨#[97, 110, 110, 64, 98, 46, 111, 114, 103]⟩, .int .i64 E, .int .i64 tr] ((eval_slot x 13).trans e0) ((eval_slot x 44).trans q44) 23 zeroV hg2 sec_size rfl (by simp [Value.oneCell'])
    | 13, ho =>
      cases ho
      have q45 : x.tmps[45]?.getD undef = .bool true := hk.dep 9 45 (by kernel_rfl) (by kernel_rfl)
      refine .inl ⟨wanted_plain rfl, ?_⟩
      refine wp_value (v := .bool true) (w' := W) ?_ ⟨_, rfl, rfl, trivial, hg.quiet 13 (by decide) (by decide) (by decide) (some 14) (by decide) _⟩
      go_simp
    | _ + 14, ho => cases ho
  intro listed x V1 hall hg hk
  obtain ⟨g13, e13, hg13, hx13⟩ := hg.var (hall 10 (by decide))
  rw [if_pos (hall 12 (by decide))] at hx13
  have e37 : x.tmps[37]?.getD undef = .pointer (some ⟨gm, 0, none⟩) := hk.last 0 37 (by decide) (by kernel_rfl)
  have e38 : x.tmps[38]?.getD undef = .agg #[.string ⟨#[]⟩, .int .i64 a, .int .i64 p, .string ⟨#[97, 110, 110, 64, 98, 46, 111, 114, 103]⟩, .int .i64 0, .int .i64 0] := hk.last 1 38 (by decide) (by kernel_rfl)
  have e39 : x.tmps[39]?.getD undef = .string d := hk.last 2 39 (by decide) (by kernel_rfl)
  have e40 : x.tmps[40]?.getD undef = .string XA := hk.last 3 40 (by decide) (by kernel_rfl)
  have e41 : x.tmps[41]?.getD undef = .int .i64 n := hk.last 4 41 (by decide) (by kernel_rfl)
  have e42 : x.tmps[42]?.getD undef = .tuple #[.string PL, .agg #[.string DG, .int .i64 a, .int .i64 p, .string ⟨#[97, 110, 110, 64, 98, 46, 111, 114, 103]⟩, .int .i64 E, .int .i64 tr], .bool true] := hk.last 5 42 (by decide) (by kernel_rfl)
  have e36 : x.tmps[36]?.getD undef = .tuple #[.string PL, .agg #[.string DG, .int .i64 a, .int .i64 p, .string ⟨#[97, 110, 110, 64, 98, 46, 111, 114, 103]⟩, .int .i64 E, .int .i64 tr], .bool true] := hk.last 6 36 (by decide) (by kernel_rfl)
  have e43 : x.tmps[43]?.getD undef = .string PL := hk.last 7 43 (by decide) (by kernel_rfl)
  have e44 : x.tmps[44]?.getD undef = .agg #[.string DG, .int .i64 a, .int .i64 p, .string ⟨#[97, 110, 110, 64, 98, 46, 111, 114, 103]⟩, .int .i64 E, .int .i64 tr] := hk.last 8 44 (by decide) (by kernel_rfl)
  have e45 : x.tmps[45]?.getD undef = .bool true := hk.last 9 45 (by decide) (by kernel_rfl)
  have e12 : x.tmps[12]?.getD undef = .string PL := hk.last 11 12 (by decide) (by kernel_rfl)
  have e14 : x.tmps[14]?.getD undef = .bool true := hk.last 13 14 (by decide) (by kernel_rfl)
  have hkp := Lib.hid hg.kept
  have hst := hg.st
  rw [if_pos (hall 5 (by decide))] at hst
  have hx := hk.act [37, 38, 39, 40, 41, 42, 36, 43, 44, 45, 13, 12, 14] (by kernel_rfl)
  clear hk hg hall
  simp only [List.foldl_cons, List.foldl_nil, e37, e38, e39, e40, e41, e42, e36, e43, e44, e45, e12, e14, e13] at hx
  clear e37 e38 e39 e40 e41 e42 e36 e43 e44 e45 e12 e14 e13
  subst hx
  simp only [Act.put, List.setIfInBounds_toArray, List.set_cons_succ, List.set_cons_zero]
  have HX1 := Lib.hid hx13
  have HS1 := Lib.hid (HS0.out.of (hkp.out.block _ HS0.out.lt HNM.out))
  have HM1 := Lib.hid (show Met V1 gm 1 from hst)
  have HW1 := Lib.hid (Kept.below HW0.out hkp.out (fun k hk => by have h1 : k = gm := hk; have h2 := HWG.out; omega) HW0.out.size)
  clear hx13 hst hkp HS0 HM0 HW0 HMT HMJ HLOW hg13
  go_wp2_with fail
  refine wp_region_some (by kernel_rfl) (fun i v _ => Vr7 g10 gm g13 DG a p E tr lf n i v) (fun _ _ W => Gc V1 W) (fun w w' => Below w.heap.size w w') (by kernel_rfl) (by kernel_rfl) 150 rfl (by kernel_rfl) (fun _ _ _ _ h _ => by exact h) (fun _ => (Below.refl _ _)) (Gc.start V1) ?_ ?_
  · intro i o ho listed x W hs hdep hun hg hk
    match i, ho with
    | 0, ho =>
      cases ho
      have q14 : x.tmps[14]?.getD undef = .bool true := hk.fix 14 (by kernel_rfl)
      refine .inl ⟨wanted_plain rfl, ?_⟩
      refine wp_value (v := .bool true) (w' := W) ?_ ⟨_, rfl, rfl, (Below.refl _ _), hg⟩
      go_simp
    | 1, ho =>
      cases ho
      have q46 : x.tmps[46]?.getD undef = .bool true := hk.dep 0 46 (by kernel_rfl) (by kernel_rfl)
      refine .inl ⟨wanted_plain rfl, ?_⟩
      refine wp_value (v := .bool false) (w' := W) ?_ ⟨_, rfl, rfl, (Below.refl _ _), hg⟩
      go_simp
    | 2, ho =>
      cases ho
      have q47 : x.tmps[47]?.getD undef = .bool false := hk.dep 1 47 (by kernel_rfl) (by kernel_rfl)
      refine .inl ⟨wanted_plain rfl, ?_⟩
      refine wp_value (v := .bool false) (w' := W) ?_ ⟨_, rfl, rfl, (Below.refl _ _), hg⟩
      go_simp
    | 3, ho =>
      cases ho
      have q13 : x.tmps[13]?.getD undef = .pointer (some ⟨g13, 0, none⟩) := hk.fix 13 (by kernel_rfl)
      refine .inl ⟨wanted_guard (g := 2) (d := 48) (by rfl) (by kernel_rfl) (show x.tmps[48]?.getD undef = .bool false from hk.dep 2 48 (by kernel_rfl) (by kernel_rfl)), ?_⟩
      refine wp_value (run_load_op _ _ rfl _ ((eval_slot x 13).trans q13) _ _ ((HX1.out.of (hg.below.block _ HX1.out.lt))) _ Tryz.underlying23 rfl sec_size) ⟨_, rfl, rfl, (Below.refl _ _), hg⟩
    | 4, ho =>
      cases ho
      have q49 : x.tmps[49]?.getD undef = .agg #[.string DG, .int .i64 a, .int .i64 p, .string ⟨#[97, 110, 110, 64, 98, 46, 111, 114, 103]⟩, .int .i64 E, .int .i64 tr] := hk.dep 3 49 (by kernel_rfl) (by kernel_rfl)
      refine .inl ⟨wanted_guard (g := 2) (d := 48) (by rfl) (by kernel_rfl) (show x.tmps[48]?.getD undef = .bool false from hk.dep 2 48 (by kernel_rfl) (by kernel_rfl)), ?_⟩
      refine wp_enter (f := 13) (args := #[.agg #[.string DG, .int .i64 a, .int .i64 p, .string ⟨#[97, 110, 110, 64, 98, 46, 111, 114, 103]⟩, .int .i64 E, .int .i64 tr]]) (w' := W) (S := fun v w1 => v = .bool true ∧ Below W.heap.size W w1) ?_ ((HG.out W (HR.out.next (HW1.out.trans (hg.below.mono HW1.out.size))).max).mono fun e w' h => ⟨_, h.1, rfl, h.2⟩) ?_
      · go_simp
      · rintro v W' ⟨rfl, hb⟩
        exact ⟨_, rfl, rfl, hb, hg.calls hb⟩
    | 5, ho =>
      cases ho
      have q50 : x.tmps[50]?.getD undef = .bool true := hk.dep 4 50 (by kernel_rfl) (by kernel_rfl)
      refine .inl ⟨wanted_guard (g := 2) (d := 48) (by rfl) (by kernel_rfl) (show x.tmps[48]?.getD undef = .bool false from hk.dep 2 48 (by kernel_rfl) (by kernel_rfl)), ?_⟩
      refine wp_value (v := .bool false) (w' := W) ?_ ⟨_, rfl, rfl, (Below.refl _ _), hg⟩
      go_simp
    | 6, ho =>
      cases ho
      have q48 : x.tmps[48]?.getD undef = .bool false := hk.dep 2 48 (by kernel_rfl) (by kernel_rfl)
      have q51 : x.tmps[51]?.getD undef = .bool false := hk.dep 5 51 (by kernel_rfl) (by kernel_rfl)
      refine .inl ⟨wanted_plain rfl, ?_⟩
      refine wp_value (v := .bool false) (w' := W) ?_ ⟨_, rfl, rfl, (Below.refl _ _), hg⟩
      go_simp
    | 7, ho =>
      cases ho
      have q52 : x.tmps[52]?.getD undef = .bool false := hk.dep 6 52 (by kernel_rfl) (by kernel_rfl)
      refine .inl ⟨wanted_plain rfl, ?_⟩
      refine wp_value (v := .bool false) (w' := W) ?_ ⟨_, rfl, rfl, (Below.refl _ _), hg⟩
      go_simp
    | 8, ho =>
      cases ho
      have q11 : x.tmps[11]?.getD undef = .pointer (some ⟨gm, 0, none⟩) := hk.fix 11 (by kernel_rfl)
      refine .inl ⟨wanted_guard (g := 7) (d := 53) (by rfl) (by kernel_rfl) (show x.tmps[53]?.getD undef = .bool false from hk.dep 7 53 (by kernel_rfl) (by kernel_rfl)), ?_⟩
      refine wp_value (v := .pointer (some ⟨gm, 0, none⟩)) (w' := W) ?_ ⟨_, rfl, rfl, (Below.refl _ _), hg⟩
      go_simp
    | 9, ho =>
      cases ho
      have q54 : x.tmps[54]?.getD undef = .pointer (some ⟨gm, 0, none⟩) := hk.dep 8 54 (by kernel_rfl) (by kernel_rfl)
      refine .inl ⟨wanted_guard (g := 7) (d := 53) (by rfl) (by kernel_rfl) (show x.tmps[53]?.getD undef = .bool false from hk.dep 7 53 (by kernel_rfl) (by kernel_rfl)), ?_⟩
      refine wp_enter (f := 14) (args := #[.pointer (some ⟨gm, 0, none⟩)]) (w' := W) (S := fun v w1 => v = .int .i64 1 ∧ Below W.heap.size W w1) ?_ ((mcount_any gm 1 W (HM1.out.of (hg.below.block _ HM1.out.lt))).mono fun e w' h => ⟨_, h.1, rfl, by rw [h.2]; exact Below.refl _ _⟩) ?_
      · go_simp
      · rintro v W' ⟨rfl, hb⟩
        exact ⟨_, rfl, rfl, hb, hg.calls hb⟩
    | 10, ho =>
      cases ho
      have q55 : x.tmps[55]?.getD undef = .int .i64 1 := hk.dep 9 55 (by kernel_rfl) (by kernel_rfl)
      refine .inl ⟨wanted_guard (g := 7) (d := 53) (by rfl) (by kernel_rfl) (show x.tmps[53]?.getD undef = .bool false from hk.dep 7 53 (by kernel_rfl) (by kernel_rfl)), ?_⟩
      refine wp_value (v := .bool false) (w' := W) ?_ ⟨_, rfl, rfl, (Below.refl _ _), hg⟩
      go_simp
    | 11, ho =>
      cases ho
      have q53 : x.tmps[53]?.getD undef = .bool false := hk.dep 7 53 (by kernel_rfl) (by kernel_rfl)
      have q56 : x.tmps[56]?.getD undef = .bool false := hk.dep 10 56 (by kernel_rfl) (by kernel_rfl)
      refine .inl ⟨wanted_plain rfl, ?_⟩
      refine wp_value (v := .bool false) (w' := W) ?_ ⟨_, rfl, rfl, (Below.refl _ _), hg⟩
      go_simp
    | 12, ho =>
      cases ho
      have q57 : x.tmps[57]?.getD undef = .bool false := hk.dep 11 57 (by kernel_rfl) (by kernel_rfl)
      refine .inl ⟨wanted_plain rfl, ?_⟩
      refine wp_value (v := .bool false) (w' := W) ?_ ⟨_, rfl, rfl, (Below.refl _ _), hg⟩
      go_simp
    | 13, ho =>
      cases ho
      have q13 : x.tmps[13]?.getD undef = .pointer (some ⟨g13, 0, none⟩) := hk.fix 13 (by kernel_rfl)
      refine .inl ⟨wanted_guard (g := 12) (d := 58) (by rfl) (by kernel_rfl) (show x.tmps[58]?.getD undef = .bool false from hk.dep 12 58 (by kernel_rfl) (by kernel_rfl)), ?_⟩
      refine wp_value (v := .pointer (some ⟨g13, 4, none⟩)) (w' := W) ?_ ⟨_, rfl, rfl, (Below.refl _ _), hg⟩
      go_simp
    | 14, ho =>
      cases ho
      have q59 : x.tmps[59]?.getD undef = .pointer (some ⟨g13, 4, none⟩) := hk.dep 13 59 (by kernel_rfl) (by kernel_rfl)
      refine .inl ⟨wanted_guard (g := 12) (d := 58) (by rfl) (by kernel_rfl) (show x.tmps[58]?.getD undef = .bool false from hk.dep 12 58 (by kernel_rfl) (by kernel_rfl)), ?_⟩
      have cf : W.cell? ⟨g13, 4, none⟩ = some (.int .i64 E) := ((HX1.out.of (hg.below.block _ HX1.out.lt)).cell 4).trans rfl
      refine wp_value (v := .int .i64 E) (w' := W) ?_ ⟨_, rfl, rfl, (Below.refl _ _), hg⟩
      go_simp
    | 15, ho =>
      cases ho
      have q9 : x.tmps[9]?.getD undef = .int .i64 n := hk.fix 9 (by kernel_rfl)
      refine .inl ⟨wanted_guard (g := 12) (d := 58) (by rfl) (by kernel_rfl) (show x.tmps[58]?.getD undef = .bool false from hk.dep 12 58 (by kernel_rfl) (by kernel_rfl)), ?_⟩
      refine wp_value (v := .int .i64 n) (w' := W) ?_ ⟨_, rfl, rfl, (Below.refl _ _), hg⟩
      go_simp
    | 16, ho =>
      cases ho
      have q8 : x.tmps[8]?.getD undef = .int .i64 p := hk.fix 8 (by kernel_rfl)
      refine .inl ⟨wanted_guard (g := 12) (d := 58) (by rfl) (by kernel_rfl) (show x.tmps[58]?.getD undef = .bool false from hk.dep 12 58 (by kernel_rfl) (by kernel_rfl)), ?_⟩
      refine wp_value (v := .int .i64 p) (w' := W) ?_ ⟨_, rfl, rfl, (Below.refl _ _), hg⟩
      go_simp
    | 17, ho =>
      cases ho
      have q62 : x.tmps[62]?.getD undef = .int .i64 p := hk.dep 16 62 (by kernel_rfl) (by kernel_rfl)
      refine .inl ⟨wanted_guard (g := 12) (d := 58) (by rfl) (by kernel_rfl) (show x.tmps[58]?.getD undef = .bool false from hk.dep 12 58 (by kernel_rfl) (by kernel_rfl)), ?_⟩
      refine wp_enter (f := 15) (args := #[.int .i64 p]) (w' := W) (S := fun v w1 => v = .int .i64 lf ∧ Below W.heap.size W w1) ?_ ((HL.out W).mono fun e w' h => ⟨_, h.1, rfl, h.2⟩) ?_
      · go_simp
      · rintro v W' ⟨rfl, hb⟩
        exact ⟨_, rfl, rfl, hb, hg.calls hb⟩
    | 18, ho =>
      cases ho
      have q61 : x.tmps[61]?.getD undef = .int .i64 n := hk.dep 15 61 (by kernel_rfl) (by kernel_rfl)
      have q63 : x.tmps[63]?.getD undef = .int .i64 lf := hk.dep 17 63 (by kernel_rfl) (by kernel_rfl)
      refine .inl ⟨wanted_guard (g := 12) (d := 58) (by rfl) (by kernel_rfl) (show x.tmps[58]?.getD undef = .bool false from hk.dep 12 58 (by kernel_rfl) (by kernel_rfl)), ?_⟩
      refine wp_value (v := .int .i64 E) (w' := W) ?_ ⟨_, rfl, rfl, (Below.refl _ _), hg⟩
      go_simp
    | 19, ho =>
      cases ho
      have q60 : x.tmps[60]?.getD undef = .int .i64 E := hk.dep 14 60 (by kernel_rfl) (by kernel_rfl)
      have q64 : x.tmps[64]?.getD undef = .int .i64 E := hk.dep 18 64 (by kernel_rfl) (by kernel_rfl)
      refine .inl ⟨wanted_guard (g := 12) (d := 58) (by rfl) (by kernel_rfl) (show x.tmps[58]?.getD undef = .bool false from hk.dep 12 58 (by kernel_rfl) (by kernel_rfl)), ?_⟩
      refine wp_value (v := .bool false) (w' := W) ?_ ⟨_, rfl, rfl, (Below.refl _ _), hg⟩
      go_simp
    | 20, ho =>
      cases ho
      have q58 : x.tmps[58]?.getD undef = .bool false := hk.dep 12 58 (by kernel_rfl) (by kernel_rfl)
      have q65 : x.tmps[65]?.getD undef = .bool false := hk.dep 19 65 (by kernel_rfl) (by kernel_rfl)
      refine .inl ⟨wanted_plain rfl, ?_⟩
      refine wp_value (v := .bool false) (w' := W) ?_ ⟨_, rfl, rfl, (Below.refl _ _), hg⟩
      go_simp
    | 21, ho =>
      cases ho
      have q66 : x.tmps[66]?.getD undef = .bool false := hk.dep 20 66 (by kernel_rfl) (by kernel_rfl)
      refine .inl ⟨wanted_plain rfl, ?_⟩
      refine wp_value (v := .bool false) (w' := W) ?_ ⟨_, rfl, rfl, (Below.refl _ _), hg⟩
      go_simp
    | 22, ho =>
      cases ho
      have q13 : x.tmps[13]?.getD undef = .pointer (some ⟨g13, 0, none⟩) := hk.fix 13 (by kernel_rfl)
      refine .inl ⟨wanted_guard (g := 21) (d := 67) (by rfl) (by kernel_rfl) (show x.tmps[67]?.getD undef = .bool false from hk.dep 21 67 (by kernel_rfl) (by kernel_rfl)), ?_⟩
      refine wp_value (v := .pointer (some ⟨g13, 1, none⟩)) (w' := W) ?_ ⟨_, rfl, rfl, (Below.refl _ _), hg⟩
      go_simp
    | 23, ho =>
      cases ho
      have q68 : x.tmps[68]?.getD undef = .pointer (some ⟨g13, 1, none⟩) := hk.dep 22 68 (by kernel_rfl) (by kernel_rfl)
      refine .inl ⟨wanted_guard (g := 21) (d := 67) (by rfl) (by kernel_rfl) (show x.tmps[67]?.getD undef = .bool false from hk.dep 21 67 (by kernel_rfl) (by kernel_rfl)), ?_⟩
      have cf : W.cell? ⟨g13, 1, none⟩ = some (.int .i64 a) := ((HX1.out.of (hg.below.block _ HX1.out.lt)).cell 1).trans rfl
      refine wp_value (v := .int .i64 a) (w' := W) ?_ ⟨_, rfl, rfl, (Below.refl _ _), hg⟩
      go_simp
    | 24, ho =>
      cases ho
      have q10 : x.tmps[10]?.getD undef = .pointer (some ⟨g10, 0, none⟩) := hk.fix 10 (by kernel_rfl)
      refine .inl ⟨wanted_guard (g := 21) (d := 67) (by rfl) (by kernel_rfl) (show x.tmps[67]?.getD undef = .bool false from hk.dep 21 67 (by kernel_rfl) (by kernel_rfl)), ?_⟩
      refine wp_value (v := .pointer (some ⟨g10, 1, none⟩)) (w' := W) ?_ ⟨_, rfl, rfl, (Below.refl _ _), hg⟩
      go_simp
    | 25, ho =>
      cases ho
      have q70 : x.tmps[70]?.getD undef = .pointer (some ⟨g10, 1, none⟩) := hk.dep 24 70 (by kernel_rfl) (by kernel_rfl)
      refine .inl ⟨wanted_guard (g := 21) (d := 67) (by rfl) (by kernel_rfl) (show x.tmps[67]?.getD undef = .bool false from hk.dep 21 67 (by kernel_rfl) (by kernel_rfl)), ?_⟩
      have cf : W.cell? ⟨g10, 1, none⟩ = some (.int .i64 a) := ((HS1.out.of (hg.below.block _ HS1.out.lt)).cell 1).trans rfl
      refine wp_value (v := .int .i64 a) (w' := W) ?_ ⟨_, rfl, rfl, (Below.refl _ _), hg⟩
      go_simp
    | 26, ho =>
      cases ho
      have q69 : x.tmps[69]?.getD undef = .int .i64 a := hk.dep 23 69 (by kernel_rfl) (by kernel_rfl)
      have q71 : x.tmps[71]?.getD undef = .int .i64 a := hk.dep 25 71 (by kernel_rfl) (by kernel_rfl)
      refine .inl ⟨wanted_guard (g := 21) (d := 67) (by rfl) (by kernel_rfl) (show x.tmps[67]?.getD undef = .bool false from hk.dep 21 67 (by kernel_rfl) (by kernel_rfl)), ?_⟩
      refine wp_value (v := .bool false) (w' := W) ?_ ⟨_, rfl, rfl, (Below.refl _ _), hg⟩
      go_simp
    | 27, ho =>
      cases ho
      have q67 : x.tmps[67]?.getD undef = .bool false := hk.dep 21 67 (by kernel_rfl) (by kernel_rfl)
      have q72 : x.tmps[72]?.getD undef = .bool false := hk.dep 26 72 (by kernel_rfl) (by kernel_rfl)
      refine .inl ⟨wanted_plain rfl, ?_⟩
      refine wp_value (v := .bool false) (w' := W) ?_ ⟨_, rfl, rfl, (Below.refl _ _), hg⟩
      go_simp
    | 28, ho =>
      cases ho
      have q73 : x.tmps[73]?.getD undef = .bool false := hk.dep 27 73 (by kernel_rfl) (by kernel_rfl)
      refine .inl ⟨wanted_plain rfl, ?_⟩
      refine wp_value (v := .bool false) (w' := W) ?_ ⟨_, rfl, rfl, (Below.refl _ _), hg⟩
      go_simp
    | 29, ho =>
      cases ho
      have q13 : x.tmps[13]?.getD undef = .pointer (some ⟨g13, 0, none⟩) := hk.fix 13 (by kernel_rfl)
      refine .inl ⟨wanted_guard (g := 28) (d := 74) (by rfl) (by kernel_rfl) (show x.tmps[74]?.getD undef = .bool false from hk.dep 28 74 (by kernel_rfl) (by kernel_rfl)), ?_⟩
      refine wp_value (v := .pointer (some ⟨g13, 3, none⟩)) (w' := W) ?_ ⟨_, rfl, rfl, (Below.refl _ _), hg⟩
      go_simp
    | 30, ho =>
      cases ho
      have q75 : x.tmps[75]?.getD undef = .pointer (some ⟨g13, 3, none⟩) := hk.dep 29 75 (by kernel_rfl) (by kernel_rfl)
      refine .inl ⟨wanted_guard (g := 28) (d := 74) (by rfl) (by kernel_rfl) (show x.tmps[74]?.getD undef = .bool false from hk.dep 28 74 (by kernel_rfl) (by kernel_rfl)), ?_⟩
      have cf : W.cell? ⟨g13, 3, none⟩ = some (.string ⟨#[97, 110, 110, 64, 98, 46, 111, 114, 103]⟩) := ((HX1.out.of (hg.below.block _ HX1.out.lt)).cell 3).trans rfl
      refine wp_value (v := .string ⟨#[97, 110, 110, 64, 98, 46, 111, 114, 103]⟩) (w' := W) ?_ ⟨_, rfl, rfl, (Below.refl _ _), hg⟩
      go_simp
    | 31, ho =>
      cases ho
      have q10 : x.tmps[10]?.getD undef = .pointer (some ⟨g10, 0, none⟩) := hk.fix 10 (by kernel_rfl)
      refine .inl ⟨wanted_guard (g := 28) (d := 74) (by rfl) (by kernel_rfl) (show x.tmps[74]?.getD undef = .bool false from hk.dep 28 74 (by kernel_rfl) (by kernel_rfl)), ?_⟩
      refine wp_value (v := .pointer (some ⟨g10, 3, none⟩)) (w' := W) ?_ ⟨_, rfl, rfl, (Below.refl _ _), hg⟩
      go_simp
    | 32, ho =>
      cases ho
      have q77 : x.tmps[77]?.getD undef = .pointer (some ⟨g10, 3, none⟩) := hk.dep 31 77 (by kernel_rfl) (by kernel_rfl)
      refine .inl ⟨wanted_guard (g := 28) (d := 74) (by rfl) (by kernel_rfl) (show x.tmps[74]?.getD undef = .bool false from hk.dep 28 74 (by kernel_rfl) (by kernel_rfl)), ?_⟩
      have cf : W.cell? ⟨g10, 3, none⟩ = some (.string ⟨#[97, 110, 110, 64, 98, 46, 111, 114, 103]⟩) := ((HS1.out.of (hg.below.block _ HS1.out.lt)).cell 3).trans rfl
      refine wp_value (v := .string ⟨#[97, 110, 110, 64, 98, 46, 111, 114, 103]⟩) (w' := W) ?_ ⟨_, rfl, rfl, (Below.refl _ _), hg⟩
      go_simp
    | 33, ho =>
      cases ho
      have q76 : x.tmps[76]?.getD undef = .string ⟨#[97, 110, 110, 64, 98, 46, 111, 114, 103]⟩ := hk.dep 30 76 (by kernel_rfl) (by kernel_rfl)
      have q78 : x.tmps[78]?.getD undef = .string ⟨#[97, 110, 110, 64, 98, 46, 111, 114, 103]⟩ := hk.dep 32 78 (by kernel_rfl) (by kernel_rfl)
      refine .inl ⟨wanted_guard (g := 28) (d := 74) (by rfl) (by kernel_rfl) (show x.tmps[74]?.getD undef = .bool false from hk.dep 28 74 (by kernel_rfl) (by kernel_rfl)), ?_⟩
      refine wp_value (v := .bool false) (w' := W) ?_ ⟨_, rfl, rfl, (Below.refl _ _), hg⟩
      go_simp
    | 34, ho =>
      cases ho
      have q74 : x.tmps[74]?.getD undef = .bool false := hk.dep 28 74 (by kernel_rfl) (by kernel_rfl)
      have q79 : x.tmps[79]?.getD undef = .bool false := hk.dep 33 79 (by kernel_rfl) (by kernel_rfl)
      refine .inl ⟨wanted_plain rfl, ?_⟩
      refine wp_value (v := .bool false) (w' := W) ?_ ⟨_, rfl, rfl, (Below.refl _ _), hg⟩
      go_simp
    | 35, ho =>
      cases ho
      have q80 : x.tmps[80]?.getD undef = .bool false := hk.dep 34 80 (by kernel_rfl) (by kernel_rfl)
      refine .inl ⟨wanted_plain rfl, ?_⟩
      refine wp_value (v := .bool false) (w' := W) ?_ ⟨_, rfl, rfl, (Below.refl _ _), hg⟩
      go_simp
    | 36, ho =>
      cases ho
      have q13 : x.tmps[13]?.getD undef = .pointer (some ⟨g13, 0, none⟩) := hk.fix 13 (by kernel_rfl)
      refine .inl ⟨wanted_guard (g := 35) (d := 81) (by rfl) (by kernel_rfl) (show x.tmps[81]?.getD undef = .bool false from hk.dep 35 81 (by kernel_rfl) (by kernel_rfl)), ?_⟩
      refine wp_value (v := .pointer (some ⟨g13, 2, none⟩)) (w' := W) ?_ ⟨_, rfl, rfl, (Below.refl _ _), hg⟩
      go_simp
    | 37, ho =>
      cases ho
      have q82 : x.tmps[82]?.getD undef = .pointer (some ⟨g13, 2, none⟩) := hk.dep 36 82 (by kernel_rfl) (by kernel_rfl)
      refine .inl ⟨wanted_guard (g := 35) (d := 81) (by rfl) (by kernel_rfl) (show x.tmps[81]?.getD undef = .bool false from hk.dep 35 81 (by kernel_rfl) (by kernel_rfl)), ?_⟩
      have cf : W.cell? ⟨g13, 2, none⟩ = some (.int .i64 p) := ((HX1.out.of (hg.below.block _ HX1.out.lt)).cell 2).trans rfl
      refine wp_value (v := .int .i64 p) (w' := W) ?_ ⟨_, rfl, rfl, (Below.refl _ _), hg⟩
      go_simp
    | 38, ho =>
      cases ho
      have q8 : x.tmps[8]?.getD undef = .int .i64 p := hk.fix 8 (by kernel_rfl)
      refine .inl ⟨wanted_guard (g := 35) (d := 81) (by rfl) (by kernel_rfl) (show x.tmps[81]?.getD undef = .bool false from hk.dep 35 81 (by kernel_rfl) (by kernel_rfl)), ?_⟩
      refine wp_value (v := .int .i64 p) (w' := W) ?_ ⟨_, rfl, rfl, (Below.refl _ _), hg⟩
      go_simp
    | 39, ho =>
      cases ho
      have q83 : x.tmps[83]?.getD undef = .int .i64 p := hk.dep 37 83 (by kernel_rfl) (by kernel_rfl)
      have q84 : x.tmps[84]?.getD undef = .int .i64 p := hk.dep 38 84 (by kernel_rfl) (by kernel_rfl)
      refine .inl ⟨wanted_guard (g := 35) (d := 81) (by rfl) (by kernel_rfl) (show x.tmps[81]?.getD undef = .bool false from hk.dep 35 81 (by kernel_rfl) (by kernel_rfl)), ?_⟩
      refine wp_value (v := .bool false) (w' := W) ?_ ⟨_, rfl, rfl, (Below.refl _ _), hg⟩
      go_simp
    | 40, ho =>
      cases ho
      have q81 : x.tmps[81]?.getD undef = .bool false := hk.dep 35 81 (by kernel_rfl) (by kernel_rfl)
      have q85 : x.tmps[85]?.getD undef = .bool false := hk.dep 39 85 (by kernel_rfl) (by kernel_rfl)
      refine .inl ⟨wanted_plain rfl, ?_⟩
      refine wp_value (v := .bool false) (w' := W) ?_ ⟨_, rfl, rfl, (Below.refl _ _), hg⟩
      go_simp
    | _ + 41, ho => cases ho
  intro listed x V2 hall hg hk
  have e46 : x.tmps[46]?.getD undef = .bool true := hk.last 0 46 (by decide) (by kernel_rfl)
  have e47 : x.tmps[47]?.getD undef = .bool false := hk.last 1 47 (by decide) (by kernel_rfl)
  have e48 : x.tmps[48]?.getD undef = .bool false := hk.last 2 48 (by decide) (by kernel_rfl)
  have e49 : x.tmps[49]?.getD undef = .agg #[.string DG, .int .i64 a, .int .i64 p, .string ⟨#[97, 110, 110, 64, 98, 46, 111, 114, 103]⟩, .int .i64 E, .int .i64 tr] := hk.last 3 49 (by decide) (by kernel_rfl)
  have e50 : x.tmps[50]?.getD undef = .bool true := hk.last 4 50 (by decide) (by kernel_rfl)
  have e51 : x.tmps[51]?.getD undef = .bool false := hk.last 5 51 (by decide) (by kernel_rfl)
  have e52 : x.tmps[52]?.getD undef = .bool false := hk.last 6 52 (by decide) (by kernel_rfl)
  have e53 : x.tmps[53]?.getD undef = .bool false := hk.last 7 53 (by decide) (by kernel_rfl)
  have e54 : x.tmps[54]?.getD undef = .pointer (some ⟨gm, 0, none⟩) := hk.last 8 54 (by decide) (by kernel_rfl)
  have e55 : x.tmps[55]?.getD undef = .int .i64 1 := hk.last 9 55 (by decide) (by kernel_rfl)
  have e56 : x.tmps[56]?.getD undef = .bool false := hk.last 10 56 (by decide) (by kernel_rfl)
  have e57 : x.tmps[57]?.getD undef = .bool false := hk.last 11 57 (by decide) (by kernel_rfl)
  have e58 : x.tmps[58]?.getD undef = .bool false := hk.last 12 58 (by decide) (by kernel_rfl)
  have e59 : x.tmps[59]?.getD undef = .pointer (some ⟨g13, 4, none⟩) := hk.last 13 59 (by decide) (by kernel_rfl)
  have e60 : x.tmps[60]?.getD undef = .int .i64 E := hk.last 14 60 (by decide) (by kernel_rfl)
  have e61 : x.tmps[61]?.getD undef = .int .i64 n := hk.last 15 61 (by decide) (by kernel_rfl)
  have e62 : x.tmps[62]?.getD undef = .int .i64 p := hk.last 16 62 (by decide) (by kernel_rfl)
  have e63 : x.tmps[63]?.getD undef = .int .i64 lf := hk.last 17 63 (by decide) (by kernel_rfl)
  have e64 : x.tmps[64]?.getD undef = .int .i64 E := hk.last 18 64 (by decide) (by kernel_rfl)
  have e65 : x.tmps[65]?.getD undef = .bool false := hk.last 19 65 (by decide) (by kernel_rfl)
  have e66 : x.tmps[66]?.getD undef = .bool false := hk.last 20 66 (by decide) (by kernel_rfl)
  have e67 : x.tmps[67]?.getD undef = .bool false := hk.last 21 67 (by decide) (by kernel_rfl)
  have e68 : x.tmps[68]?.getD undef = .pointer (some ⟨g13, 1, none⟩) := hk.last 22 68 (by decide) (by kernel_rfl)
  have e69 : x.tmps[69]?.getD undef = .int .i64 a := hk.last 23 69 (by decide) (by kernel_rfl)
  have e70 : x.tmps[70]?.getD undef = .pointer (some ⟨g10, 1, none⟩) := hk.last 24 70 (by decide) (by kernel_rfl)
  have e71 : x.tmps[71]?.getD undef = .int .i64 a := hk.last 25 71 (by decide) (by kernel_rfl)
  have e72 : x.tmps[72]?.getD undef = .bool false := hk.last 26 72 (by decide) (by kernel_rfl)
  have e73 : x.tmps[73]?.getD undef = .bool false := hk.last 27 73 (by decide) (by kernel_rfl)
  have e74 : x.tmps[74]?.getD undef = .bool false := hk.last 28 74 (by decide) (by kernel_rfl)
  have e75 : x.tmps[75]?.getD undef = .pointer (some ⟨g13, 3, none⟩) := hk.last 29 75 (by decide) (by kernel_rfl)
  have e76 : x.tmps[76]?.getD undef = .string ⟨#[97, 110, 110, 64, 98, 46, 111, 114, 103]⟩ := hk.last 30 76 (by decide) (by kernel_rfl)
  have e77 : x.tmps[77]?.getD undef = .pointer (some ⟨g10, 3, none⟩) := hk.last 31 77 (by decide) (by kernel_rfl)
  have e78 : x.tmps[78]?.getD undef = .string ⟨#[97, 110, 110, 64, 98, 46, 111, 114, 103]⟩ := hk.last 32 78 (by decide) (by kernel_rfl)
  have e79 : x.tmps[79]?.getD undef = .bool false := hk.last 33 79 (by decide) (by kernel_rfl)
  have e80 : x.tmps[80]?.getD undef = .bool false := hk.last 34 80 (by decide) (by kernel_rfl)
  have e81 : x.tmps[81]?.getD undef = .bool false := hk.last 35 81 (by decide) (by kernel_rfl)
  have e82 : x.tmps[82]?.getD undef = .pointer (some ⟨g13, 2, none⟩) := hk.last 36 82 (by decide) (by kernel_rfl)
  have e83 : x.tmps[83]?.getD undef = .int .i64 p := hk.last 37 83 (by decide) (by kernel_rfl)
  have e84 : x.tmps[84]?.getD undef = .int .i64 p := hk.last 38 84 (by decide) (by kernel_rfl)
  have e85 : x.tmps[85]?.getD undef = .bool false := hk.last 39 85 (by decide) (by kernel_rfl)
  have e86 : x.tmps[86]?.getD undef = .bool false := hk.last 40 86 (by decide) (by kernel_rfl)
  have hB := Lib.hid hg.below
  have hx := hk.act [46, 47, 48, 49, 50, 51, 52, 53, 54, 55, 56, 57, 58, 59, 60, 61, 62, 63, 64, 65, 66, 67, 68, 69, 70, 71, 72, 73, 74, 75, 76, 77, 78, 79, 80, 81, 82, 83, 84, 85, 86] (by kernel_rfl)
  clear hk hg hall
  simp only [List.foldl_cons, List.foldl_nil, e46, e47, e48, e49, e50, e51, e52, e53, e54, e55, e56, e57, e58, e59, e60, e61, e62, e63, e64, e65, e66, e67, e68, e69, e70, e71, e72, e73, e74, e75, e76, e77, e78, e79, e80, e81, e82, e83, e84, e85, e86] at hx
  clear e46 e47 e48 e49 e50 e51 e52 e53 e54 e55 e56 e57 e58 e59 e60 e61 e62 e63 e64 e65 e66 e67 e68 e69 e70 e71 e72 e73 e74 e75 e76 e77 e78 e79 e80 e81 e82 e83 e84 e85 e86
  subst hx
  simp only [Act.put, List.setIfInBounds_toArray, List.set_cons_succ, List.set_cons_zero]
  have HX2 := Lib.hid (HX1.out.of (hB.out.block _ HX1.out.lt))
  have HW2 := Lib.hid (HW1.out.trans (hB.out.mono HW1.out.size))
  clear hB HX1 HS1 HM1 HW1
  go_wp2_with fail
  go_loopw [15, 16, 17] (fun ty i _ wr => ∃ (k : Nat) (tl : List UInt8), i = .int .i64 (k : Int) ∧ k ≤ PL.size ∧ ty = .string (ba tl) ∧ tl.length ≤ 2 * k ∧ Tk.clean tl = L.take k ∧ Below V2.heap.size V2 wr) (fun _ i _ _ => PL.size - (intOf i).toNat)
  case atStart => exact ⟨0, [], rfl, by omega, rfl, by simp, rfl, Below.refl _ _⟩
  case round =>
    obtain ⟨k, tl, rfl, hk, rfl, htl, hcl, hB⟩ := hrel
    have HBW := Lib.hid hB
    have HBs := hB.size
    have HCL := Lib.hid hcl
    have htz : (ba tl).size ≤ 32 := by rw [ba_size]; omega
    clear hB hcl
    by_cases hlt : k < PL.size
    · have hki : (k : Int) < (PL.size : Int) := by omega
      have hkL : k < L.length := by omega
      obtain ⟨c, hc⟩ : ∃ c, PL[k] = c := ⟨_, rfl⟩
      have hck : L[k] = c := by rw [← HGET.out k hlt hkL, hc]
      have hsc := HST.out L[k] (List.getElem_mem hkL)
      rw [hck] at hsc
      have HC1 := Lib.hid (Tk.clean_still [c] (fun x hx => by rw [List.mem_singleton.1 hx]; exact hsc))
      have HCT := Lib.hid (show L.take (k + 1) = L.take k ++ [c] by rw [List.take_succ_eq_append_getElem hkL, hck])
      have hcl8 := c.toNat_lt
      clear hck hsc
      by_cases h97 : 97 ≤ c.toNat
      · have g1 : (97 : Int) ≤ (c.toNat : Int) := by omega
        by_cases h122 : c.toNat ≤ 122
        · have g2 : (c.toNat : Int) ≤ 122 := by omega
          have hl := small_up c ⟨h97, h122⟩
          have HC2 := Lib.hid hl.1
          have hcv := run_one (wr.alloc (.cells #[.int .u8 ((c.toNat : Int) - 32)] 5)) wr.heap.size ((c.toNat : Int) - 32) (c - 32) (by rw [hl.2]; omega) (by simp)
          clear hl
          have zc : (ba [c - 32]).size ≤ 1 := by rw [ba_size]; simp
          have zt : (ba tl ++ ba [c - 32]).size ≤ 33 := by rw [ByteArray.size_append]; omega
          go_wp2_with fail
          go_roundw
          case rel => exact ⟨k + 1, tl ++ [c - 32] ++ [32], by go_num, by omega, by rw [← ba_append, ← ba_append]; rfl, by simp; omega, by rw [Tk.clean_append, Tk.clean_append, HCL.out, HC2.out, HCT.out, show Tk.clean [32] = [] by decide, List.append_nil], HBW.out.alloc HBs _⟩
          case measure => simp [intOf]; omega
        · have g2 : ¬ (c.toNat : Int) ≤ 122 := by omega
          have HC2 := HC1
          have hcv := run_one (wr.alloc (.cells #[.int .u8 (c.toNat : Int)] 5)) wr.heap.size (c.toNat : Int) c rfl (by simp)
          have zc : (ba [c]).size ≤ 1 := by rw [ba_size]; simp
          have zt : (ba tl ++ ba [c]).size ≤ 33 := by rw [ByteArray.size_append]; omega
          go_wp2_with fail
          go_roundw
          case rel => exact ⟨k + 1, tl ++ [c] ++ [32], by go_num, by omega, by rw [← ba_append, ← ba_append]; rfl, by simp; omega, by rw [Tk.clean_append, Tk.clean_append, HCL.out, HC2.out, HCT.out, show Tk.clean [32] = [] by decide, List.append_nil], HBW.out.alloc HBs _⟩
          case measure => simp [intOf]; omega
      · have g1 : ¬ (97 : Int) ≤ (c.toNat : Int) := by omega
        have HC2 := HC1
        have hcv := run_one (wr.alloc (.cells #[.int .u8 (c.toNat : Int)] 5)) wr.heap.size (c.toNat : Int) c rfl (by simp)
        have zc : (ba [c]).size ≤ 1 := by rw [ba_size]; simp
        have zt : (ba tl ++ ba [c]).size ≤ 33 := by rw [ByteArray.size_append]; omega
        go_wp2_with fail
        go_roundw
        case rel => exact ⟨k + 1, tl ++ [c] ++ [32], by go_num, by omega, by rw [← ba_append, ← ba_append]; rfl, by simp; omega, by rw [Tk.clean_append, Tk.clean_append, HCL.out, HC2.out, HCT.out, show Tk.clean [32] = [] by decide, List.append_nil], HBW.out.alloc HBs _⟩
        case measure => simp [intOf]; omega
    · obtain rfl : k = PL.size := by omega
      have hcl := HCL.out
      rw [List.take_of_length_le (by omega)] at hcl
      have HDT := Lib.hid (fun W h => HDT0.out tl (by omega) hcl W h)
      generalize ba tl = TY at *
      have HWr := Lib.hid (HW2.out.trans (HBW.out.mono HW2.out.size))
      have HXr := Lib.hid (HX2.out.of (HBW.out.block _ HX2.out.lt))
      clear HDT0 hcl HCL HBW HX2 HW2
      go_wp2_with fail
      refine (HDO.out _ (HR.out.next HWr.out).tab).mono ?_
      rintro e V3 ⟨rfl, hb⟩
      have HX3 := Lib.hid (HXr.out.of (hb.block _ HXr.out.lt))
      have HW3 := Lib.hid (HWr.out.trans (hb.mono HWr.out.size))
      clear hb HXr HWr HDO
      go_wp2_with fail
      refine wp_region_some (by kernel_rfl) (Vr18 g13 PL DG TY OD PB1 p pb) (fun _ _ W => Gc V3 W) (fun w w' => Below w.heap.size w w') (by kernel_rfl) (by kernel_rfl) 150 rfl (by kernel_rfl) (Vr18.on _ _ _ _ _ _ _ _) (fun _ => (Below.refl _ _)) (Gc.start V3) ?_ ?_
      · intro i o ho listed x W hs hdep hun hg hk
        match i, ho with
        | 0, ho =>
          cases ho
          have q7 : x.tmps[7]?.getD undef = .bool true := hk.fix 7 (by kernel_rfl)
          refine .inl ⟨wanted_plain rfl, ?_⟩
          refine wp_value (v := .bool true) (w' := W) ?_ ⟨_, rfl, rfl, (Below.refl _ _), hg⟩
          go_simp
        | 1, ho =>
          cases ho
          have q115 : x.tmps[115]?.getD undef = .bool true := hk.dep 0 115 (by kernel_rfl) (by kernel_rfl)
          refine .inl ⟨wanted_plain rfl, ?_⟩
          refine wp_value (v := .bool true) (w' := W) ?_ ⟨_, rfl, rfl, (Below.refl _ _), hg⟩
          go_simp
        | 2, ho =>
          cases ho
          have q8 : x.tmps[8]?.getD undef = .int .i64 p := hk.fix 8 (by kernel_rfl)
          refine .inl ⟨wanted_guard (g := 1) (d := 116) (by rfl) (by kernel_rfl) (show x.tmps[116]?.getD undef = .bool true from hk.dep 1 116 (by kernel_rfl) (by kernel_rfl)), ?_⟩
          refine wp_value (v := .int .i64 p) (w' := W) ?_ ⟨_, rfl, rfl, (Below.refl _ _), hg⟩
          go_simp
        | 3, ho =>
          cases ho
          have q12 : x.tmps[12]?.getD undef = .string PL := hk.fix 12 (by kernel_rfl)
          refine .inl ⟨wanted_guard (g := 1) (d := 116) (by rfl) (by kernel_rfl) (show x.tmps[116]?.getD undef = .bool true from hk.dep 1 116 (by kernel_rfl) (by kernel_rfl)), ?_⟩
          refine wp_value (v := .string PL) (w' := W) ?_ ⟨_, rfl, rfl, (Below.refl _ _), hg⟩
          go_simp
        | 4, ho =>
          cases ho
          have q117 : x.tmps[117]?.getD undef = .int .i64 p := hk.dep 2 117 (by kernel_rfl) (by kernel_rfl)
          have q118 : x.tmps[118]?.getD undef = .string PL := hk.dep 3 118 (by kernel_rfl) (by kernel_rfl)
          refine .inl ⟨wanted_guard (g := 1) (d := 116) (by rfl) (by kernel_rfl) (show x.tmps[116]?.getD undef = .bool true from hk.dep 1 116 (by kernel_rfl) (by kernel_rfl)), ?_⟩
          refine wp_enter (f := 16) (args := #[.pointer none, .int .i64 p, .string PL]) (w' := W) (S := fun v w1 => v = .string DG ∧ Below W.heap.size W w1) ?_ ((HDG.out W (HR.out.next (HW3.out.trans (hg.below.mono HW3.out.size))).tab).mono fun e w' h => ⟨_, h.1, rfl, h.2⟩) ?_
          · go_simp
          · rintro v W' ⟨rfl, hb⟩
            exact ⟨_, rfl, rfl, hb, hg.calls hb⟩
        | 5, ho =>
          cases ho
          have q13 : x.tmps[13]?.getD undef = .pointer (some ⟨g13, 0, none⟩) := hk.fix 13 (by kernel_rfl)
          refine .inl ⟨wanted_guard (g := 1) (d := 116) (by rfl) (by kernel_rfl) (show x.tmps[116]?.getD undef = .bool true from hk.dep 1 116 (by kernel_rfl) (by kernel_rfl)), ?_⟩
          refine wp_value (v := .pointer (some ⟨g13, 0, none⟩)) (w' := W) ?_ ⟨_, rfl, rfl, (Below.refl _ _), hg⟩
          go_simp
        | 6, ho =>
          cases ho
          have q120 : x.tmps[120]?.getD undef = .pointer (some ⟨g13, 0, none⟩) := hk.dep 5 120 (by kernel_rfl) (by kernel_rfl)
          refine .inl ⟨wanted_guard (g := 1) (d := 116) (by rfl) (by kernel_rfl) (show x.tmps[116]?.getD undef = .bool true from hk.dep 1 116 (by kernel_rfl) (by kernel_rfl)), ?_⟩
          have cf : W.cell? ⟨g13, 0, none⟩ = some (.string DG) := ((HX3.out.of (hg.below.block _ HX3.out.lt)).cell 0).trans rfl
          refine wp_value (v := .string DG) (w' := W) ?_ ⟨_, rfl, rfl, (Below.refl _ _), hg⟩
          go_simp
        | 7, ho =>
          cases ho
          have q119 : x.tmps[119]?.getD undef = .string DG := hk.dep 4 119 (by kernel_rfl) (by kernel_rfl)
          have q121 : x.tmps[121]?.getD undef = .string DG := hk.dep 6 121 (by kernel_rfl) (by kernel_rfl)
          refine .inl ⟨wanted_guard (g := 1) (d := 116) (by rfl) (by kernel_rfl) (show x.tmps[116]?.getD undef = .bool true from hk.dep 1 116 (by kernel_rfl) (by kernel_rfl)), ?_⟩
          refine wp_value (v := .bool true) (w' := W) ?_ ⟨_, rfl, rfl, (Below.refl _ _), hg⟩
          go_simp
        | 8, ho =>
          cases ho
          have q116 : x.tmps[116]?.getD undef = .bool true := hk.dep 1 116 (by kernel_rfl) (by kernel_rfl)
          have q122 : x.tmps[122]?.getD undef = .bool true := hk.dep 7 122 (by kernel_rfl) (by kernel_rfl)
          refine .inl ⟨wanted_plain rfl, ?_⟩
          refine wp_value (v := .bool true) (w' := W) ?_ ⟨_, rfl, rfl, (Below.refl _ _), hg⟩
          go_simp
        | 9, ho =>
          cases ho
          have q123 : x.tmps[123]?.getD undef = .bool true := hk.dep 8 123 (by kernel_rfl) (by kernel_rfl)
          refine .inl ⟨wanted_plain rfl, ?_⟩
          refine wp_value (v := .bool true) (w' := W) ?_ ⟨_, rfl, rfl, (Below.refl _ _), hg⟩
          go_simp
        | 10, ho =>
          cases ho
          have q8 : x.tmps[8]?.getD undef = .int .i64 p := hk.fix 8 (by kernel_rfl)
          refine .inl ⟨wanted_guard (g := 9) (d := 124) (by rfl) (by kernel_rfl) (show x.tmps[124]?.getD undef = .bool true from hk.dep 9 124 (by kernel_rfl) (by kernel_rfl)), ?_⟩
          refine wp_value (v := .int .i64 p) (w' := W) ?_ ⟨_, rfl, rfl, (Below.refl _ _), hg⟩
          go_simp
        | 11, ho =>
          cases ho
          have q15 : x.tmps[15]?.getD undef = .string TY := hk.fix 15 (by kernel_rfl)
          refine .inl ⟨wanted_guard (g := 9) (d := 124) (by rfl) (by kernel_rfl) (show x.tmps[124]?.getD undef = .bool true from hk.dep 9 124 (by kernel_rfl) (by kernel_rfl)), ?_⟩
          refine wp_value (v := .string TY) (w' := W) ?_ ⟨_, rfl, rfl, (Below.refl _ _), hg⟩
          go_simp
        | 12, ho =>
          cases ho
          have q125 : x.tmps[125]?.getD undef = .int .i64 p := hk.dep 10 125 (by kernel_rfl) (by kernel_rfl)
          have q126 : x.tmps[126]?.getD undef = .string TY := hk.dep 11 126 (by kernel_rfl) (by kernel_rfl)
          refine .inl ⟨wanted_guard (g := 9) (d := 124) (by rfl) (by kernel_rfl) (show x.tmps[124]?.getD undef = .bool true from hk.dep 9 124 (by kernel_rfl) (by kernel_rfl)), ?_⟩
          refine wp_enter (f := 16) (args := #[.pointer none, .int .i64 p, .string TY]) (w' := W) (S := fun v w1 => v = .string DG ∧ Below W.heap.size W w1) ?_ ((HDT.out W (HR.out.next (HW3.out.trans (hg.below.mono HW3.out.size))).tab).mono fun e w' h => ⟨_, h.1, rfl, h.2⟩) ?_
          · go_simp
          · rintro v W' ⟨rfl, hb⟩
            exact ⟨_, rfl, rfl, hb, hg.calls hb⟩
        | 13, ho =>
          cases ho
          have q13 : x.tmps[13]?.getD undef = .pointer (some ⟨g13, 0, none⟩) := hk.fix 13 (by kernel_rfl)
          refine .inl ⟨wanted_guard (g := 9) (d := 124) (by rfl) (by kernel_rfl) (show x.tmps[124]?.getD undef = .bool true from hk.dep 9 124 (by kernel_rfl) (by kernel_rfl)), ?_⟩
          refine wp_value (v := .pointer (some ⟨g13, 0, none⟩)) (w' := W) ?_ ⟨_, rfl, rfl, (Below.refl _ _), hg⟩
          go_simp
        | 14, ho =>
          cases ho
          have q128 : x.tmps[128]?.getD undef = .pointer (some ⟨g13, 0, none⟩) := hk.dep 13 128 (by kernel_rfl) (by kernel_rfl)
          refine .inl ⟨wanted_guard (g := 9) (d := 124) (by rfl) (by kernel_rfl) (show x.tmps[124]?.getD undef = .bool true from hk.dep 9 124 (by kernel_rfl) (by kernel_rfl)), ?_⟩
          have cf : W.cell? ⟨g13, 0, none⟩ = some (.string DG) := ((HX3.out.of (hg.below.block _ HX3.out.lt)).cell 0).trans rfl
          refine wp_value (v := .string DG) (w' := W) ?_ ⟨_, rfl, rfl, (Below.refl _ _), hg⟩
          go_simp
        | 15, ho =>
          cases ho
          have q127 : x.tmps[127]?.getD undef = .string DG := hk.dep 12 127 (by kernel_rfl) (by kernel_rfl)
          have q129 : x.tmps[129]?.getD undef = .string DG := hk.dep 14 129 (by kernel_rfl) (by kernel_rfl)
          refine .inl ⟨wanted_guard (g := 9) (d := 124) (by rfl) (by kernel_rfl) (show x.tmps[124]?.getD undef = .bool true from hk.dep 9 124 (by kernel_rfl) (by kernel_rfl)), ?_⟩
          refine wp_value (v := .bool true) (w' := W) ?_ ⟨_, rfl, rfl, (Below.refl _ _), hg⟩
          go_simp
        | 16, ho =>
          cases ho
          have q124 : x.tmps[124]?.getD undef = .bool true := hk.dep 9 124 (by kernel_rfl) (by kernel_rfl)
          have q130 : x.tmps[130]?.getD undef = .bool true := hk.dep 15 130 (by kernel_rfl) (by kernel_rfl)
          refine .inl ⟨wanted_plain rfl, ?_⟩
          refine wp_value (v := .bool true) (w' := W) ?_ ⟨_, rfl, rfl, (Below.refl _ _), hg⟩
          go_simp
        | 17, ho =>
          cases ho
          have q131 : x.tmps[131]?.getD undef = .bool true := hk.dep 16 131 (by kernel_rfl) (by kernel_rfl)
          refine .inl ⟨wanted_plain rfl, ?_⟩
          refine wp_value (v := .bool true) (w' := W) ?_ ⟨_, rfl, rfl, (Below.refl _ _), hg⟩
          go_simp
        | 18, ho =>
          cases ho
          have q8 : x.tmps[8]?.getD undef = .int .i64 p := hk.fix 8 (by kernel_rfl)
          refine .inl ⟨wanted_guard (g := 17) (d := 132) (by rfl) (by kernel_rfl) (show x.tmps[132]?.getD undef = .bool true from hk.dep 17 132 (by kernel_rfl) (by kernel_rfl)), ?_⟩
          refine wp_value (v := .int .i64 p) (w' := W) ?_ ⟨_, rfl, rfl, (Below.refl _ _), hg⟩
          go_simp
        | 19, ho =>
          cases ho
          have q12 : x.tmps[12]?.getD undef = .string PL := hk.fix 12 (by kernel_rfl)
          refine .inl ⟨wanted_guard (g := 17) (d := 132) (by rfl) (by kernel_rfl) (show x.tmps[132]?.getD undef = .bool true from hk.dep 17 132 (by kernel_rfl) (by kernel_rfl)), ?_⟩
          refine wp_value (v := .string PL) (w' := W) ?_ ⟨_, rfl, rfl, (Below.refl _ _), hg⟩
          go_simp
        | 20, ho =>
          cases ho
          have q133 : x.tmps[133]?.getD undef = .int .i64 p := hk.dep 18 133 (by kernel_rfl) (by kernel_rfl)
          have q134 : x.tmps[134]?.getD undef = .string PL := hk.dep 19 134 (by kernel_rfl) (by kernel_rfl)
          refine .inl ⟨wanted_guard (g := 17) (d := 132) (by rfl) (by kernel_rfl) (show x.tmps[132]?.getD undef = .bool true from hk.dep 17 132 (by kernel_rfl) (by kernel_rfl)), ?_⟩
          refine wp_enter (f := 16) (args := #[.pointer none, .int .i64 p, .string PL]) (w' := W) (S := fun v w1 => v = .string DG ∧ Below W.heap.size W w1) ?_ ((HDG.out W (HR.out.next (HW3.out.trans (hg.below.mono HW3.out.size))).tab).mono fun e w' h => ⟨_, h.1, rfl, h.2⟩) ?_
          · go_simp
          · rintro v W' ⟨rfl, hb⟩
            exact ⟨_, rfl, rfl, hb, hg.calls hb⟩
        | 21, ho =>
          cases ho
          have q8 : x.tmps[8]?.getD undef = .int .i64 p := hk.fix 8 (by kernel_rfl)
          refine .inl ⟨wanted_guard (g := 17) (d := 132) (by rfl) (by kernel_rfl) (show x.tmps[132]?.getD undef = .bool true from hk.dep 17 132 (by kernel_rfl) (by kernel_rfl)), ?_⟩
          refine wp_value (v := .int .i64 p) (w' := W) ?_ ⟨_, rfl, rfl, (Below.refl _ _), hg⟩
          go_simp
        | 22, ho =>
          cases ho
          have q136 : x.tmps[136]?.getD undef = .int .i64 p := hk.dep 21 136 (by kernel_rfl) (by kernel_rfl)
          refine .inl ⟨wanted_guard (g := 17) (d := 132) (by rfl) (by kernel_rfl) (show x.tmps[132]?.getD undef = .bool true from hk.dep 17 132 (by kernel_rfl) (by kernel_rfl)), ?_⟩
          refine wp_value (v := .int .u8 pb) (w' := W) ?_ ⟨_, rfl, rfl, (Below.refl _ _), hg⟩
          go_simp
        | 23, ho =>
          cases ho
          have q137 : x.tmps[137]?.getD undef = .int .u8 pb := hk.dep 22 137 (by kernel_rfl) (by kernel_rfl)
          refine .inl ⟨wanted_guard (g := 17) (d := 132) (by rfl) (by kernel_rfl) (show x.tmps[132]?.getD undef = .bool true from hk.dep 17 132 (by kernel_rfl) (by kernel_rfl)), ?_⟩
          refine wp_value (v := .slice (some ⟨W.heap.size, 0, none⟩) 1 1) (w' := W.alloc (.cells #[.int .u8 pb] 5)) ?_ ⟨_, rfl, ⟨_, rfl, Blk.new W _ _⟩, (Below.refl _ W).alloc (Nat.le_refl _) _, hg.calls ((Below.refl _ W).alloc (Nat.le_refl _) _)⟩
          go_simp
        | 24, ho =>
          cases ho
          refine .inl ⟨wanted_guard (g := 17) (d := 132) (by rfl) (by kernel_rfl) (show x.tmps[132]?.getD undef = .bool true from hk.dep 17 132 (by kernel_rfl) (by kernel_rfl)), ?_⟩
          obtain ⟨g, q138, hbk⟩ : ∃ g, x.tmps[138]?.getD undef = .slice (some ⟨g, 0, none⟩) 1 1 ∧ Blk W g 5 #[.int .u8 pb] := hk.dep 23 138 (by kernel_rfl) (by kernel_rfl)
          have hcv := HCV.out W g ((hbk.cell 0).trans rfl)
          refine wp_value (v := .string PB1) (w' := W) ?_ ⟨_, rfl, rfl, Below.refl _ _, hg⟩
          go_simp
        | 25, ho =>
          cases ho
          have q12 : x.tmps[12]?.getD undef = .string PL := hk.fix 12 (by kernel_rfl)
          refine .inl ⟨wanted_guard (g := 17) (d := 132) (by rfl) (by kernel_rfl) (show x.tmps[132]?.getD undef = .bool true from hk.dep 17 132 (by kernel_rfl) (by kernel_rfl)), ?_⟩
          refine wp_value (v := .string PL) (w' := W) ?_ ⟨_, rfl, rfl, (Below.refl _ _), hg⟩
          go_simp
        | 26, ho =>
          cases ho
          have q139 : x.tmps[139]?.getD undef = .string PB1 := hk.dep 24 139 (by kernel_rfl) (by kernel_rfl)
          have q140 : x.tmps[140]?.getD undef = .string PL := hk.dep 25 140 (by kernel_rfl) (by kernel_rfl)
          refine .inl ⟨wanted_guard (g := 17) (d := 132) (by rfl) (by kernel_rfl) (show x.tmps[132]?.getD undef = .bool true from hk.dep 17 132 (by kernel_rfl) (by kernel_rfl)), ?_⟩
          refine wp_value (v := .slice (some ⟨W.heap.size, 0, none⟩) 2 2) (w' := W.alloc (.cells #[.string PB1, .string PL] 9)) ?_ ⟨_, rfl, ⟨_, rfl, Blk.new W _ _⟩, (Below.refl _ W).alloc (Nat.le_refl _) _, hg.calls ((Below.refl _ W).alloc (Nat.le_refl _) _)⟩
          go_simp
        | 27, ho =>
          cases ho
          refine .inl ⟨wanted_guard (g := 17) (d := 132) (by rfl) (by kernel_rfl) (show x.tmps[132]?.getD undef = .bool true from hk.dep 17 132 (by kernel_rfl) (by kernel_rfl)), ?_⟩
          obtain ⟨g, q141, hbk⟩ : ∃ g, x.tmps[141]?.getD undef = .slice (some ⟨g, 0, none⟩) 2 2 ∧ Blk W g 9 #[.string PB1, .string PL] := hk.dep 26 141 (by kernel_rfl) (by kernel_rfl)
          refine wp_enter (f := 17) (args := #[.slice (some ⟨g, 0, none⟩) 2 2]) (w' := W) (S := fun v w1 => v = .string DG ∧ Below W.heap.size W w1) ?_ ((HSU.out W g hbk (HR.out.next (HW3.out.trans (hg.below.mono HW3.out.size))).tab).mono fun e w' h => ⟨_, h.1, rfl, h.2⟩) ?_
          · go_simp
          · rintro v W' ⟨rfl, hb⟩
            exact ⟨_, rfl, rfl, hb, hg.calls hb⟩
        | 28, ho =>
          cases ho
          have q135 : x.tmps[135]?.getD undef = .string DG := hk.dep 20 135 (by kernel_rfl) (by kernel_rfl)
          have q142 : x.tmps[142]?.getD undef = .string DG := hk.dep 27 142 (by kernel_rfl) (by kernel_rfl)
          refine .inl ⟨wanted_guard (g := 17) (d := 132) (by rfl) (by kernel_rfl) (show x.tmps[132]?.getD undef = .bool true from hk.dep 17 132 (by kernel_rfl) (by kernel_rfl)), ?_⟩
          refine wp_value (v := .bool true) (w' := W) ?_ ⟨_, rfl, rfl, (Below.refl _ _), hg⟩
          go_simp
        | 29, ho =>
          cases ho
          have q132 : x.tmps[132]?.getD undef = .bool true := hk.dep 17 132 (by kernel_rfl) (by kernel_rfl)
          have q143 : x.tmps[143]?.getD undef = .bool true := hk.dep 28 143 (by kernel_rfl) (by kernel_rfl)
          refine .inl ⟨wanted_plain rfl, ?_⟩
          refine wp_value (v := .bool true) (w' := W) ?_ ⟨_, rfl, rfl, (Below.refl _ _), hg⟩
          go_simp
        | 30, ho =>
          cases ho
          have q144 : x.tmps[144]?.getD undef = .bool true := hk.dep 29 144 (by kernel_rfl) (by kernel_rfl)
          refine .inl ⟨wanted_plain rfl, ?_⟩
          refine wp_value (v := .bool true) (w' := W) ?_ ⟨_, rfl, rfl, (Below.refl _ _), hg⟩
          go_simp
        | 31, ho =>
          cases ho
          have q18 : x.tmps[18]?.getD undef = .string OD := hk.fix 18 (by kernel_rfl)
          refine .inl ⟨wanted_guard (g := 30) (d := 145) (by rfl) (by kernel_rfl) (show x.tmps[145]?.getD undef = .bool true from hk.dep 30 145 (by kernel_rfl) (by kernel_rfl)), ?_⟩
          refine wp_value (v := .string OD) (w' := W) ?_ ⟨_, rfl, rfl, (Below.refl _ _), hg⟩
          go_simp
        | 32, ho =>
          cases ho
          have q146 : x.tmps[146]?.getD undef = .string OD := hk.dep 31 146 (by kernel_rfl) (by kernel_rfl)
          refine .inl ⟨wanted_guard (g := 30) (d := 145) (by rfl) (by kernel_rfl) (show x.tmps[145]?.getD undef = .bool true from hk.dep 30 145 (by kernel_rfl) (by kernel_rfl)), ?_⟩
          refine wp_value (v := .int .i64 32) (w' := W) ?_ ⟨_, rfl, rfl, (Below.refl _ _), hg⟩
          go_simp
        | 33, ho =>
          cases ho
          have q147 : x.tmps[147]?.getD undef = .int .i64 32 := hk.dep 32 147 (by kernel_rfl) (by kernel_rfl)
          refine .inl ⟨wanted_guard (g := 30) (d := 145) (by rfl) (by kernel_rfl) (show x.tmps[145]?.getD undef = .bool true from hk.dep 30 145 (by kernel_rfl) (by kernel_rfl)), ?_⟩
          refine wp_value (v := .bool true) (w' := W) ?_ ⟨_, rfl, rfl, (Below.refl _ _), hg⟩
          go_simp
        | 34, ho =>
          cases ho
          have q145 : x.tmps[145]?.getD undef = .bool true := hk.dep 30 145 (by kernel_rfl) (by kernel_rfl)
          have q148 : x.tmps[148]?.getD undef = .bool true := hk.dep 33 148 (by kernel_rfl) (by kernel_rfl)
          refine .inl ⟨wanted_plain rfl, ?_⟩
          refine wp_value (v := .bool true) (w' := W) ?_ ⟨_, rfl, rfl, (Below.refl _ _), hg⟩
          go_simp
        | 35, ho =>
          cases ho
          have q149 : x.tmps[149]?.getD undef = .bool true := hk.dep 34 149 (by kernel_rfl) (by kernel_rfl)
          refine .inl ⟨wanted_plain rfl, ?_⟩
          refine wp_value (v := .bool true) (w' := W) ?_ ⟨_, rfl, rfl, (Below.refl _ _), hg⟩
          go_simp
        | _ + 36, ho => cases ho
      intro listed x V4 hall hg hk
      have e115 : x.tmps[115]?.getD undef = .bool true := hk.last 0 115 (by decide) (by kernel_rfl)
      have e116 : x.tmps[116]?.getD undef = .bool true := hk.last 1 116 (by decide) (by kernel_rfl)
      have e117 : x.tmps[117]?.getD undef = .int .i64 p := hk.last 2 117 (by decide) (by kernel_rfl)
      have e118 : x.tmps[118]?.getD undef = .string PL := hk.last 3 118 (by decide) (by kernel_rfl)
      have e119 : x.tmps[119]?.getD undef = .string DG := hk.last 4 119 (by decide) (by kernel_rfl)
      have e120 : x.tmps[120]?.getD undef = .pointer (some ⟨g13, 0, none⟩) := hk.last 5 120 (by decide) (by kernel_rfl)
      have e121 : x.tmps[121]?.getD undef = .string DG := hk.last 6 121 (by decide) (by kernel_rfl)
      have e122 : x.tmps[122]?.getD undef = .bool true := hk.last 7 122 (by decide) (by kernel_rfl)
      have e123 : x.tmps[123]?.getD undef = .bool true := hk.last 8 123 (by decide) (by kernel_rfl)
      have e124 : x.tmps[124]?.getD undef = .bool true := hk.last 9 124 (by decide) (by kernel_rfl)
      have e125 : x.tmps[125]?.getD undef = .int .i64 p := hk.last 10 125 (by decide) (by kernel_rfl)
      have e126 : x.tmps[126]?.getD undef = .string TY := hk.last 11 126 (by decide) (by kernel_rfl)
      have e127 : x.tmps[127]?.getD undef = .string DG := hk.last 12 127 (by decide) (by kernel_rfl)
      have e128 : x.tmps[128]?.getD undef = .pointer (some ⟨g13, 0, none⟩) := hk.last 13 128 (by decide) (by kernel_rfl)
      have e129 : x.tmps[129]?.getD undef = .string DG := hk.last 14 129 (by decide) (by kernel_rfl)
      have e130 : x.tmps[130]?.getD undef = .bool true := hk.last 15 130 (by decide) (by kernel_rfl)
      have e131 : x.tmps[131]?.getD undef = .bool true := hk.last 16 131 (by decide) (by kernel_rfl)
      have e132 : x.tmps[132]?.getD undef = .bool true := hk.last 17 132 (by decide) (by kernel_rfl)
      have e133 : x.tmps[133]?.getD undef = .int .i64 p := hk.last 18 133 (by decide) (by kernel_rfl)
      have e134 : x.tmps[134]?.getD undef = .string PL := hk.last 19 134 (by decide) (by kernel_rfl)
      have e135 : x.tmps[135]?.getD undef = .string DG := hk.last 20 135 (by decide) (by kernel_rfl)
      have e136 : x.tmps[136]?.getD undef = .int .i64 p := hk.last 21 136 (by decide) (by kernel_rfl)
      have e137 : x.tmps[137]?.getD undef = .int .u8 pb := hk.last 22 137 (by decide) (by kernel_rfl)
      have e139 : x.tmps[139]?.getD undef = .string PB1 := hk.last 24 139 (by decide) (by kernel_rfl)
      have e140 : x.tmps[140]?.getD undef = .string PL := hk.last 25 140 (by decide) (by kernel_rfl)
      have e142 : x.tmps[142]?.getD undef = .string DG := hk.last 27 142 (by decide) (by kernel_rfl)
      have e143 : x.tmps[143]?.getD undef = .bool true := hk.last 28 143 (by decide) (by kernel_rfl)
      have e144 : x.tmps[144]?.getD undef = .bool true := hk.last 29 144 (by decide) (by kernel_rfl)
      have e145 : x.tmps[145]?.getD undef = .bool true := hk.last 30 145 (by decide) (by kernel_rfl)
      have e146 : x.tmps[146]?.getD undef = .string OD := hk.last 31 146 (by decide) (by kernel_rfl)
      have e147 : x.tmps[147]?.getD undef = .int .i64 32 := hk.last 32 147 (by decide) (by kernel_rfl)
      have e148 : x.tmps[148]?.getD undef = .bool true := hk.last 33 148 (by decide) (by kernel_rfl)
      have e149 : x.tmps[149]?.getD undef = .bool true := hk.last 34 149 (by decide) (by kernel_rfl)
      have e6 : x.tmps[6]?.getD undef = .bool true := hk.last 35 6 (by decide) (by kernel_rfl)
      obtain ⟨z138, hz138⟩ : ∃ z, x.tmps[138]?.getD undef = z := ⟨_, rfl⟩
      obtain ⟨z141, hz141⟩ : ∃ z, x.tmps[141]?.getD undef = z := ⟨_, rfl⟩
      have hB := Lib.hid hg.below
      have hx := hk.act [115, 116, 117, 118, 119, 120, 121, 122, 123, 124, 125, 126, 127, 128, 129, 130, 131, 132, 133, 134, 135, 136, 137, 138, 139, 140, 141, 142, 143, 144, 145, 146, 147, 148, 149, 6] (by kernel_rfl)
      clear hk hg hall
      simp only [List.foldl_cons, List.foldl_nil, e115, e116, e117, e118, e119, e120, e121, e122, e123, e124, e125, e126, e127, e128, e129, e130, e131, e132, e133, e134, e135, e136, e137, e139, e140, e142, e143, e144, e145, e146, e147, e148, e149, e6, hz138, hz141] at hx
      clear e115 e116 e117 e118 e119 e120 e121 e122 e123 e124 e125 e126 e127 e128 e129 e130 e131 e132 e133 e134 e135 e136 e137 e139 e140 e142 e143 e144 e145 e146 e147 e148 e149 e6 hz138 hz141
      subst hx
      simp only [Act.put, List.setIfInBounds_toArray, List.set_cons_succ, List.set_cons_zero]
      go_wp2_with fail
      go_ret
      exact ⟨rfl, HW3.out.trans (hB.out.mono HW3.out.size)⟩

/-! ### The row -/
set_option maxRecDepth 100000 in
theorem contract (H : Type) (enc : TypeId × Value → H) (W : World) (base : Nat) (args : Array Value) (ds gs : List (DataW H)) (before : List MemPlace)
    (hval : ∀ (j : Nat) t v, Tryz.f4.params[j]? = some t → args[j]? = some v → Value.okWide Tryz.prog W .any base t v)
    (hW : DataW.Whole enc Tryz.prog Tryz.f4.params.toList Rows.mintRightSpec.vars false W args.toList ds gs before) (hL : laidMet Tryz.prog Rows.mintRightRow.laid W) (hS : W.ShapedOpen Tryz.prog) :
    Calls Tryz.prog 4 args W fun e W' => ∃ v, e = .returned v ∧ Rows.mintRightSpec.post enc Tryz.prog Tryz.f4 false true false false W args v W' := by
  have hW' := hW
  obtain ⟨p, q, hA0, hV, rfl, hfz, hnd⟩ := hW
  have hA : DataW.TrodAll enc Tryz.prog W 0 (fun _ => true) true Tryz.f4.params.toList args.toList ds p := hA0
  rw [Tryz.params4] at hA hval
  obtain ⟨v0, vs0, d0, ds0, p0, q0, hargs, rfl, rfl, h0, r0⟩ := trodAll_cons hA
  obtain ⟨v1, vs1, d1, ds1, p1, q1, rfl, rfl, rfl, h1, r1⟩ := trodAll_cons r0
  obtain ⟨v2, vs2, d2, ds2, p2, q2, rfl, rfl, rfl, h2, r2⟩ := trodAll_cons r1
  obtain ⟨rfl, rfl, rfl⟩ := trodAll_nil r2
  obtain rfl : args = #[v0, v1, v2] := by cases args; simp_all
  obtain ⟨rfl, rfl⟩ := trodVars_none hV
  refine law_contract (tb := 4) laidOut (by kernel_rfl) rfl (by kernel_rfl) Tryz.underlying4 rfl hW' ?_
  clear hA0 hW' hA
  obtain ⟨a0, rfl, rfl, rfl, w0⟩ := open_int Tryz.underlying3 (hval 0 3 v0 rfl rfl) h0
  obtain ⟨a1, rfl, _, _, w1⟩ := open_string Tryz.underlying9 (hval 1 9 v1 rfl rfl) h1
  obtain ⟨zs, rfl, hz, _⟩ := open_array Tryz.underlying32 Tryz.underlying2 cells_int (by kernel_rfl) (hval 2 32 v2 rfl rfl) h2
  match zs, hz with
  | [z0, z1], _ =>
    exact walk a0 a1 z0 z1 W (ready_of (tab_CubeRoots (laidMet.tail (laidMet.tail (laidMet.tail (laidMet.tail hL))))) (tab_SquareRoots (laidMet.tail (laidMet.tail (laidMet.tail (laidMet.tail (laidMet.tail hL)))))) (tab_Uint64pow10 (laidMet.tail (laidMet.tail hL))) hS)

theorem laid_met (os : Os) : laidMet Tryz.prog Rows.mintRightRow.laid ((laidWorld os).forCall (fun _ _ => 0) ⟨#[], #[.int .i64 0, .string ⟨#[]⟩, .agg #[.int .i64 0, .int .i64 0]], []⟩).memory :=
  laidMet_of_run' 8 (by kernel_rfl) (by kernel_rfl)
theorem reads (os : Os) {H : Type} (enc : TypeId × Value → H) : ∃ places, DataW.whole enc Tryz.prog ((laidWorld os).forCall (fun _ _ => 0) ⟨#[], #[.int .i64 0, .string ⟨#[]⟩, .agg #[.int .i64 0, .int .i64 0]], []⟩).memory Tryz.f4.params.toList Rows.mintRightSpec.vars false (#[.int .i64 0, .string ⟨#[]⟩, .agg #[.int .i64 0, .int .i64 0]] : Array Value).toList 8 = some ([.lit (.int .i64 0), .lit (.string []), .agg [.lit (.int .i64 0), .lit (.int .i64 0)]], [], places) :=
  ⟨[], by kernel_rfl⟩

set_option maxRecDepth 100000 in
theorem lifted (os : Os) (started : os.Started) (H : Type) (enc : TypeId × Value → H) (F : Stop.Interp) :
    ReturnsInHanded {} Tryz.checked os 4 .any ((OpenSpec.ofChange Rows.mintRightSpec).preRow enc Tryz.prog Tryz.f4 Rows.mintRightRow.domain false Rows.mintRightRow.laid) (((OpenSpec.ofChange Rows.mintRightSpec).at F).post enc Tryz.prog Tryz.f4 false true false false) := by
  obtain ⟨places, hx⟩ := reads os enc
  refine returnsInHanded_of_row (C := Tryz.checked) (s := OpenSpec.ofChange Rows.mintRightSpec) own started (by kernel_rfl) Tryz.func4
    (witness_row_at (enc := enc) (C := Tryz.checked) false (laidWorld os) #[.int .i64 0, .string ⟨#[]⟩, .agg #[.int .i64 0, .int .i64 0]] rfl (by kernel_rfl) (by kernel_rfl) (by kernel_rfl)
      (OpenSpec.preRow_of_cond 8 hx (by kernel_rfl) (fun k hk => by cases hk) (by kernel_rfl) (laid_met os))) ?_
  intro W base args ds gs before hval hW _ _ _ hL hS _
  exact contract H enc W base args ds gs before hval hW hL hS

theorem said : Rows.MintRightSaid :=
  OpenClaim.holds_of_cond 4 Tryz.f4 rfl rfl rfl rfl rfl rfl rfl ⟨rfl, rfl, rfl, rfl, rfl⟩ rfl rfl rfl rfl rfl (by kernel_rfl) Tryz.func4 (by kernel_rfl)
    (of_decide_eq_true (by kernel_rfl)) (by unfold Func.isWrapper; first | (rw [if_pos (by decide +kernel)]; kernel_rfl) | (rw [if_neg (by decide +kernel)]; exact ⟨rfl, rfl⟩))
    (fun os started H enc _ F => by rw [OpenClaim.pre_eq_preRow]; exact lifted os started H enc F)

theorem plain (f : FuncId) (fn : Func) (hf : Tryz.pinned.checked.prog.funcNamed "homecoming/homecominglaw10.MintRight" = some f) (hfn : Tryz.pinned.checked.prog.funcs[f]? = some fn) :
    false = Tryz.pinned.checked.prog.looks [] ∧ ∀ (j : Nat) t, fn.params[j]? = some t → Tryz.pinned.checked.prog.wantsStandIn t = false := by
  obtain rfl : f = 4 := Option.some.inj ((show Tryz.prog.funcNamed "homecoming/homecominglaw10.MintRight" = some 4 by kernel_rfl).symm.trans hf) |>.symm
  obtain rfl : fn = Tryz.f4 := (Option.some.inj (Tryz.func4.symm.trans hfn)).symm
  refine ⟨by kernel_rfl, fun j t ht => ?_⟩
  have hall : (Tryz.f4.params.toList.all fun u => !Tryz.prog.wantsStandIn u) = true := by kernel_rfl
  have hm : t ∈ Tryz.f4.params.toList := by simpa using Array.mem_of_getElem? ht
  exact (show Tryz.prog.wantsStandIn t = false by simpa using List.all_eq_true.1 hall t hm)

/-- THE STATEMENT. -/
theorem card : Rows.MintRightCardSaid :=
  Claim7.holds_tied_plain_at .later [] _ _ _ _ said (fun _ h => by cases h) (by kernel_rfl) (fun _ h => by cases h) mintRight_row_tie rfl ⟨rfl, rfl⟩ (by kernel_rfl) rfl plain (by kernel_rfl)
#print axioms card
end Go.Proofs.YtflgbnolfleicaaGreatDoor.mintRight
