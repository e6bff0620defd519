/-
  Proves the statement of VaultLate: for every purpose and every two numbers the law returns true (a secret that is over is never right, and gone when it is presented; a moment ahead it is right), and its arguments read as they did. Conditions: the package-level tables acceptRanges and first of the library and cubeRoots and squareRoots of package sha hold what their texts lay.
-/
import Derived.Test.YtfjdcopndkdbmaaGreatDoorVtW
import Derived.Test.YtfjdcopndkdbmaaGreatDoorMinTb
import Derived.Test.YtfjdcopndkdbmaaGreatDoorTabs
import Derived.Test.YtfjdcopndkdbmaaGreatDoorCards
import Derived.Test.YtfjdcopndkdbmaaGreatDoorTie
namespace Go.Proofs.YtfjdcopndkdbmaaGreatDoor.vaultLate
open Go.ChangeShapes Go.WideShapes Go.ChangeAt Go.RowKit
open Go.ChangeMaps (open_string shut_string)

theorem four_size : (Tryz.prog.info? 35).map (·.size) = some 4 := by kernel_rfl
theorem right_one (s : Va.Sec) (now : Int) (h : now < s.expires) : Va.present s.digest [s] s.key now = ([], some s, 0) := by
  rw [present_at (s := s) (i := 0) (place_one s) (by simp) rfl, if_neg (by omega), if_pos rfl]
  rfl
theorem late_one (s : Va.Sec) (d : ByteArray) (now : Int) (h : s.expires ≤ now) : Va.present d [s] s.key now = ([], none, 19) := by
  rw [present_at (s := s) (i := 0) (place_one s) (by simp) rfl, if_pos h]
  rfl
/-- What each operation of the drawn statement leaves. -/
def Vl10 (A : Option Addr) (cp : Nat) (p : Int) (PL : ByteArray) (E : Int) (mm : Int) (q1 : Int) (gq : Nat) : Nat → Value → Prop
  | 0, v => v = .slice A 1 cp
  | 1, v => v = .agg #[.int .i64 1, .int .i64 p, .int .i64 1, .int .i64 3]
  | 2, v => v = .agg #[.int .i64 (accOf 1), .int .i64 (purOf p), .string (chOf 1), .string PL]
  | 3, v => v = .int .i64 E
  | 4, v => v = .pointer (some ⟨gq, 1, none⟩)
  | 5, v => v = .int .i64 q1
  | 6, v => v = .int .i64 mm
  | 7, v => v = .int .i64 (E + mm)
  | 8, v => ∃ a c, v = .tuple #[.slice a 0 c, .agg #[.string ⟨#[]⟩, .int .i64 0, .int .i64 0, .string ⟨#[]⟩, .int .i64 0, .int .i64 0], .int .i64 19]
  | 9, v => ∃ a c, v = .tuple #[.slice a 0 c, .agg #[.string ⟨#[]⟩, .int .i64 0, .int .i64 0, .string ⟨#[]⟩, .int .i64 0, .int .i64 0], .int .i64 19]
  | 10, v => ∃ a c, v = .slice a 0 c
  | 11, v => v = .agg #[.string ⟨#[]⟩, .int .i64 0, .int .i64 0, .string ⟨#[]⟩, .int .i64 0, .int .i64 0]
  | 12, v => v = .int .i64 19
  | 13, v => True ∨ v = v
  | 14, v => ∃ a c, v = .slice a 0 c
  | 15, v => v = undef
  | 16, v => v = .int .i64 19
  | _, _ => True
set_option maxRecDepth 100000 in
set_option maxHeartbeats 16000000 in
theorem walk (p0 q0 q1 : Int) (w : World) (hR : Rdy w) :
    Calls Tryz.prog 8 #[.int .i64 p0, .agg #[.int .i64 q0, .int .i64 q1]] w fun e w' => e = .returned (.bool true) ∧ Below w.heap.size w w' := by
  obtain ⟨t0, p, e1, t1, t2, e2, hp0, hp6⟩ : ∃ t p : Int, p0.tmod 6 = t ∧ -6 ≤ t ∧ t ≤ 6 ∧ (t + 6).tmod 6 = p ∧ 0 ≤ p ∧ p < 6 := by
    have h1 := Int.tmod_lt_of_pos p0 (show (0 : Int) < 6 by omega)
    have h2 : -(6 : Int) < p0.tmod 6 := by
      have := Int.tmod_lt_of_pos (-p0) (show (0 : Int) < 6 by omega)
      rw [Int.neg_tmod] at this
      omega
    refine ⟨p0.tmod 6, _, rfl, by omega, by omega, rfl, Int.tmod_nonneg _ (by omega), Int.tmod_lt_of_pos _ (by omega)⟩
  obtain ⟨n, hn, en⟩ := and_mask q0 20 1048575 (by decide) (by decide)
  obtain ⟨m, hm, em⟩ := and_mask q1 8 255 (by decide) (by decide)
  rw [show (2 : Nat) ^ 20 = 1048576 by decide] at hn
  rw [show (2 : Nat) ^ 8 = 256 by decide] at hm
  obtain ⟨mm, hmm⟩ : ∃ mm : Int, (m : Int) = mm := ⟨_, rfl⟩
  rw [hmm] at em
  have hpur : purOf p = 1 + p := by unfold purOf; omega
  have hlife := Mi.life_at (1 + p) (by omega)
  have HAW := Lib.hid (fun W h => awake_any W h)
  have hsec := fun W => secret_any 1 p 1 3 (n : Int) (by omega) W
  have HAT := Lib.hid (fun W => attempt_any 1 p 1 3 W)
  have hrt := sec_right 1 p 1 3 (n : Int)
  have hex : (secQ 1 p 1 3 (n : Int)).expires = (n : Int) + Mi.life (1 + p) := by rw [sec_expires, hpur, Mi.clock_low _ _ (by omega) (by omega) (by omega)]
  have hch : (secQ 1 p 1 3 (n : Int)).channel.size ≤ 50000 := ch_size 1
  have hkey := sec_key 1 p 1 3 (n : Int)
  have hdig := sec_digest 1 p 1 3 (n : Int)
  have HLF := Lib.hid (fun W => rlife_any (1 + p) W)
  generalize Mi.life (1 + p) = L at *
  obtain ⟨E, hE⟩ : ∃ E : Int, (n : Int) + L = E := ⟨_, rfl⟩
  rw [hE] at hex
  have hp1 := put_first (secQ 1 p 1 3 (n : Int)) hrt
  generalize secQ 1 p 1 3 (n : Int) = S0 at *
  rw [sec_row] at hsec
  have HSE := Lib.hid hsec
  have hput := fun W hW hW2 => put_any (S := fun _ => False) none 0 [] (by simp) (by simp) S0 hch W hW hW2
  rw [hp1] at hput
  have HPUT := Lib.hid hput
  have hone : ∀ x ∈ [S0], rightS x = true := fun x hx => by rw [List.mem_singleton] at hx; rw [hx]; exact hrt
  have hpr := right_one S0 (E - 1) (by omega)
  have hpl := fun d => late_one S0 d (E + mm) (by omega)
  rw [hkey] at hpr hpl
  rw [hdig] at hpr
  have hpres := fun (A : Option Addr) (cp : Nat) (hcp : 1 ≤ cp) (W : World) (hW : Rdy W) (hl : Lies (fun _ => False) W A (secs [S0])) => pres_nil A cp [S0] (by simp) hcp (accOf 1) (purOf p) (chOf 1) (plainL (purOf p) (ten10 (d7 3))) (plain_len _ _) (E - 1) hone W hW hl _ hpr
  have hlate := fun (A : Option Addr) (cp : Nat) (hcp : 1 ≤ cp) (W : World) (hW : Rdy W) (hl : Lies (fun _ => False) W A (secs [S0])) => pres_nil A cp [S0] (by simp) hcp (accOf 1) (purOf p) (chOf 1) (plainL (purOf p) (ten10 (d7 3))) (plain_len _ _) (E + mm) hone W hW hl _ (hpl _)
  unfold secOf zeroV secV at hlate
  simp only [secOf_some] at hpres
  unfold plOf at HAT
  generalize ba (plainL (purOf p) (ten10 (d7 3))) = PL at HAT hpres hlate
  have HPRES := Lib.hid hpres
  have HLATE := Lib.hid hlate
  have HEX := Lib.hid hex
  have hsw1 : Va.sweep [S0] E = [] := by unfold Va.sweep; simp; omega
  have hsw2 : Va.sweep [S0] (E - 1) = [S0] := by unfold Va.sweep; simp; omega
  have HSW1 := Lib.hid (fun (A : Option Addr) (cp : Nat) (hcp : 1 ≤ cp) (W : World) (hl : Lies (fun _ => False) W A (secs [S0])) => sweep_any A cp [S0] (by simp) hcp E W hl)
  have HSW2 := Lib.hid (fun (A : Option Addr) (cp : Nat) (hcp : 1 ≤ cp) (W : World) (hl : Lies (fun _ => False) W A (secs [S0])) => sweep_any A cp [S0] (by simp) hcp (E - 1) W hl)
  rw [hsw1] at HSW1
  rw [hsw2] at HSW2
  have HR := Lib.hid hR
  have hE1 : 30 ≤ E := by omega
  have hE2 : E ≤ 2000000 := by omega
  have hmm0 : 0 ≤ mm ∧ mm ≤ 255 := by omega
  have hw0 : IntKind.i64.wrap (t0 + 6) = t0 + 6 := by rw [IntKind.wrap_i64]; omega
  have hw1 : IntKind.i64.wrap (1 + p) = 1 + p := by rw [IntKind.wrap_i64]; omega
  have hw2 : IntKind.i64.wrap ((n : Int) + L) = E := by rw [IntKind.wrap_i64]; omega
  have hw3 : IntKind.i64.wrap (E - 1) = E - 1 := by rw [IntKind.wrap_i64]; omega
  have hw4 : IntKind.i64.wrap (E + mm) = E + mm := by rw [IntKind.wrap_i64]; omega
  clear hsec hput hpres hlate hpr hpl hone hrt hex hch hkey hdig hp1 hsw1 hsw2 hR hE hpur hlife hmm hm hn
  go_enter Tryz.func8, Tryz.ntmps8
  go_wp2_with fail
  have hb0 : Below w.heap.size w (w.alloc (.cells #[.int .i64 q0, .int .i64 q1] 68)) := (Below.refl _ w).alloc (Nat.le_refl _) _
  have hq0 := Blk.new w 68 #[.int .i64 q0, .int .i64 q1]
  refine (HAW.out _ (HR.out.next hb0)).mono ?_
  rintro e wa ⟨rfl, hb⟩
  have HQa := Lib.hid (hq0.of (hb.block _ hq0.lt))
  have HBa := Lib.hid (hb0.trans (hb.mono hb0.size))
  clear hb hb0 hq0
  have y0 : ∀ o, (wa.alloc o).cell? ⟨w.heap.size, 0, none⟩ = some (.int .i64 q0) := fun o => ((HQa.out.alloc o).cell 0).trans rfl
  have HQb0 := Lib.hid (HQa.out.alloc (.cells #[.int .i64 1, .int .i64 p, .int .i64 1, .int .i64 3] 35))
  have HBb0 := Lib.hid (HBa.out.alloc HBa.out.size (.cells #[.int .i64 1, .int .i64 p, .int .i64 1, .int .i64 3] 35))
  have HNb0 := Lib.hid (Blk.new wa 35 #[.int .i64 1, .int .i64 p, .int .i64 1, .int .i64 3])
  go_wp2_with fail
  refine (HSE.out _).mono ?_
  rintro e wb ⟨rfl, hb⟩
  have HQb := Lib.hid (HQb0.out.of (hb.block _ HQb0.out.lt))
  have HNb := Lib.hid (HNb0.out.of (hb.block _ HNb0.out.lt))
  have HBb := Lib.hid (HBb0.out.trans (hb.mono HBb0.out.size))
  clear hb HQb0 HNb0 HBb0 y0
  go_wp2_with fail
  refine (HPUT.out _ (HR.out.next HBb.out).max (Lies.none _ _)).mono ?_
  rintro e wc ⟨⟨v, rfl, hv⟩, hb⟩
  obtain ⟨A, cp, rfl, hcp, hA⟩ : ∃ A cp, v = .slice A 1 cp ∧ 1 ≤ cp ∧ Lies (fun _ => False) wc A (secs [S0]) := hv.weaker (fun _ h => h.elim)
  have HAc := Lib.hid hA
  have HQc := Lib.hid (HQb.out.of (hb.block _ HQb.out.lt))
  have HNc := Lib.hid (HNb.out.of (hb.block _ HNb.out.lt))
  have HBc := Lib.hid (HBb.out.trans (hb.mono HBb.out.size))
  clear hb hv hA HQb HNb HBb
  go_wp2_with fail
  refine (HLF.out _).mono ?_
  rintro e _ ⟨rfl, rfl⟩
  have n0 : wc.cell? ⟨wa.heap.size, 0, none⟩ = some (.int .i64 1) := (HNc.out.cell 0).trans rfl
  have n1 : wc.cell? ⟨wa.heap.size, 1, none⟩ = some (.int .i64 p) := (HNc.out.cell 1).trans rfl
  have n2 : wc.cell? ⟨wa.heap.size, 2, none⟩ = some (.int .i64 1) := (HNc.out.cell 2).trans rfl
  have n3 : wc.cell? ⟨wa.heap.size, 3, none⟩ = some (.int .i64 3) := (HNc.out.cell 3).trans rfl
  go_wp2_with fail
  refine (HAT.out _).mono ?_
  rintro e wd ⟨rfl, hb⟩
  have HAd := Lib.hid (HAc.out.below hb)
  have HQd := Lib.hid (HQc.out.of (hb.block _ HQc.out.lt))
  have HNd := Lib.hid (HNc.out.of (hb.block _ HNc.out.lt))
  have HBd := Lib.hid (HBc.out.trans (hb.mono HBc.out.size))
  clear hb n0 n1 n2 n3 HAc HQc HNc HBc
  go_wp2_with fail
  refine (HPRES.out A cp hcp wd (HR.out.next HBd.out) HAd.out).mono ?_
  rintro e we ⟨⟨v, rfl, hv⟩, hb⟩
  obtain ⟨Ax, cx, rfl, _, _⟩ : ∃ A cp, v = .slice A 0 cp ∧ 0 ≤ cp ∧ Lies (fun b => b < wd.heap.size) we A (secs []) := hv
  have HAe := Lib.hid (HAd.out.below hb)
  have HQe := Lib.hid (HQd.out.of (hb.block _ HQd.out.lt))
  have HNe := Lib.hid (HNd.out.of (hb.block _ HNd.out.lt))
  have HBe := Lib.hid (HBd.out.trans (hb.mono HBd.out.size))
  clear hb HAd HQd HNd HBd
  go_upto_region 10 with fail
  generalize hV : World.alloc we (.cells #[.string S0.digest, .int .i64 S0.account, .int .i64 S0.purpose, .string S0.channel, .int .i64 S0.expires, .int .i64 S0.tries] 26) = w5
  have HG5 := Lib.hid (show Blk w5 we.heap.size 26 #[.string S0.digest, .int .i64 S0.account, .int .i64 S0.purpose, .string S0.channel, .int .i64 S0.expires, .int .i64 S0.tries] by rw [← hV]; exact Blk.new we _ _)
  have HQ5 := Lib.hid (show Blk w5 w.heap.size 68 #[.int .i64 q0, .int .i64 q1] by rw [← hV]; exact HQe.out.alloc _)
  have HN5 := Lib.hid (show Blk w5 wa.heap.size 35 #[.int .i64 1, .int .i64 p, .int .i64 1, .int .i64 3] by rw [← hV]; exact HNe.out.alloc _)
  have HB5 := Lib.hid (show Below w.heap.size w w5 by rw [← hV]; exact HBe.out.alloc HBe.out.size _)
  have HA5 := Lib.hid (show Lies (fun _ => False) w5 A (secs [S0]) by rw [← hV]; exact HAe.out.below ((Below.refl _ we).alloc (Nat.le_refl _) _))
  clear hV HQe HNe HBe HAe
  generalize we.heap.size = g13 at HG5 ⊢
  have HPL : Hid (∀ W, Kept (fun _ => False) w5 W → Calls Tryz.prog 16 #[.pointer none, .slice A 1 cp, .agg #[.int .i64 (accOf 1), .int .i64 (purOf p), .string (chOf 1), .string PL], .int .i64 (E + mm)] W fun e w' => ∃ v, e = .returned v ∧ (∃ a c, v = .tuple #[.slice a 0 c, .agg #[.string ⟨#[]⟩, .int .i64 0, .int .i64 0, .string ⟨#[]⟩, .int .i64 0, .int .i64 0], .int .i64 19]) ∧ Below W.heap.size W w') := Lib.hid (fun W hW => by
    have hbl := Kept.below (Below.refl w5.heap.size w5) hW (fun _ h => h.elim) (Nat.le_refl _)
    refine (HLATE.out A cp hcp W (HR.out.next (HB5.out.trans (hbl.mono HB5.out.size))) (HA5.out.below hbl)).mono ?_
    rintro e w' ⟨⟨v, rfl, hv⟩, hb⟩
    obtain ⟨a, c, rfl, _, _⟩ : ∃ A cp, v = .slice A 0 cp ∧ 0 ≤ cp ∧ Lies (fun b => b < W.heap.size) w' A (secs []) := hv
    exact ⟨_, rfl, ⟨a, c, rfl⟩, hb⟩)
  refine wp_region_some (by kernel_rfl) (fun i v _ => Vl10 A cp p PL E mm q1 (w.heap.size) i v) (Gv (fun _ => False) (fun _ _ => True) w5 0 26 zeroV #[.string ⟨#[]⟩, .int .i64 0, .int .i64 0, .string ⟨#[]⟩, .int .i64 0, .int .i64 0] 999 13 15 16) (fun _ _ => True) (by kernel_rfl) (by kernel_rfl) 110 rfl (by kernel_rfl) (fun _ _ _ _ h _ => by exact h) (fun _ => trivial) (by exact Gv.start trivial stays_none 17 _) ?_ ?_
  · intro i o ho listed x W hs hdep hun hg hk
    match i, ho with
    | 0, ho =>
      cases ho
      have q9 : x.tmps[9]?.getD undef = .slice A 1 cp := hk.fix 9 (by kernel_rfl)
      refine .inl ⟨wanted_plain rfl, ?_⟩
      refine wp_value (v := .slice A 1 cp) (w' := W) ?_ ⟨_, rfl, rfl, trivial, hg.quiet 0 (by decide) (by decide) (by decide) (some 53) (by decide) _⟩
      go_simp
    | 1, ho =>
      cases ho
      have q7 : x.tmps[7]?.getD undef = .pointer (some ⟨(wa.heap.size), 0, none⟩) := hk.fix 7 (by kernel_rfl)
      refine .inl ⟨wanted_plain rfl, ?_⟩
      refine wp_value (run_load_op _ _ rfl _ ((eval_slot x 7).trans q7) _ _ ((HN5.out.of (hg.kept.block _ HN5.out.lt (fun h => h)))) _ Tryz.underlying35 rfl four_size) ⟨_, rfl, rfl, trivial, hg.quiet 1 (by decide) (by decide) (by decide) (some 54) (by decide) _⟩
    | 2, ho =>
      cases ho
      have q54 : x.tmps[54]?.getD undef = .agg #[.int .i64 1, .int .i64 p, .int .i64 1, .int .i64 3] := hk.dep 1 54 (by kernel_rfl) (by kernel_rfl)
      refine .inl ⟨wanted_plain rfl, ?_⟩
      refine wp_enter (f := 17) (args := #[.agg #[.int .i64 1, .int .i64 p, .int .i64 1, .int .i64 3]]) (w' := W) (S := fun v w1 => v = .agg #[.int .i64 (accOf 1), .int .i64 (purOf p), .string (chOf 1), .string PL] ∧ Below W.heap.size W w1) ?_ ((HAT.out W).mono fun e w' h => ⟨_, h.1, rfl, h.2⟩) ?_
      · go_simp
      · rintro v W' ⟨rfl, hb⟩
        exact ⟨_, rfl, rfl, trivial, hg.calls stays_none hb 2 (by decide) (by decide) (by decide) (some 55) (by decide) _⟩
    | 3, ho =>
      cases ho
      have q11 : x.tmps[11]?.getD undef = .int .i64 E := hk.fix 11 (by kernel_rfl)
      refine .inl ⟨wanted_plain rfl, ?_⟩
      refine wp_value (v := .int .i64 E) (w' := W) ?_ ⟨_, rfl, rfl, trivial, hg.quiet 3 (by decide) (by decide) (by decide) (some 56) (by decide) _⟩
      go_simp
    | 4, ho =>
      cases ho
      have q3 : x.tmps[3]?.getD undef = .pointer (some ⟨(w.heap.size), 0, none⟩) := hk.fix 3 (by kernel_rfl)
      refine .inl ⟨wanted_plain rfl, ?_⟩
      refine wp_value (v := .pointer (some ⟨(w.heap.size), 1, none⟩)) (w' := W) ?_ ⟨_, rfl, rfl, trivial, hg.quiet 4 (by decide) (by decide) (by decide) (some 57) (by decide) _⟩
      go_simp
    | 5, ho =>
      cases ho
      have q57 : x.tmps[57]?.getD undef = .pointer (some ⟨(w.heap.size), 1, none⟩) := hk.dep 4 57 (by kernel_rfl) (by kernel_rfl)
      refine .inl ⟨wanted_plain rfl, ?_⟩
      have cf : W.cell? ⟨(w.heap.size), 1, none⟩ = some (.int .i64 q1) := ((HQ5.out.of (hg.kept.block _ HQ5.out.lt (fun h => h))).cell 1).trans rfl
      refine wp_value (v := .int .i64 q1) (w' := W) ?_ ⟨_, rfl, rfl, trivial, hg.quiet 5 (by decide) (by decide) (by decide) (some 58) (by decide) _⟩
      go_simp
    | 6, ho =>
      cases ho
      have q58 : x.tmps[58]?.getD undef = .int .i64 q1 := hk.dep 5 58 (by kernel_rfl) (by kernel_rfl)
      refine .inl ⟨wanted_plain rfl, ?_⟩
      refine wp_value (v := .int .i64 mm) (w' := W) ?_ ⟨_, rfl, rfl, trivial, hg.quiet 6 (by decide) (by decide) (by decide) (some 59) (by decide) _⟩
      go_simp
    | 7, ho =>
      cases ho
      have q56 : x.tmps[56]?.getD undef = .int .i64 E := hk.dep 3 56 (by kernel_rfl) (by kernel_rfl)
      have q59 : x.tmps[59]?.getD undef = .int .i64 mm := hk.dep 6 59 (by kernel_rfl) (by kernel_rfl)
      refine .inl ⟨wanted_plain rfl, ?_⟩
      refine wp_value (v := .int .i64 (E + mm)) (w' := W) ?_ ⟨_, rfl, rfl, trivial, hg.quiet 7 (by decide) (by decide) (by decide) (some 60) (by decide) _⟩
      go_simp
    | 8, ho =>
      cases ho
      have q53 : x.tmps[53]?.getD undef = .slice A 1 cp := hk.dep 0 53 (by kernel_rfl) (by kernel_rfl)
      have q55 : x.tmps[55]?.getD undef = .agg #[.int .i64 (accOf 1), .int .i64 (purOf p), .string (chOf 1), .string PL] := hk.dep 2 55 (by kernel_rfl) (by kernel_rfl)
      have q60 : x.tmps[60]?.getD undef = .int .i64 (E + mm) := hk.dep 7 60 (by kernel_rfl) (by kernel_rfl)
      refine .inl ⟨wanted_plain rfl, ?_⟩
      refine wp_enter (f := 16) (args := #[.pointer none, .slice A 1 cp, .agg #[.int .i64 (accOf 1), .int .i64 (purOf p), .string (chOf 1), .string PL], .int .i64 (E + mm)]) (w' := W) (S := fun v w1 => (∃ a c, v = .tuple #[.slice a 0 c, .agg #[.string ⟨#[]⟩, .int .i64 0, .int .i64 0, .string ⟨#[]⟩, .int .i64 0, .int .i64 0], .int .i64 19]) ∧ Below W.heap.size W w1) ?_ (HPL.out W hg.kept) ?_
      · go_simp
      · rintro v W' ⟨hv, hb⟩
        exact ⟨_, rfl, hv, trivial, hg.calls stays_none hb 8 (by decide) (by decide) (by decide) (some 61) (by decide) _⟩
    | 9, ho =>
      cases ho
      refine .inl ⟨wanted_plain rfl, ?_⟩
      obtain ⟨a, c, q61⟩ : ∃ a c, x.tmps[61]?.getD undef = .tuple #[.slice a 0 c, .agg #[.string ⟨#[]⟩, .int .i64 0, .int .i64 0, .string ⟨#[]⟩, .int .i64 0, .int .i64 0], .int .i64 19] := hk.dep 8 61 (by kernel_rfl) (by kernel_rfl)
      refine wp_value (v := .tuple #[.slice a 0 c, .agg #[.string ⟨#[]⟩, .int .i64 0, .int .i64 0, .string ⟨#[]⟩, .int .i64 0, .int .i64 0], .int .i64 19]) (w' := W) ?_ ⟨_, rfl, ⟨a, c, rfl⟩, trivial, hg.quiet 9 (by decide) (by decide) (by decide) (some 52) (by decide) _⟩
      go_simp
    | 10, ho =>
      cases ho
      refine .inl ⟨wanted_plain rfl, ?_⟩
      obtain ⟨a, c, q52⟩ : ∃ a c, x.tmps[52]?.getD undef = .tuple #[.slice a 0 c, .agg #[.string ⟨#[]⟩, .int .i64 0, .int .i64 0, .string ⟨#[]⟩, .int .i64 0, .int .i64 0], .int .i64 19] := hk.dep 9 52 (by kernel_rfl) (by kernel_rfl)
      refine wp_value (v := .slice a 0 c) (w' := W) ?_ ⟨_, rfl, ⟨a, c, rfl⟩, trivial, hg.quiet 10 (by decide) (by decide) (by decide) (some 62) (by decide) _⟩
      go_simp
    | 11, ho =>
      cases ho
      refine .inl ⟨wanted_plain rfl, ?_⟩
      obtain ⟨a, c, q52⟩ : ∃ a c, x.tmps[52]?.getD undef = .tuple #[.slice a 0 c, .agg #[.string ⟨#[]⟩, .int .i64 0, .int .i64 0, .string ⟨#[]⟩, .int .i64 0, .int .i64 0], .int .i64 19] := hk.dep 9 52 (by kernel_rfl) (by kernel_rfl)
      refine wp_value (v := .agg #[.string ⟨#[]⟩, .int .i64 0, .int .i64 0, .string ⟨#[]⟩, .int .i64 0, .int .i64 0]) (w' := W) ?_ ⟨_, rfl, rfl, trivial, hg.quiet 11 (by decide) (by decide) (by decide) (some 63) (by decide) _⟩
      go_simp
    | 12, ho =>
      cases ho
      refine .inl ⟨wanted_plain rfl, ?_⟩
      obtain ⟨a, c, q52⟩ : ∃ a c, x.tmps[52]?.getD undef = .tuple #[.slice a 0 c, .agg #[.string ⟨#[]⟩, .int .i64 0, .int .i64 0, .string ⟨#[]⟩, .int .i64 0, .int .i64 0], .int .i64 19] := hk.dep 9 52 (by kernel_rfl) (by kernel_rfl)
      refine wp_value (v := .int .i64 19) (w' := W) ?_ ⟨_, rfl, rfl, trivial, hg.quiet 12 (by decide) (by decide) (by decide) (some 64) (by decide) _⟩
      go_simp
    | 13, ho =>
      cases ho
      refine .inl ⟨wanted_plain rfl, ?_⟩
      refine wp_value (run_alloc_op 26 rfl zeroV (made_zero W)) ⟨_, rfl, .inl trivial, trivial, Gv.made stays_none hg hun (by rw [hs]; decide) (by decide) (by decide) (Nat.lt_of_lt_of_eq (by decide : 16 < 110) (hk.size.trans rfl).symm)⟩
    | 14, ho =>
      cases ho
      refine .inl ⟨wanted_plain rfl, ?_⟩
      obtain ⟨a, c, q62⟩ : ∃ a c, x.tmps[62]?.getD undef = .slice a 0 c := hk.dep 10 62 (by kernel_rfl) (by kernel_rfl)
      refine wp_value (v := .slice a 0 c) (w' := W) ?_ ⟨_, rfl, ⟨a, c, rfl⟩, trivial, hg.quiet 14 (by decide) (by decide) (by decide) (some 15) (by decide) _⟩
      go_simp
    | 15, ho =>
      cases ho
      have q63 : x.tmps[63]?.getD undef = .agg #[.string ⟨#[]⟩, .int .i64 0, .int .i64 0, .string ⟨#[]⟩, .int .i64 0, .int .i64 0] := hk.dep 11 63 (by kernel_rfl) (by kernel_rfl)
      refine .inl ⟨wanted_plain rfl, ?_⟩
      have hla := hdep 13 (by kernel_rfl)
      obtain ⟨g, e0, hg1, hg2⟩ := hg.var hla
      have hni : ¬ (listed.getD 15 false = true) := by rw [hun]; decide
      rw [if_neg hni] at hg2
      refine wp_skip (w' := W.setRow g #[.string ⟨#[]⟩, .int .i64 0, .int .i64 0, .string ⟨#[]⟩, .int .i64 0, .int .i64 0]) ?_ ⟨undef, rfl, rfl, trivial, Gv.stored stays_none (fun _ h => h.elim) hg hla (by rw [hs]; decide) (by decide) (by decide) g hg1 e0 zeroV hg2 undef⟩
      exact run_store_op 26 _ _ rfl g #[.string ⟨#[]⟩, .int .i64 0, .int .i64 0, .string ⟨#[]⟩, .int .i64 0, .int .i64 0] ((eval_slot x 16).trans e0) ((eval_slot x 63).trans q63) 26 zeroV hg2 sec_size rfl (by simp [Value.oneCell'])
    | 16, ho =>
      cases ho
      have q64 : x.tmps[64]?.getD undef = .int .i64 19 := hk.dep 12 64 (by kernel_rfl) (by kernel_rfl)
      refine .inl ⟨wanted_plain rfl, ?_⟩
      refine wp_value (v := .int .i64 19) (w' := W) ?_ ⟨_, rfl, rfl, trivial, hg.quiet 16 (by decide) (by decide) (by decide) (some 17) (by decide) _⟩
      go_simp
    | _ + 17, ho => cases ho
  intro listed x w6 hall hg hk
  obtain ⟨g16, e16, hg16, hx16⟩ := hg.var (hall 13 (by decide))
  rw [if_pos (hall 15 (by decide))] at hx16
  have e53 : x.tmps[53]?.getD undef = .slice A 1 cp := hk.last 0 53 (by decide) (by kernel_rfl)
  have e54 : x.tmps[54]?.getD undef = .agg #[.int .i64 1, .int .i64 p, .int .i64 1, .int .i64 3] := hk.last 1 54 (by decide) (by kernel_rfl)
  have e55 : x.tmps[55]?.getD undef = .agg #[.int .i64 (accOf 1), .int .i64 (purOf p), .string (chOf 1), .string PL] := hk.last 2 55 (by decide) (by kernel_rfl)
  have e56 : x.tmps[56]?.getD undef = .int .i64 E := hk.last 3 56 (by decide) (by kernel_rfl)
  have e57 : x.tmps[57]?.getD undef = .pointer (some ⟨(w.heap.size), 1, none⟩) := hk.last 4 57 (by decide) (by kernel_rfl)
  have e58 : x.tmps[58]?.getD undef = .int .i64 q1 := hk.last 5 58 (by decide) (by kernel_rfl)
  have e59 : x.tmps[59]?.getD undef = .int .i64 mm := hk.last 6 59 (by decide) (by kernel_rfl)
  have e60 : x.tmps[60]?.getD undef = .int .i64 (E + mm) := hk.last 7 60 (by decide) (by kernel_rfl)
  have e63 : x.tmps[63]?.getD undef = .agg #[.string ⟨#[]⟩, .int .i64 0, .int .i64 0, .string ⟨#[]⟩, .int .i64 0, .int .i64 0] := hk.last 11 63 (by decide) (by kernel_rfl)
  have e64 : x.tmps[64]?.getD undef = .int .i64 19 := hk.last 12 64 (by decide) (by kernel_rfl)
  have e17 : x.tmps[17]?.getD undef = .int .i64 19 := hk.last 16 17 (by decide) (by kernel_rfl)
  have hv15 : ∃ a c, x.tmps[15]?.getD undef = .slice a 0 c := hk.last 14 15 (by decide) (by kernel_rfl)
  obtain ⟨z52, hz52⟩ : ∃ z, x.tmps[52]?.getD undef = z := ⟨_, rfl⟩
  obtain ⟨z61, hz61⟩ : ∃ z, x.tmps[61]?.getD undef = z := ⟨_, rfl⟩
  obtain ⟨z62, hz62⟩ : ∃ z, x.tmps[62]?.getD undef = z := ⟨_, rfl⟩
  obtain ⟨z15, hz15⟩ : ∃ z, x.tmps[15]?.getD undef = z := ⟨_, rfl⟩
  rw [hz15] at hv15
  have hkp := Lib.hid hg.kept
  have hx := hk.act [53, 54, 55, 56, 57, 58, 59, 60, 61, 52, 62, 63, 64, 16, 15, 17] (by kernel_rfl)
  clear hk hg hall
  simp only [List.foldl_cons, List.foldl_nil, e53, e54, e55, e56, e57, e58, e59, e60, e63, e64, e17, e16, hz52, hz61, hz62, hz15] at hx
  clear e53 e54 e55 e56 e57 e58 e59 e60 e63 e64 e17 e16 hz52 hz61 hz62 hz15
  subst hx
  simp only [Act.put, List.setIfInBounds_toArray, List.set_cons_succ, List.set_cons_zero]
  obtain ⟨ay, cy, rfl⟩ := hv15
  have hb6 := Kept.below (Below.refl w5.heap.size w5) hkp.out (fun _ h => h.elim) (Nat.le_refl _)
  have HA6 := Lib.hid (HA5.out.below hb6)
  have HB6 := Lib.hid (HB5.out.trans (hb6.mono HB5.out.size))
  have hg6 := HG5.out.of (hb6.block _ HG5.out.lt)
  have x4 : w6.cell? ⟨g13, 4, none⟩ = some (.int .i64 E) := by rw [← HEX.out]; exact (hg6.cell 4).trans rfl
  have u1 : w6.cell? ⟨g16, 1, none⟩ = some (.int .i64 0) := (hx16.cell 1).trans rfl
  clear hkp hb6 hg6 hx16 hg16
  go_wp2_with fail
  refine (HSW1.out A cp hcp w6 HA6.out).mono ?_
  rintro e w7 ⟨⟨v, rfl, hv⟩, hb⟩
  obtain ⟨a7, c7, rfl, _, _⟩ : ∃ A cp, v = .slice A 0 cp ∧ 0 ≤ cp ∧ Lies (fun b => b < w6.heap.size) w7 A (secs []) := hv
  have HA7 := Lib.hid (HA6.out.below hb)
  have HB7 := Lib.hid (HB6.out.trans (hb.mono HB6.out.size))
  clear hb
  go_wp2_with fail
  refine (HSW2.out A cp hcp w7 HA7.out).mono ?_
  rintro e w8 ⟨⟨v, rfl, hv⟩, hb⟩
  obtain ⟨a8, c8, rfl, _, _⟩ : ∃ A cp, v = .slice A 1 cp ∧ 1 ≤ cp ∧ Lies (fun b => b < w7.heap.size) w8 A (secs [S0]) := hv
  have HB8 := Lib.hid (HB7.out.trans (hb.mono HB7.out.size))
  clear hb
  go_wp2_with fail
  go_ret
  exact ⟨rfl, HB8.out⟩

/-! ### The row -/
set_option maxRecDepth 100000 in
theorem contract (H : Type) (enc : TypeId × Value → H) (W : World) (base : Nat) (args : Array Value) (ds gs : List (DataW H)) (before : List MemPlace)
    (hval : ∀ (j : Nat) t v, Tryz.f8.params[j]? = some t → args[j]? = some v → Value.okWide Tryz.prog W .any base t v)
    (hW : DataW.Whole enc Tryz.prog Tryz.f8.params.toList Rows.vaultLateSpec.vars false W args.toList ds gs before) (hL : laidMet Tryz.prog Rows.vaultLateRow.laid W) (hS : W.ShapedOpen Tryz.prog) :
    Calls Tryz.prog 8 args W fun e W' => ∃ v, e = .returned v ∧ Rows.vaultLateSpec.post enc Tryz.prog Tryz.f8 false true false false W args v W' := by
  have hW' := hW
  obtain ⟨p, q, hA0, hV, rfl, hfz, hnd⟩ := hW
  have hA : DataW.TrodAll enc Tryz.prog W 0 (fun _ => true) true Tryz.f8.params.toList args.toList ds p := hA0
  rw [Tryz.params8] at hA hval
  obtain ⟨v0, vs0, d0, ds0, p0, q0, hargs, rfl, rfl, h0, r0⟩ := trodAll_cons hA
  obtain ⟨v1, vs1, d1, ds1, p1, q1, rfl, rfl, rfl, h1, r1⟩ := trodAll_cons r0
  obtain ⟨rfl, rfl, rfl⟩ := trodAll_nil r1
  obtain rfl : args = #[v0, v1] := by cases args; simp_all
  obtain ⟨rfl, rfl⟩ := trodVars_none hV
  refine law_contract (tb := 4) laidOut (by kernel_rfl) rfl (by kernel_rfl) Tryz.underlying4 rfl hW' ?_
  clear hA0 hW' hA
  obtain ⟨a0, rfl, rfl, rfl, w0⟩ := open_int Tryz.underlying3 (hval 0 3 v0 rfl rfl) h0
  obtain ⟨zs, rfl, hz, _⟩ := open_array Tryz.underlying68 Tryz.underlying3 cells_i (by kernel_rfl) (hval 1 68 v1 rfl rfl) h1
  match zs, hz with
  | [z0, z1], _ =>
    exact walk a0 z0 z1 W (rdy_of (tab_CubeRoots (laidMet.tail hL)) (tab_SquareRoots (laidMet.tail (laidMet.tail hL))) hS)

theorem laid_met (os : Os) : laidMet Tryz.prog Rows.vaultLateRow.laid ((laidWorld os).forCall (fun _ _ => 0) ⟨#[], #[.int .i64 0, .agg #[.int .i64 0, .int .i64 0]], []⟩).memory :=
  laidMet_of_run' 8 (by kernel_rfl) (by kernel_rfl)
theorem reads (os : Os) {H : Type} (enc : TypeId × Value → H) : ∃ places, DataW.whole enc Tryz.prog ((laidWorld os).forCall (fun _ _ => 0) ⟨#[], #[.int .i64 0, .agg #[.int .i64 0, .int .i64 0]], []⟩).memory Tryz.f8.params.toList Rows.vaultLateSpec.vars false (#[.int .i64 0, .agg #[.int .i64 0, .int .i64 0]] : Array Value).toList 8 = some ([.lit (.int .i64 0), .agg [.lit (.int .i64 0), .lit (.int .i64 0)]], [], places) :=
  ⟨[], by kernel_rfl⟩

set_option maxRecDepth 100000 in
theorem lifted (os : Os) (started : os.Started) (H : Type) (enc : TypeId × Value → H) (F : Stop.Interp) :
    ReturnsInHanded {} Tryz.checked os 8 .any ((OpenSpec.ofChange Rows.vaultLateSpec).preRow enc Tryz.prog Tryz.f8 Rows.vaultLateRow.domain false Rows.vaultLateRow.laid) (((OpenSpec.ofChange Rows.vaultLateSpec).at F).post enc Tryz.prog Tryz.f8 false true false false) := by
  obtain ⟨places, hx⟩ := reads os enc
  refine returnsInHanded_of_row (C := Tryz.checked) (s := OpenSpec.ofChange Rows.vaultLateSpec) own started (by kernel_rfl) Tryz.func8
    (witness_row_at (enc := enc) (C := Tryz.checked) false (laidWorld os) #[.int .i64 0, .agg #[.int .i64 0, .int .i64 0]] rfl (by kernel_rfl) (by kernel_rfl) (by kernel_rfl)
      (OpenSpec.preRow_of_cond 8 hx (by kernel_rfl) (fun k hk => by cases hk) (by kernel_rfl) (laid_met os))) ?_
  intro W base args ds gs before hval hW _ _ _ hL hS _
  exact contract H enc W base args ds gs before hval hW hL hS

theorem said : Rows.VaultLateSaid :=
  OpenClaim.holds_of_cond 8 Tryz.f8 rfl rfl rfl rfl rfl rfl rfl ⟨rfl, rfl, rfl, rfl, rfl⟩ rfl rfl rfl rfl rfl (by kernel_rfl) Tryz.func8 (by kernel_rfl)
    (of_decide_eq_true (by kernel_rfl)) (by unfold Func.isWrapper; first | (rw [if_pos (by decide +kernel)]; kernel_rfl) | (rw [if_neg (by decide +kernel)]; exact ⟨rfl, rfl⟩))
    (fun os started H enc _ F => by rw [OpenClaim.pre_eq_preRow]; exact lifted os started H enc F)

theorem plain (f : FuncId) (fn : Func) (hf : Tryz.pinned.checked.prog.funcNamed "homecoming/homecominglaw11.VaultLate" = some f) (hfn : Tryz.pinned.checked.prog.funcs[f]? = some fn) :
    false = Tryz.pinned.checked.prog.looks [] ∧ ∀ (j : Nat) t, fn.params[j]? = some t → Tryz.pinned.checked.prog.wantsStandIn t = false := by
  obtain rfl : f = 8 := Option.some.inj ((show Tryz.prog.funcNamed "homecoming/homecominglaw11.VaultLate" = some 8 by kernel_rfl).symm.trans hf) |>.symm
  obtain rfl : fn = Tryz.f8 := (Option.some.inj (Tryz.func8.symm.trans hfn)).symm
  refine ⟨by kernel_rfl, fun j t ht => ?_⟩
  have hall : (Tryz.f8.params.toList.all fun u => !Tryz.prog.wantsStandIn u) = true := by kernel_rfl
  have hm : t ∈ Tryz.f8.params.toList := by simpa using Array.mem_of_getElem? ht
  exact (show Tryz.prog.wantsStandIn t = false by simpa using List.all_eq_true.1 hall t hm)

/-- THE STATEMENT. -/
theorem card : Rows.VaultLateCardSaid :=
  Claim7.holds_tied_plain_at .later [] _ _ _ _ said (fun _ h => by cases h) (by kernel_rfl) (fun _ h => by cases h) vaultLate_row_tie rfl ⟨rfl, rfl⟩ (by kernel_rfl) rfl plain (by kernel_rfl)
#print axioms card
end Go.Proofs.YtfjdcopndkdbmaaGreatDoor.vaultLate
