/-
  Proves the statement of VaultTries: for every purpose, every slice of texts and every place the law returns true (of one secret no more attempts are wrong than it has tries; the last one of them takes it away), and its arguments read as they did. Conditions: the package-level tables acceptRanges and first of the library and cubeRoots and squareRoots of package sha hold what their texts lay.
-/
import Derived.Test.YtfjdcopndkdbmaaGreatDoorVtW
import Derived.Test.YtfjdcopndkdbmaaGreatDoorShort11
import Derived.Test.YtfjdcopndkdbmaaGreatDoorTabs
import Derived.Test.YtfjdcopndkdbmaaGreatDoorCards
import Derived.Test.YtfjdcopndkdbmaaGreatDoorTie
namespace Go.Proofs.YtfjdcopndkdbmaaGreatDoor.vaultTries
open Go.ChangeShapes Go.WideShapes Go.ChangeAt Go.RowKit
open Go.ChangeMaps (open_string shut_string)

/-- What each operation of the drawn statement leaves. -/
def Vt14 (gs : Nat) (ga : Nat) (p : Int) (CL : ByteArray) (DG : ByteArray) (S0 : Va.Sec) (bq : Bool) : Nat → Value → Prop
  | 0, v => v = .pointer (some ⟨ga, 1, none⟩)
  | 1, v => v = .int .i64 (purOf p)
  | 2, v => v = .pointer (some ⟨ga, 3, none⟩)
  | 3, v => v = .string CL
  | 4, v => v = .string DG
  | 5, v => v = .pointer (some ⟨gs, 0, none⟩)
  | 6, v => v = .string S0.digest
  | 7, v => v = .bool bq
  | _, _ => True
set_option maxRecDepth 100000 in
set_option maxHeartbeats 16000000 in
theorem walk (p0 at_ : Int) (A1 : Option Addr) (c1 : Nat) (ws : List ByteArray) (hws : ws.length ≤ maxLen) (hsz : ∀ s ∈ ws, s.size ≤ maxLen) (w : World) (hR : Rdy w) (hLw : Lies (fun _ => False) w A1 (cs ws)) :
    Calls Tryz.prog 5 #[.int .i64 p0, .slice A1 ws.length c1, .int .i64 at_] w fun e w' => e = .returned (.bool true) ∧ Below w.heap.size w w' := by
  obtain ⟨t0, p, e1, t1, t2, e2, hp0, hp6⟩ : ∃ t p : Int, p0.tmod 6 = t ∧ -6 ≤ t ∧ t ≤ 6 ∧ (t + 6).tmod 6 = p ∧ 0 ≤ p ∧ p < 6 := by
    have h1 := Int.tmod_lt_of_pos p0 (show (0 : Int) < 6 by omega)
    have h2 : -(6 : Int) < p0.tmod 6 := by
      have := Int.tmod_lt_of_pos (-p0) (show (0 : Int) < 6 by omega)
      rw [Int.neg_tmod] at this
      omega
    refine ⟨p0.tmod 6, _, rfl, by omega, by omega, rfl, Int.tmod_nonneg _ (by omega), Int.tmod_lt_of_pos _ (by omega)⟩
  obtain ⟨m, hm, em⟩ := and_mask at_ 3 7 (by decide) (by decide)
  rw [show (2 : Nat) ^ 3 = 8 by decide] at hm
  have hpur : purOf p = 1 + p := by unfold purOf; omega
  have HAW := Lib.hid (fun W h => awake_any W h)
  have hsec := fun W => secret_any 0 p 0 1 0 (by decide) W
  have HAT := Lib.hid (fun W => attempt_any 0 p 0 1 W)
  have hrt := sec_right 0 p 0 1 0
  have hlife := Mi.life_at (1 + p) (by omega)
  have hex : 1 < (secQ 0 p 0 1 0).expires := by rw [sec_expires, hpur, Mi.clock_low _ _ (by omega) (by omega) (by omega)]; omega
  have hch : (secQ 0 p 0 1 0).channel.size ≤ 50000 := ch_size 0
  have hkey := sec_key 0 p 0 1 0
  have hdig := sec_digest 0 p 0 1 0
  have htr := right_tries hrt
  have hp1 := put_first (secQ 0 p 0 1 0) hrt
  have hst := rowAt_start (secQ 0 p 0 1 0) (by omega)
  generalize secQ 0 p 0 1 0 = S0 at *
  rw [sec_row] at hsec
  have HSE := Lib.hid hsec
  have hput := fun W hW hW2 => put_any (S := fun _ => False) none 0 [] (by simp) (by simp) S0 hch W hW hW2
  rw [hp1] at hput
  have HPUT := Lib.hid hput
  have hpr := fun f : Nat => present_right S0 f 1 hex
  have hpw := fun (f : Nat) (d : ByteArray) hd => present_wrong S0 f 1 d hex hd
  rw [hkey] at hpr hpw
  have hright := fun (f : Nat) (A : Option Addr) (cp : Nat) (hcp : (rowAt S0 f).length ≤ cp) (W : World) (hW : Rdy W) (hl : Lies (fun _ => False) W A (secs (rowAt S0 f))) => pres_nil A cp (rowAt S0 f) (by have := rowAt_one S0 f; omega) hcp (accOf 0) (purOf p) (chOf 0) (plainL (purOf p) (ten10 (d7 1))) (plain_len _ _) 1 (rowAt_right hrt f) W hW hl (if (f : Int) < S0.tries then ([], some { S0 with tries := S0.tries - f }, 0) else ([], none, 12)) (by rw [← hdig]; exact hpr f)
  have hwrong := fun (f : Nat) (d : List UInt8) (hd : d.length ≤ 50000) (hne : S0.digest ≠ ba (digL (purOf p) d)) (A : Option Addr) (cp : Nat) (hcp : (rowAt S0 f).length ≤ cp) (W : World) (hW : Rdy W) (hl : Lies (fun _ => False) W A (secs (rowAt S0 f))) => pres_nil A cp (rowAt S0 f) (by have := rowAt_one S0 f; omega) hcp (accOf 0) (purOf p) (chOf 0) d hd 1 (rowAt_right hrt f) W hW hl _ (hpw f _ hne)
  have HDG := Lib.hid (fun (d : List UInt8) (hd : d.length ≤ 50000) W => rdigest_any (purOf p) d hd W)
  have HSH : Hid (∀ (s : ByteArray) (hs : s.size ≤ maxLen) (W : World), _) := Lib.hid (fun s hs W => short_any s 30 hs W)
  unfold secOf zeroV secV at hwrong
  unfold plOf at HAT
  generalize ba (plainL (purOf p) (ten10 (d7 1))) = PL at HAT hright
  have HRI := Lib.hid hright
  have HWR := Lib.hid hwrong
  have HST := Lib.hid hst
  have HR := Lib.hid hR
  have HLW := Lib.hid hLw
  have hw0 : IntKind.i64.wrap (t0 + 6) = t0 + 6 := by rw [IntKind.wrap_i64]; omega
  have hmi : (m : Int) ≤ 7 := by omega
  have hwl : (ws.length : Int) ≤ 9223372036854775807 := by unfold maxLen at hws; omega
  clear hsec hput hright hwrong hpr hpw hrt hex hch hkey hdig hp1 hst hR hpur hlife hm hLw hws
  go_enter Tryz.func5, Tryz.ntmps5
  go_wp2_with fail
  refine (HAW.out _ HR.out).mono ?_
  rintro e wa ⟨rfl, hb⟩
  have HBa := Lib.hid hb
  clear hb
  have HBb0 := Lib.hid (HBa.out.alloc HBa.out.size (.cells #[.int .i64 0, .int .i64 p, .int .i64 0, .int .i64 1] 35))
  have HNb0 := Lib.hid (Blk.new wa 35 #[.int .i64 0, .int .i64 p, .int .i64 0, .int .i64 1])
  go_wp2_with fail
  refine (HSE.out _).mono ?_
  rintro e wb ⟨rfl, hb⟩
  have HNb := Lib.hid ((HNb0.out.of (hb.block _ HNb0.out.lt)).alloc (.cells #[.string S0.digest, .int .i64 S0.account, .int .i64 S0.purpose, .string S0.channel, .int .i64 S0.expires, .int .i64 S0.tries] 26))
  have HBb := Lib.hid ((HBb0.out.trans (hb.mono HBb0.out.size)).alloc (by have h1 := HBb0.out.size; have h2 := hb.size; omega) (.cells #[.string S0.digest, .int .i64 S0.account, .int .i64 S0.purpose, .string S0.channel, .int .i64 S0.expires, .int .i64 S0.tries] 26))
  have HGb := Lib.hid (Blk.new wb 26 #[.string S0.digest, .int .i64 S0.account, .int .i64 S0.purpose, .string S0.channel, .int .i64 S0.expires, .int .i64 S0.tries])
  clear hb HNb0 HBb0
  go_wp2_with fail
  refine (HPUT.out _ (HR.out.next HBb.out).max (Lies.none _ _)).mono ?_
  rintro e wx ⟨⟨v, rfl, hv⟩, hb⟩
  have HV := Lib.hid (show Row (fun _ => False) (rowAt S0 0) v wx by rw [HST.out]; exact hv.weaker (fun _ h => h.elim))
  have HN := Lib.hid (HNb.out.of (hb.block _ HNb.out.lt))
  have HG := Lib.hid (HGb.out.of (hb.block _ HGb.out.lt))
  have HBX := Lib.hid (HBb.out.trans (hb.mono HBb.out.size))
  clear hb hv HNb HBb HGb HST
  go_wp2_with fail
  generalize wa.heap.size = gn at HN ⊢
  generalize wb.heap.size = gs at HG ⊢
  go_loopw [11, 13, 14, 15, 16, 17, 18, 19, 20, 21] (fun l kk ii _ _ _ _ _ _ _ wr => ∃ k i : Nat, kk = .int .i64 (k : Int) ∧ ii = .int .i64 (i : Int) ∧ k ≤ i ∧ i ≤ 20 ∧ i ≤ ws.length ∧ Row (fun _ => False) (rowAt S0 k) l wr ∧ Below wx.heap.size wx wr) (fun _ _ ii _ _ _ _ _ _ _ _ => 20 - (intOf ii).toNat)
  case atStart => exact ⟨0, 0, rfl, rfl, by omega, by omega, by omega, HV.out, Below.refl _ wx⟩
  case round =>
    obtain ⟨k, i, rfl, rfl, hki, hi20, hil, hrow, hB⟩ := hrel
    obtain ⟨A, cp, rfl, hcp, hA⟩ := hrow
    have HA := Lib.hid hA
    have HB := Lib.hid hB
    have HCP := Lib.hid hcp
    clear hA hB hcp
    have hk20 : (k : Int) ≤ 20 := by omega
    by_cases hlt : i < ws.length ∧ i < 20
    · obtain ⟨hl1, hl2⟩ := hlt
      have hi1 : (i : Int) < (ws.length : Int) := by omega
      have hi2 : (i : Int) < 20 := by omega
      obtain ⟨ad, hAd, hadl, _, hcell⟩ := (HLW.out.below HBX.out).below HB.out i _ (cs_get ws i hl1)
      subst hAd
      obtain ⟨S, hS⟩ : ∃ S, ws[i] = S := ⟨_, rfl⟩
      have hSz := hsz _ (List.getElem_mem hl1)
      rw [hS] at hcell hSz
      have hNr := HN.out.of (HB.out.block _ HN.out.lt)
      have HGr := Lib.hid (HG.out.of (HB.out.block _ HG.out.lt))
      have n0 : wr.cell? ⟨gn, 0, none⟩ = some (.int .i64 0) := (hNr.cell 0).trans rfl
      have n1 : wr.cell? ⟨gn, 1, none⟩ = some (.int .i64 p) := (hNr.cell 1).trans rfl
      have n2 : wr.cell? ⟨gn, 2, none⟩ = some (.int .i64 0) := (hNr.cell 2).trans rfl
      have n3 : wr.cell? ⟨gn, 3, none⟩ = some (.int .i64 1) := (hNr.cell 3).trans rfl
      clear hS
      go_wp2_with fail
      refine (HAT.out wr).mono ?_
      rintro e v1 ⟨rfl, hb⟩
      have hcell1 : ∀ o, (v1.alloc o).cell? (ad.add i) = some (.string S) := fun o => (World.cell?_of_block (((Below.refl _ v1).alloc (Nat.le_refl _) o).block _ (by have := hb.size; rw [add_block]; omega))).trans ((hb.cell (p := ad.add i) (by rw [add_block]; exact hadl)).trans hcell)
      clear n0 n1 n2 n3
      go_wp2_with fail
      refine (HSH.out S hSz _).mono ?_
      rintro e _ ⟨rfl, rfl⟩
      go_upto_region 14 with fail
      have HATb := Lib.hid (hb.trans ((Below.refl _ v1).alloc (Nat.le_refl _) (.cells #[.int .i64 (accOf 0), .int .i64 (purOf p), .string (chOf 0), .string (cut S 30)] 37) |>.mono hb.size))
      have HX := Lib.hid (Blk.new v1 37 #[.int .i64 (accOf 0), .int .i64 (purOf p), .string (chOf 0), .string (cut S 30)])
      have hcut : (cut S 30).data.toList.length ≤ 50000 := by have := cut_size S 30; simp; omega
      have hback := ba_back (cut S 30)
      obtain ⟨cl, hcl⟩ : ∃ cl, (cut S 30).data.toList = cl := ⟨_, rfl⟩
      rw [hcl] at hcut hback
      rw [← hback] at HATb HX ⊢
      have HDG1 := Lib.hid (fun W => HDG.out cl hcut W)
      have HWR1 := Lib.hid (fun hne A cp hcp W hW hl => HWR.out k cl hcut hne A cp hcp W hW hl)
      generalize ba cl = CL at HATb HX HDG1 HWR1 ⊢
      generalize World.alloc v1 _ = v2 at HATb HX ⊢
      generalize v1.heap.size = ga at HX ⊢
      obtain ⟨DG, hDG⟩ : ∃ DG, ba (digL (purOf p) cl) = DG := ⟨_, rfl⟩
      rw [hDG] at HDG1 HWR1
      obtain ⟨bq, hbq⟩ : ∃ bq, (DG.toList == S0.digest.toList) = bq := ⟨_, rfl⟩
      have HB2 := Lib.hid (HB.out.trans (HATb.out.mono HB.out.size))
      have HG2 := Lib.hid (HGr.out.of (HATb.out.block _ HGr.out.lt))
      have HX2 := HX
      have HA2 := Lib.hid (HA.out.below HATb.out)
      clear hcell1 hcell hb hcl hback hDG HX HGr HATb
      refine wp_region_some (by kernel_rfl) (fun i v _ => Vt14 gs ga p CL DG S0 bq i v) (fun _ _ W => Gc v2 W) (fun w w' => Below w.heap.size w w') (by kernel_rfl) (by kernel_rfl) 138 rfl (by kernel_rfl) (fun _ _ _ _ h _ => by exact h) (fun _ => (Below.refl _ _)) (Gc.start v2) ?_ ?_
      · intro i o ho listed x W hs hdep hun hg hk
        match i, ho with
        | 0, ho =>
          cases ho
          have q15 : x.tmps[15]?.getD undef = .pointer (some ⟨ga, 0, none⟩) := hk.fix 15 (by kernel_rfl)
          refine .inl ⟨wanted_plain rfl, ?_⟩
          refine wp_value (v := .pointer (some ⟨ga, 1, none⟩)) (w' := W) ?_ ⟨_, rfl, rfl, (Below.refl _ _), hg⟩
          go_simp
        | 1, ho =>
          cases ho
          have q56 : x.tmps[56]?.getD undef = .pointer (some ⟨ga, 1, none⟩) := hk.dep 0 56 (by kernel_rfl) (by kernel_rfl)
          refine .inl ⟨wanted_plain rfl, ?_⟩
          have cf : W.cell? ⟨ga, 1, none⟩ = some (.int .i64 (purOf p)) := ((HX2.out.of (hg.below.block _ HX2.out.lt)).cell 1).trans rfl
          refine wp_value (v := .int .i64 (purOf p)) (w' := W) ?_ ⟨_, rfl, rfl, (Below.refl _ _), hg⟩
          go_simp
        | 2, ho =>
          cases ho
          have q15 : x.tmps[15]?.getD undef = .pointer (some ⟨ga, 0, none⟩) := hk.fix 15 (by kernel_rfl)
          refine .inl ⟨wanted_plain rfl, ?_⟩
          refine wp_value (v := .pointer (some ⟨ga, 3, none⟩)) (w' := W) ?_ ⟨_, rfl, rfl, (Below.refl _ _), hg⟩
          go_simp
        | 3, ho =>
          cases ho
          have q58 : x.tmps[58]?.getD undef = .pointer (some ⟨ga, 3, none⟩) := hk.dep 2 58 (by kernel_rfl) (by kernel_rfl)
          refine .inl ⟨wanted_plain rfl, ?_⟩
          have cf : W.cell? ⟨ga, 3, none⟩ = some (.string CL) := ((HX2.out.of (hg.below.block _ HX2.out.lt)).cell 3).trans rfl
          refine wp_value (v := .string CL) (w' := W) ?_ ⟨_, rfl, rfl, (Below.refl _ _), hg⟩
          go_simp
        | 4, ho =>
          cases ho
          have q57 : x.tmps[57]?.getD undef = .int .i64 (purOf p) := hk.dep 1 57 (by kernel_rfl) (by kernel_rfl)
          have q59 : x.tmps[59]?.getD undef = .string CL := hk.dep 3 59 (by kernel_rfl) (by kernel_rfl)
          refine .inl ⟨wanted_plain rfl, ?_⟩
          refine wp_enter (f := 19) (args := #[.int .i64 (purOf p), .string CL]) (w' := W) (S := fun v w1 => v = .string DG ∧ Below W.heap.size W w1) ?_ ((HDG1.out W).mono fun e w' h => ⟨_, h.1, rfl, h.2⟩) ?_
          · go_simp
          · rintro v W' ⟨rfl, hb⟩
            exact ⟨_, rfl, rfl, hb, hg.calls hb⟩
        | 5, ho =>
          cases ho
          have q10 : x.tmps[10]?.getD undef = .pointer (some ⟨gs, 0, none⟩) := hk.fix 10 (by kernel_rfl)
          refine .inl ⟨wanted_plain rfl, ?_⟩
          refine wp_value (v := .pointer (some ⟨gs, 0, none⟩)) (w' := W) ?_ ⟨_, rfl, rfl, (Below.refl _ _), hg⟩
          go_simp
        | 6, ho =>
          cases ho
          have q61 : x.tmps[61]?.getD undef = .pointer (some ⟨gs, 0, none⟩) := hk.dep 5 61 (by kernel_rfl) (by kernel_rfl)
          refine .inl ⟨wanted_plain rfl, ?_⟩
          have cf : W.cell? ⟨gs, 0, none⟩ = some (.string S0.digest) := ((HG2.out.of (hg.below.block _ HG2.out.lt)).cell 0).trans rfl
          refine wp_value (v := .string S0.digest) (w' := W) ?_ ⟨_, rfl, rfl, (Below.refl _ _), hg⟩
          go_simp
        | 7, ho =>
          cases ho
          have q60 : x.tmps[60]?.getD undef = .string DG := hk.dep 4 60 (by kernel_rfl) (by kernel_rfl)
          have q62 : x.tmps[62]?.getD undef = .string S0.digest := hk.dep 6 62 (by kernel_rfl) (by kernel_rfl)
          refine .inl ⟨wanted_plain rfl, ?_⟩
          refine wp_value (v := .bool bq) (w' := W) ?_ ⟨_, rfl, rfl, (Below.refl _ _), hg⟩
          go_simp
        | _ + 8, ho => cases ho
      intro listed x v3 hall hg hk
      have e56 : x.tmps[56]?.getD undef = .pointer (some ⟨ga, 1, none⟩) := hk.last 0 56 (by decide) (by kernel_rfl)
      have e57 : x.tmps[57]?.getD undef = .int .i64 (purOf p) := hk.last 1 57 (by decide) (by kernel_rfl)
      have e58 : x.tmps[58]?.getD undef = .pointer (some ⟨ga, 3, none⟩) := hk.last 2 58 (by decide) (by kernel_rfl)
      have e59 : x.tmps[59]?.getD undef = .string CL := hk.last 3 59 (by decide) (by kernel_rfl)
      have e60 : x.tmps[60]?.getD undef = .string DG := hk.last 4 60 (by decide) (by kernel_rfl)
      have e61 : x.tmps[61]?.getD undef = .pointer (some ⟨gs, 0, none⟩) := hk.last 5 61 (by decide) (by kernel_rfl)
      have e62 : x.tmps[62]?.getD undef = .string S0.digest := hk.last 6 62 (by decide) (by kernel_rfl)
      have e63 : x.tmps[63]?.getD undef = .bool bq := hk.last 7 63 (by decide) (by kernel_rfl)
      have hB := Lib.hid hg.below
      have hx := hk.act [56, 57, 58, 59, 60, 61, 62, 63] (by kernel_rfl)
      clear hk hg hall
      simp only [List.foldl_cons, List.foldl_nil, e56, e57, e58, e59, e60, e61, e62, e63] at hx
      clear e56 e57 e58 e59 e60 e61 e62 e63
      subst hx
      simp only [Act.put, List.setIfInBounds_toArray, List.set_cons_succ, List.set_cons_zero]
      have HB3 := Lib.hid (HB2.out.trans (hB.out.mono HB2.out.size))
      have HG3 := Lib.hid (HG2.out.of (hB.out.block _ HG2.out.lt))
      have HX3 := Lib.hid (HX2.out.of (hB.out.block _ HX2.out.lt))
      have HA3 := Lib.hid (HA2.out.below hB.out)
      clear hB HG2 HX2
      rw [str_beq] at hbq
      by_cases hq : DG = S0.digest
      · rw [decide_eq_true hq] at hbq
        subst hbq
        clear hq
        go_wp2_with fail
        go_roundw
        case rel => exact ⟨k, i + 1, rfl, by go_num, by omega, by omega, by omega, ⟨A, cp, rfl, HCP.out, HA3.out⟩, HB3.out⟩
        case measure => simp [intOf]; omega
      · rw [decide_eq_false hq] at hbq
        subst hbq
        have hne : S0.digest ≠ DG := fun e => hq e.symm
        have HW := Lib.hid (fun A cp hcp W hW hl => HWR1.out hne A cp hcp W hW hl)
        clear hq hne HWR1 HDG1
        by_cases hkm : k = m
        · have hkm2 : ((k : Int) == (m : Int)) = true := by rw [hkm]; simp
          clear hkm
          have hN3 := HN.out.of (HB3.out.block _ HN.out.lt)
          have n0 : v3.cell? ⟨gn, 0, none⟩ = some (.int .i64 0) := (hN3.cell 0).trans rfl
          have n1 : v3.cell? ⟨gn, 1, none⟩ = some (.int .i64 p) := (hN3.cell 1).trans rfl
          have n2 : v3.cell? ⟨gn, 2, none⟩ = some (.int .i64 0) := (hN3.cell 2).trans rfl
          have n3 : v3.cell? ⟨gn, 3, none⟩ = some (.int .i64 1) := (hN3.cell 3).trans rfl
          clear hN3
          by_cases hkT : (k : Int) < S0.tries
          · have hri := HRI.out k A cp HCP.out
            rw [if_pos hkT] at hri
            simp only [secOf_some] at hri
            have HRK := Lib.hid hri
            clear hri
            go_wp2_with fail
            refine (HAT.out v3).mono ?_
            rintro e v4 ⟨rfl, hb⟩
            have HB4 := Lib.hid (HB3.out.trans (hb.mono HB3.out.size))
            have HG4 := Lib.hid (HG3.out.of (hb.block _ HG3.out.lt))
            have HX4 := Lib.hid (HX3.out.of (hb.block _ HX3.out.lt))
            have HA4 := Lib.hid (HA3.out.below hb)
            clear hb n0 n1 n2 n3 HB3 HG3 HX3 HA3
            go_wp2_with fail
            refine (HRK.out v4 (HR.out.next (HBX.out.trans (HB4.out.mono HBX.out.size))) HA4.out).mono ?_
            rintro e v5 ⟨⟨v, rfl, hv⟩, hb⟩
            have hal : Below v5.heap.size v5 (v5.alloc (.cells #[.string S0.digest, .int .i64 S0.account, .int .i64 S0.purpose, .string S0.channel, .int .i64 S0.expires, .int .i64 (S0.tries - (k : Int))] 26)) := (Below.refl _ v5).alloc (Nat.le_refl _) _
            have hbb := hb.trans (hal.mono hb.size)
            have HB6 := Lib.hid (HB4.out.trans (hbb.mono HB4.out.size))
            have HG6 := Lib.hid (HG4.out.of (hbb.block _ HG4.out.lt))
            have HX6 := Lib.hid (HX4.out.of (hbb.block _ HX4.out.lt))
            have HA6 := Lib.hid (HA4.out.below hbb)
            have g5 : ∀ o, (v5.alloc o).cell? ⟨gs, 5, none⟩ = some (.int .i64 S0.tries) := fun o => (((HG4.out.of (hb.block _ HG4.out.lt)).alloc o).cell 5).trans rfl
            have g0 : ∀ o, (v5.alloc o).cell? ⟨gs, 0, none⟩ = some (.string S0.digest) := fun o => (((HG4.out.of (hb.block _ HG4.out.lt)).alloc o).cell 0).trans rfl
            have hdd : (S0.digest.toList != S0.digest.toList) = false := by simp
            clear hb hv hal hbb HB4 HG4 HX4 HA4
            go_upto_region 19 with fail
            clear g5 g0 hdd
            generalize World.alloc v5 _ = v6 at HB6 HG6 HX6 HA6 ⊢
            by_cases hkl : (k : Int) + 1 < S0.tries
            · have hlen : (rowAt S0 (k + 1)).length = 1 := by rw [rowAt_length, if_pos (by omega)]
              have hg1 : ¬ (k : Int) ≥ S0.tries - 1 := by omega
              have hg2 : ¬ (k : Int) ≥ S0.tries := by omega
              have hwT : IntKind.i64.wrap (S0.tries - 1) = S0.tries - 1 := by rw [IntKind.wrap_i64]; omega
              have x0 : v6.cell? ⟨ga, 0, none⟩ = some (.int .i64 (accOf 0)) := (HX6.out.cell 0).trans rfl
              have x1 : v6.cell? ⟨ga, 1, none⟩ = some (.int .i64 (purOf p)) := (HX6.out.cell 1).trans rfl
              have x2 : v6.cell? ⟨ga, 2, none⟩ = some (.string (chOf 0)) := (HX6.out.cell 2).trans rfl
              have x3 : v6.cell? ⟨ga, 3, none⟩ = some (.string CL) := (HX6.out.cell 3).trans rfl
              have hw := HW.out A cp HCP.out v6 (HR.out.next (HBX.out.trans (HB6.out.mono HBX.out.size))) HA6.out
              rw [if_pos hkT] at hw
              have HWW := Lib.hid hw
              have HLEN := Lib.hid hlen
              clear hw
              go_wp2_with fail
              refine HWW.out.mono ?_
              rintro e u2 ⟨⟨v, rfl, hv⟩, hb⟩
              obtain ⟨A2, c2, rfl, hc2, hA2⟩ := hv
              have HA7 := Lib.hid (((hA2.mono (S := fun b => b < v6.heap.size) (T := fun _ => False) (fun _ _ h => h.elim))).below ((Below.refl _ u2).alloc (Nat.le_refl _) (.cells #[.string ⟨#[]⟩, .int .i64 0, .int .i64 0, .string ⟨#[]⟩, .int .i64 0, .int .i64 0] 26)))
              have HC7 := Lib.hid hc2
              have HB7 := Lib.hid ((HB6.out.trans (hb.mono HB6.out.size)).alloc (by have h1 := HB6.out.size; have h2 := hb.size; omega) (.cells #[.string ⟨#[]⟩, .int .i64 0, .int .i64 0, .string ⟨#[]⟩, .int .i64 0, .int .i64 0] 26))
              have hG7 := HG6.out.of (hb.block _ HG6.out.lt)
              have g5 : ∀ o, (u2.alloc o).cell? ⟨gs, 5, none⟩ = some (.int .i64 S0.tries) := fun o => ((hG7.alloc o).cell 5).trans rfl
              clear hb hA2 hG7 hc2 x0 x1 x2 x3
              go_wp2_with fail
              go_roundw
              case rel => exact ⟨k + 1, i + 1, by go_num, by go_num, by omega, by omega, by omega, ⟨A2, c2, by rw [HLEN.out], HC7.out, HA7.out⟩, HB7.out⟩
              case measure => simp [intOf]; omega
            · have hlen : (rowAt S0 (k + 1)).length = 0 := by rw [rowAt_length, if_neg (by omega)]
              have hg1 : (k : Int) ≥ S0.tries - 1 := by omega
              have hg2 : ¬ (k : Int) ≥ S0.tries := by omega
              have hwT : IntKind.i64.wrap (S0.tries - 1) = S0.tries - 1 := by rw [IntKind.wrap_i64]; omega
              have x0 : v6.cell? ⟨ga, 0, none⟩ = some (.int .i64 (accOf 0)) := (HX6.out.cell 0).trans rfl
              have x1 : v6.cell? ⟨ga, 1, none⟩ = some (.int .i64 (purOf p)) := (HX6.out.cell 1).trans rfl
              have x2 : v6.cell? ⟨ga, 2, none⟩ = some (.string (chOf 0)) := (HX6.out.cell 2).trans rfl
              have x3 : v6.cell? ⟨ga, 3, none⟩ = some (.string CL) := (HX6.out.cell 3).trans rfl
              have hw := HW.out A cp HCP.out v6 (HR.out.next (HBX.out.trans (HB6.out.mono HBX.out.size))) HA6.out
              rw [if_pos hkT] at hw
              have HWW := Lib.hid hw
              have HLEN := Lib.hid hlen
              clear hw
              go_wp2_with fail
              refine HWW.out.mono ?_
              rintro e u2 ⟨⟨v, rfl, hv⟩, hb⟩
              obtain ⟨A2, c2, rfl, hc2, hA2⟩ := hv
              have HA7 := Lib.hid (((hA2.mono (S := fun b => b < v6.heap.size) (T := fun _ => False) (fun _ _ h => h.elim))).below ((Below.refl _ u2).alloc (Nat.le_refl _) (.cells #[.string ⟨#[]⟩, .int .i64 0, .int .i64 0, .string ⟨#[]⟩, .int .i64 0, .int .i64 0] 26)))
              have HC7 := Lib.hid hc2
              have HB7 := Lib.hid ((HB6.out.trans (hb.mono HB6.out.size)).alloc (by have h1 := HB6.out.size; have h2 := hb.size; omega) (.cells #[.string ⟨#[]⟩, .int .i64 0, .int .i64 0, .string ⟨#[]⟩, .int .i64 0, .int .i64 0] 26))
              have hG7 := HG6.out.of (hb.block _ HG6.out.lt)
              have g5 : ∀ o, (u2.alloc o).cell? ⟨gs, 5, none⟩ = some (.int .i64 S0.tries) := fun o => ((hG7.alloc o).cell 5).trans rfl
              clear hb hA2 hG7 hc2 x0 x1 x2 x3
              go_wp2_with fail
              go_roundw
              case rel => exact ⟨k + 1, i + 1, by go_num, by go_num, by omega, by omega, by omega, ⟨A2, c2, by rw [HLEN.out], HC7.out, HA7.out⟩, HB7.out⟩
              case measure => simp [intOf]; omega
          · have hge : (k : Int) ≥ S0.tries := by omega
            have hri := HRI.out k A cp HCP.out
            rw [if_neg hkT] at hri
            unfold secOf zeroV secV at hri
            have HRK := Lib.hid hri
            clear hri
            go_wp2_with fail
            refine (HAT.out v3).mono ?_
            rintro e v4 ⟨rfl, hb⟩
            have HB4 := Lib.hid (HB3.out.trans (hb.mono HB3.out.size))
            have HG4 := Lib.hid (HG3.out.of (hb.block _ HG3.out.lt))
            have HX4 := Lib.hid (HX3.out.of (hb.block _ HX3.out.lt))
            have HA4 := Lib.hid (HA3.out.below hb)
            clear hb n0 n1 n2 n3 HB3 HG3 HX3 HA3
            go_wp2_with fail
            refine (HRK.out v4 (HR.out.next (HBX.out.trans (HB4.out.mono HBX.out.size))) HA4.out).mono ?_
            rintro e v5 ⟨⟨v, rfl, hv⟩, hb⟩
            have hal : Below v5.heap.size v5 (v5.alloc (.cells #[.string ⟨#[]⟩, .int .i64 0, .int .i64 0, .string ⟨#[]⟩, .int .i64 0, .int .i64 0] 26)) := (Below.refl _ v5).alloc (Nat.le_refl _) _
            have hbb := hb.trans (hal.mono hb.size)
            have HB6 := Lib.hid (HB4.out.trans (hbb.mono HB4.out.size))
            have HG6 := Lib.hid (HG4.out.of (hbb.block _ HG4.out.lt))
            have HX6 := Lib.hid (HX4.out.of (hbb.block _ HX4.out.lt))
            have HA6 := Lib.hid (HA4.out.below hbb)
            have g5 : ∀ o, (v5.alloc o).cell? ⟨gs, 5, none⟩ = some (.int .i64 S0.tries) := fun o => (((HG4.out.of (hb.block _ HG4.out.lt)).alloc o).cell 5).trans rfl
            have g0 : ∀ o, (v5.alloc o).cell? ⟨gs, 0, none⟩ = some (.string S0.digest) := fun o => (((HG4.out.of (hb.block _ HG4.out.lt)).alloc o).cell 0).trans rfl
            have hdd : (S0.digest.toList != S0.digest.toList) = false := by simp
            clear hb hv hal hbb HB4 HG4 HX4 HA4
            go_upto_region 19 with fail
            clear g5 g0 hdd
            generalize World.alloc v5 _ = v6 at HB6 HG6 HX6 HA6 ⊢
            have hlen : (rowAt S0 (k + 1)).length = 0 := by rw [rowAt_length, if_neg (by omega)]
            have hg1 : (k : Int) ≥ S0.tries - 1 := by omega
            have hwT : IntKind.i64.wrap (S0.tries - 1) = S0.tries - 1 := by rw [IntKind.wrap_i64]; omega
            have x0 : v6.cell? ⟨ga, 0, none⟩ = some (.int .i64 (accOf 0)) := (HX6.out.cell 0).trans rfl
            have x1 : v6.cell? ⟨ga, 1, none⟩ = some (.int .i64 (purOf p)) := (HX6.out.cell 1).trans rfl
            have x2 : v6.cell? ⟨ga, 2, none⟩ = some (.string (chOf 0)) := (HX6.out.cell 2).trans rfl
            have x3 : v6.cell? ⟨ga, 3, none⟩ = some (.string CL) := (HX6.out.cell 3).trans rfl
            have hw := HW.out A cp HCP.out v6 (HR.out.next (HBX.out.trans (HB6.out.mono HBX.out.size))) HA6.out
            rw [if_neg (show ¬ (k : Int) < S0.tries by omega)] at hw
            have HWW := Lib.hid hw
            have HLEN := Lib.hid hlen
            clear hw
            go_wp2_with fail
            refine HWW.out.mono ?_
            rintro e u2 ⟨⟨v, rfl, hv⟩, hb⟩
            obtain ⟨A2, c2, rfl, hc2, hA2⟩ := hv
            have HA7 := Lib.hid (((hA2.mono (S := fun b => b < v6.heap.size) (T := fun _ => False) (fun _ _ h => h.elim))).below ((Below.refl _ u2).alloc (Nat.le_refl _) (.cells #[.string ⟨#[]⟩, .int .i64 0, .int .i64 0, .string ⟨#[]⟩, .int .i64 0, .int .i64 0] 26)))
            have HC7 := Lib.hid hc2
            have HB7 := Lib.hid ((HB6.out.trans (hb.mono HB6.out.size)).alloc (by have h1 := HB6.out.size; have h2 := hb.size; omega) (.cells #[.string ⟨#[]⟩, .int .i64 0, .int .i64 0, .string ⟨#[]⟩, .int .i64 0, .int .i64 0] 26))
            have hG7 := HG6.out.of (hb.block _ HG6.out.lt)
            have g5 : ∀ o, (u2.alloc o).cell? ⟨gs, 5, none⟩ = some (.int .i64 S0.tries) := fun o => ((hG7.alloc o).cell 5).trans rfl
            clear hb hA2 hG7 hc2 x0 x1 x2 x3
            go_wp2_with fail
            go_roundw
            case rel => exact ⟨k + 1, i + 1, by go_num, by go_num, by omega, by omega, by omega, ⟨A2, c2, by rw [HLEN.out], HC7.out, HA7.out⟩, HB7.out⟩
            case measure => simp [intOf]; omega
        · have hkm2 : ((k : Int) == (m : Int)) = false := beq_eq_false_iff_ne.2 (by omega)
          clear hkm
          have HA6 := HA3
          have HB6 := HB3
          have HG6 := HG3
          have HX6 := HX3
          clear HA3 HB3 HG3 HX3
          by_cases hkT : (k : Int) < S0.tries
          · by_cases hkl : (k : Int) + 1 < S0.tries
            · have hlen : (rowAt S0 (k + 1)).length = 1 := by rw [rowAt_length, if_pos (by omega)]
              have hg1 : ¬ (k : Int) ≥ S0.tries - 1 := by omega
              have hg2 : ¬ (k : Int) ≥ S0.tries := by omega
              have hwT : IntKind.i64.wrap (S0.tries - 1) = S0.tries - 1 := by rw [IntKind.wrap_i64]; omega
              have x0 : v3.cell? ⟨ga, 0, none⟩ = some (.int .i64 (accOf 0)) := (HX6.out.cell 0).trans rfl
              have x1 : v3.cell? ⟨ga, 1, none⟩ = some (.int .i64 (purOf p)) := (HX6.out.cell 1).trans rfl
              have x2 : v3.cell? ⟨ga, 2, none⟩ = some (.string (chOf 0)) := (HX6.out.cell 2).trans rfl
              have x3 : v3.cell? ⟨ga, 3, none⟩ = some (.string CL) := (HX6.out.cell 3).trans rfl
              have hw := HW.out A cp HCP.out v3 (HR.out.next (HBX.out.trans (HB6.out.mono HBX.out.size))) HA6.out
              rw [if_pos hkT] at hw
              have HWW := Lib.hid hw
              have HLEN := Lib.hid hlen
              clear hw
              go_wp2_with fail
              refine HWW.out.mono ?_
              rintro e u2 ⟨⟨v, rfl, hv⟩, hb⟩
              obtain ⟨A2, c2, rfl, hc2, hA2⟩ := hv
              have HA7 := Lib.hid (((hA2.mono (S := fun b => b < v3.heap.size) (T := fun _ => False) (fun _ _ h => h.elim))).below ((Below.refl _ u2).alloc (Nat.le_refl _) (.cells #[.string ⟨#[]⟩, .int .i64 0, .int .i64 0, .string ⟨#[]⟩, .int .i64 0, .int .i64 0] 26)))
              have HC7 := Lib.hid hc2
              have HB7 := Lib.hid ((HB6.out.trans (hb.mono HB6.out.size)).alloc (by have h1 := HB6.out.size; have h2 := hb.size; omega) (.cells #[.string ⟨#[]⟩, .int .i64 0, .int .i64 0, .string ⟨#[]⟩, .int .i64 0, .int .i64 0] 26))
              have hG7 := HG6.out.of (hb.block _ HG6.out.lt)
              have g5 : ∀ o, (u2.alloc o).cell? ⟨gs, 5, none⟩ = some (.int .i64 S0.tries) := fun o => ((hG7.alloc o).cell 5).trans rfl
              clear hb hA2 hG7 hc2 x0 x1 x2 x3
              go_wp2_with fail
              go_roundw
              case rel => exact ⟨k + 1, i + 1, by go_num, by go_num, by omega, by omega, by omega, ⟨A2, c2, by rw [HLEN.out], HC7.out, HA7.out⟩, HB7.out⟩
              case measure => simp [intOf]; omega
            · have hlen : (rowAt S0 (k + 1)).length = 0 := by rw [rowAt_length, if_neg (by omega)]
              have hg1 : (k : Int) ≥ S0.tries - 1 := by omega
              have hg2 : ¬ (k : Int) ≥ S0.tries := by omega
              have hwT : IntKind.i64.wrap (S0.tries - 1) = S0.tries - 1 := by rw [IntKind.wrap_i64]; omega
              have x0 : v3.cell? ⟨ga, 0, none⟩ = some (.int .i64 (accOf 0)) := (HX6.out.cell 0).trans rfl
              have x1 : v3.cell? ⟨ga, 1, none⟩ = some (.int .i64 (purOf p)) := (HX6.out.cell 1).trans rfl
              have x2 : v3.cell? ⟨ga, 2, none⟩ = some (.string (chOf 0)) := (HX6.out.cell 2).trans rfl
              have x3 : v3.cell? ⟨ga, 3, none⟩ = some (.string CL) := (HX6.out.cell 3).trans rfl
              have hw := HW.out A cp HCP.out v3 (HR.out.next (HBX.out.trans (HB6.out.mono HBX.out.size))) HA6.out
              rw [if_pos hkT] at hw
              have HWW := Lib.hid hw
              have HLEN := Lib.hid hlen
              clear hw
              go_wp2_with fail
              refine HWW.out.mono ?_
              rintro e u2 ⟨⟨v, rfl, hv⟩, hb⟩
              obtain ⟨A2, c2, rfl, hc2, hA2⟩ := hv
              have HA7 := Lib.hid (((hA2.mono (S := fun b => b < v3.heap.size) (T := fun _ => False) (fun _ _ h => h.elim))).below ((Below.refl _ u2).alloc (Nat.le_refl _) (.cells #[.string ⟨#[]⟩, .int .i64 0, .int .i64 0, .string ⟨#[]⟩, .int .i64 0, .int .i64 0] 26)))
              have HC7 := Lib.hid hc2
              have HB7 := Lib.hid ((HB6.out.trans (hb.mono HB6.out.size)).alloc (by have h1 := HB6.out.size; have h2 := hb.size; omega) (.cells #[.string ⟨#[]⟩, .int .i64 0, .int .i64 0, .string ⟨#[]⟩, .int .i64 0, .int .i64 0] 26))
              have hG7 := HG6.out.of (hb.block _ HG6.out.lt)
              have g5 : ∀ o, (u2.alloc o).cell? ⟨gs, 5, none⟩ = some (.int .i64 S0.tries) := fun o => ((hG7.alloc o).cell 5).trans rfl
              clear hb hA2 hG7 hc2 x0 x1 x2 x3
              go_wp2_with fail
              go_roundw
              case rel => exact ⟨k + 1, i + 1, by go_num, by go_num, by omega, by omega, by omega, ⟨A2, c2, by rw [HLEN.out], HC7.out, HA7.out⟩, HB7.out⟩
              case measure => simp [intOf]; omega
          · have hge : (k : Int) ≥ S0.tries := by omega
            have hlen : (rowAt S0 (k + 1)).length = 0 := by rw [rowAt_length, if_neg (by omega)]
            have hg1 : (k : Int) ≥ S0.tries - 1 := by omega
            have hwT : IntKind.i64.wrap (S0.tries - 1) = S0.tries - 1 := by rw [IntKind.wrap_i64]; omega
            have x0 : v3.cell? ⟨ga, 0, none⟩ = some (.int .i64 (accOf 0)) := (HX6.out.cell 0).trans rfl
            have x1 : v3.cell? ⟨ga, 1, none⟩ = some (.int .i64 (purOf p)) := (HX6.out.cell 1).trans rfl
            have x2 : v3.cell? ⟨ga, 2, none⟩ = some (.string (chOf 0)) := (HX6.out.cell 2).trans rfl
            have x3 : v3.cell? ⟨ga, 3, none⟩ = some (.string CL) := (HX6.out.cell 3).trans rfl
            have hw := HW.out A cp HCP.out v3 (HR.out.next (HBX.out.trans (HB6.out.mono HBX.out.size))) HA6.out
            rw [if_neg (show ¬ (k : Int) < S0.tries by omega)] at hw
            have HWW := Lib.hid hw
            have HLEN := Lib.hid hlen
            clear hw
            go_wp2_with fail
            refine HWW.out.mono ?_
            rintro e u2 ⟨⟨v, rfl, hv⟩, hb⟩
            obtain ⟨A2, c2, rfl, hc2, hA2⟩ := hv
            have HA7 := Lib.hid (((hA2.mono (S := fun b => b < v3.heap.size) (T := fun _ => False) (fun _ _ h => h.elim))).below ((Below.refl _ u2).alloc (Nat.le_refl _) (.cells #[.string ⟨#[]⟩, .int .i64 0, .int .i64 0, .string ⟨#[]⟩, .int .i64 0, .int .i64 0] 26)))
            have HC7 := Lib.hid hc2
            have HB7 := Lib.hid ((HB6.out.trans (hb.mono HB6.out.size)).alloc (by have h1 := HB6.out.size; have h2 := hb.size; omega) (.cells #[.string ⟨#[]⟩, .int .i64 0, .int .i64 0, .string ⟨#[]⟩, .int .i64 0, .int .i64 0] 26))
            have hG7 := HG6.out.of (hb.block _ HG6.out.lt)
            have g5 : ∀ o, (u2.alloc o).cell? ⟨gs, 5, none⟩ = some (.int .i64 S0.tries) := fun o => ((hG7.alloc o).cell 5).trans rfl
            clear hb hA2 hG7 hc2 x0 x1 x2 x3
            go_wp2_with fail
            go_roundw
            case rel => exact ⟨k + 1, i + 1, by go_num, by go_num, by omega, by omega, by omega, ⟨A2, c2, by rw [HLEN.out], HC7.out, HA7.out⟩, HB7.out⟩
            case measure => simp [intOf]; omega
    · by_cases hl1 : i < ws.length
      · have hi1 : (i : Int) < (ws.length : Int) := by omega
        have hi2 : ¬ (i : Int) < 20 := by omega
        go_wp2_with fail
        go_ret
        exact ⟨rfl, HBX.out.trans (HB.out.mono HBX.out.size)⟩
      · have hi1 : ¬ (i : Int) < (ws.length : Int) := by omega
        go_wp2_with fail
        go_ret
        exact ⟨rfl, HBX.out.trans (HB.out.mono HBX.out.size)⟩

/-! ### The row -/
set_option maxRecDepth 100000 in
theorem contract (H : Type) (enc : TypeId × Value → H) (W : World) (base : Nat) (args : Array Value) (ds gs : List (DataW H)) (before : List MemPlace)
    (hval : ∀ (j : Nat) t v, Tryz.f5.params[j]? = some t → args[j]? = some v → Value.okWide Tryz.prog W .any base t v)
    (hW : DataW.Whole enc Tryz.prog Tryz.f5.params.toList Rows.vaultTriesSpec.vars false W args.toList ds gs before) (hL : laidMet Tryz.prog Rows.vaultTriesRow.laid W) (hS : W.ShapedOpen Tryz.prog) :
    Calls Tryz.prog 5 args W fun e W' => ∃ v, e = .returned v ∧ Rows.vaultTriesSpec.post enc Tryz.prog Tryz.f5 false true false false W args v W' := by
  have hW' := hW
  obtain ⟨p, q, hA0, hV, rfl, hfz, hnd⟩ := hW
  have hA : DataW.TrodAll enc Tryz.prog W 0 (fun _ => true) true Tryz.f5.params.toList args.toList ds p := hA0
  rw [Tryz.params5] at hA hval
  obtain ⟨v0, vs0, d0, ds0, p0, q0, hargs, rfl, rfl, h0, r0⟩ := trodAll_cons hA
  obtain ⟨v1, vs1, d1, ds1, p1, q1, rfl, rfl, rfl, h1, r1⟩ := trodAll_cons r0
  obtain ⟨v2, vs2, d2, ds2, p2, q2, rfl, rfl, rfl, h2, r2⟩ := trodAll_cons r1
  obtain ⟨rfl, rfl, rfl⟩ := trodAll_nil r2
  obtain rfl : args = #[v0, v1, v2] := by cases args; simp_all
  obtain ⟨rfl, rfl⟩ := trodVars_none hV
  refine law_contract (tb := 4) laidOut (by kernel_rfl) rfl (by kernel_rfl) Tryz.underlying4 rfl hW' ?_
  clear hA0 hW' hA
  obtain ⟨a0, rfl, rfl, rfl, w0⟩ := open_int Tryz.underlying3 (hval 0 3 v0 rfl rfl) h0
  obtain ⟨A1, k1, l1, rfl, z1, s1, g1⟩ := opened_texts (open_texts Tryz.underlying50 Tryz.underlying9 cells_str (hval 1 50 v1 rfl rfl) h1)
  obtain ⟨a2, rfl, rfl, rfl, w2⟩ := open_int Tryz.underlying3 (hval 2 3 v2 rfl rfl) h2
  exact walk a0 a2 A1 k1 l1 z1 s1 W (rdy_of (tab_CubeRoots (laidMet.tail hL)) (tab_SquareRoots (laidMet.tail (laidMet.tail hL))) hS) g1

theorem laid_met (os : Os) : laidMet Tryz.prog Rows.vaultTriesRow.laid ((laidWorld os).forCall (fun _ _ => 0) ⟨#[], #[.int .i64 0, .slice none 0 0, .int .i64 0], []⟩).memory :=
  laidMet_of_run' 8 (by kernel_rfl) (by kernel_rfl)
theorem reads (os : Os) {H : Type} (enc : TypeId × Value → H) : ∃ places, DataW.whole enc Tryz.prog ((laidWorld os).forCall (fun _ _ => 0) ⟨#[], #[.int .i64 0, .slice none 0 0, .int .i64 0], []⟩).memory Tryz.f5.params.toList Rows.vaultTriesSpec.vars false (#[.int .i64 0, .slice none 0 0, .int .i64 0] : Array Value).toList 8 = some ([.lit (.int .i64 0), .nil, .lit (.int .i64 0)], [], places) :=
  ⟨[], by kernel_rfl⟩

set_option maxRecDepth 100000 in
theorem lifted (os : Os) (started : os.Started) (H : Type) (enc : TypeId × Value → H) (F : Stop.Interp) :
    ReturnsInHanded {} Tryz.checked os 5 .any ((OpenSpec.ofChange Rows.vaultTriesSpec).preRow enc Tryz.prog Tryz.f5 Rows.vaultTriesRow.domain false Rows.vaultTriesRow.laid) (((OpenSpec.ofChange Rows.vaultTriesSpec).at F).post enc Tryz.prog Tryz.f5 false true false false) := by
  obtain ⟨places, hx⟩ := reads os enc
  refine returnsInHanded_of_row (C := Tryz.checked) (s := OpenSpec.ofChange Rows.vaultTriesSpec) own started (by kernel_rfl) Tryz.func5
    (witness_row_at (enc := enc) (C := Tryz.checked) false (laidWorld os) #[.int .i64 0, .slice none 0 0, .int .i64 0] rfl (by kernel_rfl) (by kernel_rfl) (by kernel_rfl)
      (OpenSpec.preRow_of_cond 8 hx (by kernel_rfl) (fun k hk => by cases hk) (by kernel_rfl) (laid_met os))) ?_
  intro W base args ds gs before hval hW _ _ _ hL hS _
  exact contract H enc W base args ds gs before hval hW hL hS

theorem said : Rows.VaultTriesSaid :=
  OpenClaim.holds_of_cond 5 Tryz.f5 rfl rfl rfl rfl rfl rfl rfl ⟨rfl, rfl, rfl, rfl, rfl⟩ rfl rfl rfl rfl rfl (by kernel_rfl) Tryz.func5 (by kernel_rfl)
    (of_decide_eq_true (by kernel_rfl)) (by unfold Func.isWrapper; first | (rw [if_pos (by decide +kernel)]; kernel_rfl) | (rw [if_neg (by decide +kernel)]; exact ⟨rfl, rfl⟩))
    (fun os started H enc _ F => by rw [OpenClaim.pre_eq_preRow]; exact lifted os started H enc F)

theorem plain (f : FuncId) (fn : Func) (hf : Tryz.pinned.checked.prog.funcNamed "homecoming/homecominglaw11.VaultTries" = some f) (hfn : Tryz.pinned.checked.prog.funcs[f]? = some fn) :
    false = Tryz.pinned.checked.prog.looks [] ∧ ∀ (j : Nat) t, fn.params[j]? = some t → Tryz.pinned.checked.prog.wantsStandIn t = false := by
  obtain rfl : f = 5 := Option.some.inj ((show Tryz.prog.funcNamed "homecoming/homecominglaw11.VaultTries" = some 5 by kernel_rfl).symm.trans hf) |>.symm
  obtain rfl : fn = Tryz.f5 := (Option.some.inj (Tryz.func5.symm.trans hfn)).symm
  refine ⟨by kernel_rfl, fun j t ht => ?_⟩
  have hall : (Tryz.f5.params.toList.all fun u => !Tryz.prog.wantsStandIn u) = true := by kernel_rfl
  have hm : t ∈ Tryz.f5.params.toList := by simpa using Array.mem_of_getElem? ht
  exact (show Tryz.prog.wantsStandIn t = false by simpa using List.all_eq_true.1 hall t hm)

/-- THE STATEMENT. -/
theorem card : Rows.VaultTriesCardSaid :=
  Claim7.holds_tied_plain_at .later [] _ _ _ _ said (fun _ h => by cases h) (by kernel_rfl) (fun _ h => by cases h) vaultTries_row_tie rfl ⟨rfl, rfl⟩ (by kernel_rfl) rfl plain (by kernel_rfl)
#print axioms card
end Go.Proofs.YtfjdcopndkdbmaaGreatDoor.vaultTries
