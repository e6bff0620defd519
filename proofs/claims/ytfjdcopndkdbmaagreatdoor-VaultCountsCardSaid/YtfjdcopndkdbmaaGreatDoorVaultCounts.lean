/-
  Proves the statement of VaultCounts: for every row of steps and every text the law returns true (each attempt makes just one digest, whatever it is, and whatever there is), and its arguments read as they did. Conditions: the package-level tables acceptRanges and first of the library and cubeRoots and squareRoots of package sha hold what their texts lay.
-/
import Derived.Test.YtfjdcopndkdbmaaGreatDoorOpx
import Derived.Test.YtfjdcopndkdbmaaGreatDoorShort11
import Derived.Test.YtfjdcopndkdbmaaGreatDoorVtO
import Derived.Test.YtfjdcopndkdbmaaGreatDoorShNa
import Derived.Test.YtfjdcopndkdbmaaGreatDoorTabs
import Derived.Test.YtfjdcopndkdbmaaGreatDoorCards
import Derived.Test.YtfjdcopndkdbmaaGreatDoorTie
namespace Go.Proofs.YtfjdcopndkdbmaaGreatDoor.vaultCounts
open Go.ChangeShapes Go.WideShapes Go.ChangeAt Go.RowKit
open Go.ChangeMaps (open_string shut_string)

theorem secOf_form (x : Option Va.Sec) : ∃ a b c d e f, secOf x = #[.string a, .int .i64 b, .int .i64 c, .string d, .int .i64 e, .int .i64 f] := by
  cases x with
  | none => exact ⟨_, _, _, _, _, _, rfl⟩
  | some s => exact ⟨_, _, _, _, _, _, rfl⟩
set_option maxRecDepth 100000 in
theorem pres_one {g : Nat} (hg : g ≠ 1 ∧ g ≠ 0) (k : Nat) (hk : k ≤ 1000) (A : Option Addr) (cp : Nat) (l : List Va.Sec) (hl : l.length ≤ 100) (hcp : l.length ≤ cp) (a p : Int) (c : ByteArray) (d : List UInt8) (hd : d.length ≤ 50000) (now : Int) (hu : Rw.Uniq Va.Sec.key l) (hr : ∀ s ∈ l, rightS s = true) (w : World) (hM : Met w g k) (hR : Rdy w) (hA : Lies (fun b => b = g) w A (secs l)) :
    Calls Tryz.prog 16 #[.pointer (some ⟨g, 0, none⟩), .slice A l.length cp, .agg #[.int .i64 a, .int .i64 p, .string c, .string (ba d)], .int .i64 now] w fun e w' => ∃ (m : List Va.Sec) (A2 : Option Addr) (c2 : Nat) (f0 : ByteArray) (f1 f2 : Int) (f3 : ByteArray) (f4 f5 : Int) (er : Int), e = .returned (.tuple #[.slice A2 m.length c2, .agg #[.string f0, .int .i64 f1, .int .i64 f2, .string f3, .int .i64 f4, .int .i64 f5], .int .i64 er]) ∧ m.length ≤ l.length ∧ Rw.Uniq Va.Sec.key m ∧ (∀ s ∈ m, rightS s = true) ∧ m.length ≤ c2 ∧ Lies (fun b => b = g) w' A2 (secs m) ∧ Met w' g (k + 1) ∧ Kept (fun b => b = g) w w' := by
  refine (present_any (Mt.one g hg) k (by omega) A cp l (by omega) hcp a p c d hd now (fun s hs => by have := right_tries (hr s hs); omega) (fun s hs => right_digest (hr s hs)) w hM hR.tab hA).mono ?_
  rintro e w' ⟨⟨v, rfl, A2, c2, rfl, hc2, hA2⟩, h1, h2⟩
  obtain ⟨f0, f1, f2, f3, f4, f5, hf⟩ := secOf_form (Va.present (ba (digL p d)) l (a, p, c) now).2.1
  refine ⟨_, A2, c2, f0, f1, f2, f3, f4, f5, _, by rw [hf], Va.length_present _ _ _ _, Va.uniq_present hu, Va.all_present hr (fun s h1 h2 => right_less h1 h2), hc2, ?_, h1, h2⟩
  exact hA2.mono (fun q _ h => by rw [h]; exact hM.lt)
set_option maxRecDepth 100000 in
set_option maxHeartbeats 16000000 in
theorem walk (A0 : Option Addr) (c0 : Nat) (l : List Opx) (pt : ByteArray) (w : World) (hpt : pt.size ≤ maxLen) (hR : Rdy w) (hlen : l.length ≤ maxLen) (hA0 : ∀ i (hi : i < l.length), OpxOk l[i] ∧ ∃ a, A0 = some a ∧ OpxAt w (a.add (i * 17)) l[i]) :
    Calls Tryz.prog 6 #[.slice A0 l.length c0, .string pt] w fun e w' => e = .returned (.bool true) ∧ Below w.heap.size w w' := by
  have HAW := Lib.hid (fun W h => awake_any W h)
  have HAT0 := Lib.hid (fun (o : Opx) W => attempt_any o.n0 o.n1 o.n2 o.n3 W)
  have HSE0 := Lib.hid (fun (o : Opx) W => secret_any o.n0 o.n1 o.n2 o.n3 5 (by decide) W)
  have hsh := fun W => short_any pt 60 hpt W
  have hcut : (cut pt 60).data.toList.length ≤ 50000 := by have := cut_size pt 60; simp; omega
  have hback := ba_back (cut pt 60)
  obtain ⟨cl, hcl⟩ : ∃ cl, (cut pt 60).data.toList = cl := ⟨_, rfl⟩
  rw [hcl] at hcut hback
  rw [← hback] at hsh
  have HSH := Lib.hid hsh
  have HR := Lib.hid hR
  have HA0 := Lib.hid hA0
  have hll : (l.length : Int) ≤ 9223372036854775807 := by unfold maxLen at hlen; omega
  clear hR hA0 hlen hsh hback hcl hpt
  go_enter Tryz.func6, Tryz.ntmps6
  go_wp2_with fail
  refine (HAW.out _ HR.out).mono ?_
  rintro e wa ⟨rfl, hb⟩
  have HBa := Lib.hid (hb.alloc hb.size (.cells #[.int .i64 0] 60))
  have HMa := Lib.hid (show Met (wa.alloc (.cells #[.int .i64 0] 60)) wa.heap.size 0 from Blk.new wa _ _)
  have HGM : wa.heap.size ≠ 1 ∧ wa.heap.size ≠ 0 := by
    have h1 := HR.out.tab.ltK
    have h2 := HR.out.tab.ltH
    have h3 := hb.size
    omega
  have HGW := hb.size
  clear hb
  go_wp2_with fail
  generalize wa.heap.size = gm at HMa HGM HGW ⊢
  go_loopw [6, 8, 9, 10, 11, 12, 13, 14, 15, 16] (fun lv nv iv _ _ _ _ _ _ _ wr => ∃ (i : Nat) (L : List Va.Sec), iv = .int .i64 (i : Int) ∧ nv = .int .i64 (i : Int) ∧ i ≤ 30 ∧ i ≤ l.length ∧ L.length ≤ i ∧ Rw.Uniq Va.Sec.key L ∧ (∀ s ∈ L, rightS s = true) ∧ Row (fun b => b = gm) L lv wr ∧ Met wr gm i ∧ Below w.heap.size w wr) (fun _ _ iv _ _ _ _ _ _ _ _ => 30 - (intOf iv).toNat)
  case atStart => exact ⟨0, [], rfl, rfl, by omega, by omega, by simp, Rw.Uniq.nil, fun s hs => by simp at hs, ⟨none, 0, rfl, Nat.le_refl _, Lies.none _ _⟩, HMa.out, HBa.out⟩
  case round =>
    obtain ⟨i, L, rfl, rfl, hi40, hil, hLi, hU, hRL, hrow, hM, hB⟩ := hrel
    obtain ⟨A, cp, rfl, hcp, hA⟩ := hrow
    have HA := Lib.hid hA
    have HB := Lib.hid hB
    have HCP := Lib.hid hcp
    have HU := Lib.hid hU
    have HRL := Lib.hid hRL
    have HM := Lib.hid hM
    clear hA hB hcp hU hRL hM
    by_cases hl1 : i < l.length
    · have hi1 : (i : Int) < (l.length : Int) := by omega
      by_cases hl2 : i < 30
      · have hi2 : (i : Int) < 30 := by omega
        obtain ⟨_, ad, hAd, hat⟩ := HA0.out i hl1
        subst hAd
        have hat2 := hat.below HB.out
        obtain ⟨q, hq⟩ : ∃ q, ad.add (i * 17) = q := ⟨_, rfl⟩
        obtain ⟨o, ho⟩ : ∃ o, l[i] = o := ⟨_, rfl⟩
        rw [hq, ho] at hat2
        obtain ⟨_, x0, x1, x2, x3, x4, x5, x6, x7, x8, x9, x10, x11, x12, x13, x14, x15, x16⟩ := hat2
        obtain ⟨k7, hk7, ek⟩ := and_mask o.kind 3 7 (by decide) (by decide)
        rw [show (2 : Nat) ^ 3 = 8 by decide] at hk7
        have HAT := Lib.hid (HAT0.out o)
        unfold plOf at HAT
        have HSE := Lib.hid (HSE0.out o)
        obtain ⟨pl, hpl⟩ : ∃ pl, plainL (purOf o.n1) (ten10 (d7 o.n3)) = pl := ⟨_, rfl⟩
        have hpl2 : pl.length ≤ 50000 := by rw [← hpl]; exact plain_len _ _
        rw [hpl] at HAT
        clear ho hat hpl
        have HO0 := Lib.hid (Blk.new wr 39 #[.int .i64 o.kind, .int .i64 o.ticks, .int .i64 o.n0, .int .i64 o.n1, .int .i64 o.n2, .int .i64 o.n3, .bool o.raw, .string o.s.digest, .int .i64 o.s.account, .int .i64 o.s.purpose, .string o.s.channel, .int .i64 o.s.expires, .int .i64 o.s.tries, .int .i64 o.aa, .int .i64 o.ap, .string o.ac, .string o.al])
        have hal0 : Below wr.heap.size wr (wr.alloc (.cells #[.int .i64 o.kind, .int .i64 o.ticks, .int .i64 o.n0, .int .i64 o.n1, .int .i64 o.n2, .int .i64 o.n3, .bool o.raw, .string o.s.digest, .int .i64 o.s.account, .int .i64 o.s.purpose, .string o.s.channel, .int .i64 o.s.expires, .int .i64 o.s.tries, .int .i64 o.aa, .int .i64 o.ap, .string o.ac, .string o.al] 39)) := (Below.refl _ wr).alloc (Nat.le_refl _) _
        have HB0 := Lib.hid (HB.out.trans (hal0.mono HB.out.size))
        have HA1 := Lib.hid (HA.out.below hal0)
        have HM1 := Lib.hid (HM.out.of (hal0.block _ HM.out.lt))
        clear hal0
        by_cases h3 : (k7 : Int) < 3
        · as_aux_lemma =>
            have hrt := sec_right o.n0 o.n1 o.n2 o.n3 5
            have hch : (secQ o.n0 o.n1 o.n2 o.n3 5).channel.size ≤ 50000 := ch_size o.n2
            generalize secQ o.n0 o.n1 o.n2 o.n3 5 = S0 at *
            rw [sec_row] at HSE
            have hput := fun W hW hW2 => put_any (S := fun b => b = gm) A cp L (by omega) HCP.out S0 hch W hW hW2
            rw [hrt, Va.put_ok _ _ (by omega)] at hput
            have HPUT := Lib.hid hput
            obtain ⟨L2, hL2⟩ : ∃ L2, Rw.put Va.Sec.key L S0 = L2 := ⟨_, rfl⟩
            have hlen2 : L2.length ≤ i + 1 := by rw [← hL2, Rw.put_length]; split <;> omega
            have HU2 := Lib.hid (show Rw.Uniq Va.Sec.key L2 by rw [← hL2]; exact HU.out.put S0)
            have HR2 := Lib.hid (show ∀ s ∈ L2, rightS s = true by rw [← hL2]; exact Va.all_put HRL.out hrt)
            rw [hL2] at HPUT
            clear hput hrt hch hL2
            go_wp2_with fail
            refine (HSE.out _).mono ?_
            rintro e v3 ⟨rfl, hb⟩
            have HB3 := Lib.hid (HB0.out.trans (hb.mono HB0.out.size))
            have HA3 := Lib.hid (HA1.out.below hb)
            have HM3 := Lib.hid (HM1.out.of (hb.block _ HM1.out.lt))
            have HO3 := Lib.hid (HO0.out.of (hb.block _ HO0.out.lt))
            clear hb x0 x1 x2 x3 x4 x5 x6 x7 x8 x9 x10 x11 x12 x13 x14 x15 x16
            go_wp2_with fail
            refine (HPUT.out _ (HR.out.next HB3.out).max HA3.out).mono ?_
            rintro e v5 ⟨⟨v, rfl, hv⟩, hb⟩
            obtain ⟨A5, cp5, rfl, hc5, hA5⟩ := hv
            have hml := HM3.out.lt
            have HAu := Lib.hid (hA5.mono (T := fun b => b = gm) (fun q hq h => by rw [h]; exact hml))
            have HCu := Lib.hid hc5
            have HBu := Lib.hid (HB3.out.trans (hb.mono HB3.out.size))
            have HMu := Lib.hid (HM3.out.of (hb.block _ HM3.out.lt))
            have HOu := Lib.hid (HO3.out.of (hb.block _ HO3.out.lt))
            clear hb hA5 hc5 hml HB3 HM3 HO3 HA3
            have n2 : v5.cell? ⟨wr.heap.size, 2, none⟩ = some (.int .i64 o.n0) := (HOu.out.cell 2).trans rfl
            have n3 : v5.cell? ⟨wr.heap.size, 3, none⟩ = some (.int .i64 o.n1) := (HOu.out.cell 3).trans rfl
            have n4 : v5.cell? ⟨wr.heap.size, 4, none⟩ = some (.int .i64 o.n2) := (HOu.out.cell 4).trans rfl
            have n5 : v5.cell? ⟨wr.heap.size, 5, none⟩ = some (.int .i64 o.n3) := (HOu.out.cell 5).trans rfl
            go_wp2_with fail
            refine (HAT.out _).mono ?_
            rintro e u1 ⟨rfl, hb⟩
            have HA6 := Lib.hid (HAu.out.below hb)
            have HB6 := Lib.hid (HBu.out.trans (hb.mono HBu.out.size))
            have HM6 := Lib.hid (HMu.out.of (hb.block _ HMu.out.lt))
            have HO6 := Lib.hid (HOu.out.of (hb.block _ HOu.out.lt))
            clear hb n2 n3 n4 n5
            have o3 : ∀ x, (u1.alloc x).cell? ⟨wr.heap.size, 3, none⟩ = some (.int .i64 o.n1) := fun x => ((HO6.out.alloc x).cell 3).trans rfl
            have o6 : ∀ x, (u1.alloc x).cell? ⟨wr.heap.size, 6, none⟩ = some (.bool o.raw) := fun x => ((HO6.out.alloc x).cell 6).trans rfl
            have o1 : ∀ x, (u1.alloc x).cell? ⟨wr.heap.size, 1, none⟩ = some (.int .i64 o.ticks) := fun x => ((HO6.out.alloc x).cell 1).trans rfl
            cases hrw : o.raw with
            | false =>
              rw [hrw] at o6
              have HX7 := Lib.hid (Blk.new u1 37 #[.int .i64 (accOf o.n0), .int .i64 (purOf o.n1), .string (chOf o.n2), .string (ba pl)])
              have hal7 : Below u1.heap.size u1 (u1.alloc (.cells #[.int .i64 (accOf o.n0), .int .i64 (purOf o.n1), .string (chOf o.n2), .string (ba pl)] 37)) := (Below.refl _ u1).alloc (Nat.le_refl _) _
              have HP := Lib.hid (pres_one HGM i (by omega) A5 cp5 L2 (by omega) HCu.out (accOf o.n0) (purOf o.n1) (chOf o.n2) pl hpl2 o.ticks HU2.out HR2.out _ (HM6.out.of (hal7.block _ HM6.out.lt)) (HR.out.next (HB6.out.trans (hal7.mono HB6.out.size))) (HA6.out.below hal7))
              have HB7 := Lib.hid (HB6.out.trans (hal7.mono HB6.out.size))
              clear hal7
              clear hrw
              go_wp2_with fail
              refine HP.out.mono ?_
              rintro e u2 ⟨m, A2, c2, f0, f1, f2, f3, f4, f5, er, rfl, hml, hUm, hRm, hc2, hA2, hM2, hK2⟩
              have hal8 : Below u2.heap.size u2 (u2.alloc (.cells #[.string f0, .int .i64 f1, .int .i64 f2, .string f3, .int .i64 f4, .int .i64 f5] 26)) := (Below.refl _ u2).alloc (Nat.le_refl _) _
              have HB8 := Lib.hid ((Kept.below HB7.out hK2 (fun q h => by rw [h]; exact HGW) HB7.out.size).trans (hal8.mono (by have h1 := HB7.out.size; have h2 := hK2.size; omega)))
              have HM8 := Lib.hid (show Met _ gm (i + 1) from hM2.of (hal8.block _ hM2.lt))
              have HA8 := Lib.hid (hA2.below hal8)
              have HUm := Lib.hid hUm
              have HRm := Lib.hid hRm
              have HCm := Lib.hid hc2
              clear hal8 hM2 hK2 hA2 hUm hRm hc2
              go_wp2_with fail
              refine (mcount_any gm (i + 1) _ HM8.out).mono ?_
              rintro e _ ⟨rfl, rfl⟩
              go_wp2_with fail
              go_roundw
              case rel => exact ⟨i + 1, m, by go_num, by go_num, by omega, by omega, by omega, HUm.out, HRm.out, ⟨A2, c2, rfl, HCm.out, HA8.out⟩, HM8.out, HB8.out⟩
              case measure => simp [intOf]; omega
            | true =>
              rw [hrw] at o6
              have HX7 := Lib.hid (Blk.new u1 37 #[.int .i64 (accOf o.n0), .int .i64 o.n1, .string (chOf o.n2), .string (ba cl)])
              have hal7 : Below u1.heap.size u1 (u1.alloc (.cells #[.int .i64 (accOf o.n0), .int .i64 o.n1, .string (chOf o.n2), .string (ba cl)] 37)) := (Below.refl _ u1).alloc (Nat.le_refl _) _
              have HP := Lib.hid (pres_one HGM i (by omega) A5 cp5 L2 (by omega) HCu.out (accOf o.n0) o.n1 (chOf o.n2) cl hcut o.ticks HU2.out HR2.out _ (HM6.out.of (hal7.block _ HM6.out.lt)) (HR.out.next (HB6.out.trans (hal7.mono HB6.out.size))) (HA6.out.below hal7))
              have HB7 := Lib.hid (HB6.out.trans (hal7.mono HB6.out.size))
              clear hal7
              clear hrw
              go_wp2_with fail
              refine (HSH.out _).mono ?_
              rintro e _ ⟨rfl, rfl⟩
              go_wp2_with fail
              refine HP.out.mono ?_
              rintro e u2 ⟨m, A2, c2, f0, f1, f2, f3, f4, f5, er, rfl, hml, hUm, hRm, hc2, hA2, hM2, hK2⟩
              have hal8 : Below u2.heap.size u2 (u2.alloc (.cells #[.string f0, .int .i64 f1, .int .i64 f2, .string f3, .int .i64 f4, .int .i64 f5] 26)) := (Below.refl _ u2).alloc (Nat.le_refl _) _
              have HB8 := Lib.hid ((Kept.below HB7.out hK2 (fun q h => by rw [h]; exact HGW) HB7.out.size).trans (hal8.mono (by have h1 := HB7.out.size; have h2 := hK2.size; omega)))
              have HM8 := Lib.hid (show Met _ gm (i + 1) from hM2.of (hal8.block _ hM2.lt))
              have HA8 := Lib.hid (hA2.below hal8)
              have HUm := Lib.hid hUm
              have HRm := Lib.hid hRm
              have HCm := Lib.hid hc2
              clear hal8 hM2 hK2 hA2 hUm hRm hc2
              go_wp2_with fail
              refine (mcount_any gm (i + 1) _ HM8.out).mono ?_
              rintro e _ ⟨rfl, rfl⟩
              go_wp2_with fail
              go_roundw
              case rel => exact ⟨i + 1, m, by go_num, by go_num, by omega, by omega, by omega, HUm.out, HRm.out, ⟨A2, c2, rfl, HCm.out, HA8.out⟩, HM8.out, HB8.out⟩
              case measure => simp [intOf]; omega
        · as_aux_lemma =>
            go_wp2_with fail
            have HAu := HA1
            have HCu := HCP
            have HBu := HB0
            have HMu := HM1
            have HOu := HO0
            have HU2 := HU
            have HR2 := HRL
            have hlen2 : L.length ≤ i + 1 := by omega
            refine (HAT.out _).mono ?_
            rintro e u1 ⟨rfl, hb⟩
            have HA6 := Lib.hid (HAu.out.below hb)
            have HB6 := Lib.hid (HBu.out.trans (hb.mono HBu.out.size))
            have HM6 := Lib.hid (HMu.out.of (hb.block _ HMu.out.lt))
            have HO6 := Lib.hid (HOu.out.of (hb.block _ HOu.out.lt))
            clear hb x0 x1 x2 x3 x4 x5 x6 x7 x8 x9 x10 x11 x12 x13 x14 x15 x16
            have o3 : ∀ x, (u1.alloc x).cell? ⟨wr.heap.size, 3, none⟩ = some (.int .i64 o.n1) := fun x => ((HO6.out.alloc x).cell 3).trans rfl
            have o6 : ∀ x, (u1.alloc x).cell? ⟨wr.heap.size, 6, none⟩ = some (.bool o.raw) := fun x => ((HO6.out.alloc x).cell 6).trans rfl
            have o1 : ∀ x, (u1.alloc x).cell? ⟨wr.heap.size, 1, none⟩ = some (.int .i64 o.ticks) := fun x => ((HO6.out.alloc x).cell 1).trans rfl
            cases hrw : o.raw with
            | false =>
              rw [hrw] at o6
              have HX7 := Lib.hid (Blk.new u1 37 #[.int .i64 (accOf o.n0), .int .i64 (purOf o.n1), .string (chOf o.n2), .string (ba pl)])
              have hal7 : Below u1.heap.size u1 (u1.alloc (.cells #[.int .i64 (accOf o.n0), .int .i64 (purOf o.n1), .string (chOf o.n2), .string (ba pl)] 37)) := (Below.refl _ u1).alloc (Nat.le_refl _) _
              have HP := Lib.hid (pres_one HGM i (by omega) A cp L (by omega) HCu.out (accOf o.n0) (purOf o.n1) (chOf o.n2) pl hpl2 o.ticks HU2.out HR2.out _ (HM6.out.of (hal7.block _ HM6.out.lt)) (HR.out.next (HB6.out.trans (hal7.mono HB6.out.size))) (HA6.out.below hal7))
              have HB7 := Lib.hid (HB6.out.trans (hal7.mono HB6.out.size))
              clear hal7
              clear hrw
              go_wp2_with fail
              refine HP.out.mono ?_
              rintro e u2 ⟨m, A2, c2, f0, f1, f2, f3, f4, f5, er, rfl, hml, hUm, hRm, hc2, hA2, hM2, hK2⟩
              have hal8 : Below u2.heap.size u2 (u2.alloc (.cells #[.string f0, .int .i64 f1, .int .i64 f2, .string f3, .int .i64 f4, .int .i64 f5] 26)) := (Below.refl _ u2).alloc (Nat.le_refl _) _
              have HB8 := Lib.hid ((Kept.below HB7.out hK2 (fun q h => by rw [h]; exact HGW) HB7.out.size).trans (hal8.mono (by have h1 := HB7.out.size; have h2 := hK2.size; omega)))
              have HM8 := Lib.hid (show Met _ gm (i + 1) from hM2.of (hal8.block _ hM2.lt))
              have HA8 := Lib.hid (hA2.below hal8)
              have HUm := Lib.hid hUm
              have HRm := Lib.hid hRm
              have HCm := Lib.hid hc2
              clear hal8 hM2 hK2 hA2 hUm hRm hc2
              go_wp2_with fail
              refine (mcount_any gm (i + 1) _ HM8.out).mono ?_
              rintro e _ ⟨rfl, rfl⟩
              go_wp2_with fail
              go_roundw
              case rel => exact ⟨i + 1, m, by go_num, by go_num, by omega, by omega, by omega, HUm.out, HRm.out, ⟨A2, c2, rfl, HCm.out, HA8.out⟩, HM8.out, HB8.out⟩
              case measure => simp [intOf]; omega
            | true =>
              rw [hrw] at o6
              have HX7 := Lib.hid (Blk.new u1 37 #[.int .i64 (accOf o.n0), .int .i64 o.n1, .string (chOf o.n2), .string (ba cl)])
              have hal7 : Below u1.heap.size u1 (u1.alloc (.cells #[.int .i64 (accOf o.n0), .int .i64 o.n1, .string (chOf o.n2), .string (ba cl)] 37)) := (Below.refl _ u1).alloc (Nat.le_refl _) _
              have HP := Lib.hid (pres_one HGM i (by omega) A cp L (by omega) HCu.out (accOf o.n0) o.n1 (chOf o.n2) cl hcut o.ticks HU2.out HR2.out _ (HM6.out.of (hal7.block _ HM6.out.lt)) (HR.out.next (HB6.out.trans (hal7.mono HB6.out.size))) (HA6.out.below hal7))
              have HB7 := Lib.hid (HB6.out.trans (hal7.mono HB6.out.size))
              clear hal7
              clear hrw
              go_wp2_with fail
              refine (HSH.out _).mono ?_
              rintro e _ ⟨rfl, rfl⟩
              go_wp2_with fail
              refine HP.out.mono ?_
              rintro e u2 ⟨m, A2, c2, f0, f1, f2, f3, f4, f5, er, rfl, hml, hUm, hRm, hc2, hA2, hM2, hK2⟩
              have hal8 : Below u2.heap.size u2 (u2.alloc (.cells #[.string f0, .int .i64 f1, .int .i64 f2, .string f3, .int .i64 f4, .int .i64 f5] 26)) := (Below.refl _ u2).alloc (Nat.le_refl _) _
              have HB8 := Lib.hid ((Kept.below HB7.out hK2 (fun q h => by rw [h]; exact HGW) HB7.out.size).trans (hal8.mono (by have h1 := HB7.out.size; have h2 := hK2.size; omega)))
              have HM8 := Lib.hid (show Met _ gm (i + 1) from hM2.of (hal8.block _ hM2.lt))
              have HA8 := Lib.hid (hA2.below hal8)
              have HUm := Lib.hid hUm
              have HRm := Lib.hid hRm
              have HCm := Lib.hid hc2
              clear hal8 hM2 hK2 hA2 hUm hRm hc2
              go_wp2_with fail
              refine (mcount_any gm (i + 1) _ HM8.out).mono ?_
              rintro e _ ⟨rfl, rfl⟩
              go_wp2_with fail
              go_roundw
              case rel => exact ⟨i + 1, m, by go_num, by go_num, by omega, by omega, by omega, HUm.out, HRm.out, ⟨A2, c2, rfl, HCm.out, HA8.out⟩, HM8.out, HB8.out⟩
              case measure => simp [intOf]; omega
      · have hi2 : ¬ (i : Int) < 30 := by omega
        go_wp2_with fail
        refine (mcount_any gm i wr HM.out).mono ?_
        rintro e _ ⟨rfl, rfl⟩
        go_wp2_with fail
        go_ret
        exact ⟨rfl, HB.out⟩
    · have hi1 : ¬ (i : Int) < (l.length : Int) := by omega
      go_wp2_with fail
      refine (mcount_any gm i wr HM.out).mono ?_
      rintro e _ ⟨rfl, rfl⟩
      go_wp2_with fail
      go_ret
      exact ⟨rfl, HB.out⟩

/-! ### The row -/
set_option maxRecDepth 100000 in
theorem contract (H : Type) (enc : TypeId × Value → H) (W : World) (base : Nat) (args : Array Value) (ds gs : List (DataW H)) (before : List MemPlace)
    (hval : ∀ (j : Nat) t v, Tryz.f6.params[j]? = some t → args[j]? = some v → Value.okWide Tryz.prog W .any base t v)
    (hW : DataW.Whole enc Tryz.prog Tryz.f6.params.toList Rows.vaultCountsSpec.vars false W args.toList ds gs before) (hL : laidMet Tryz.prog Rows.vaultCountsRow.laid W) (hS : W.ShapedOpen Tryz.prog) :
    Calls Tryz.prog 6 args W fun e W' => ∃ v, e = .returned v ∧ Rows.vaultCountsSpec.post enc Tryz.prog Tryz.f6 false true false false W args v W' := by
  have hW' := hW
  obtain ⟨p, q, hA0, hV, rfl, hfz, hnd⟩ := hW
  have hA : DataW.TrodAll enc Tryz.prog W 0 (fun _ => true) true Tryz.f6.params.toList args.toList ds p := hA0
  rw [Tryz.params6] at hA hval
  obtain ⟨v0, vs0, d0, ds0, p0, q0, hargs, rfl, rfl, h0, r0⟩ := trodAll_cons hA
  obtain ⟨v1, vs1, d1, ds1, p1, q1, rfl, rfl, rfl, h1, r1⟩ := trodAll_cons r0
  obtain ⟨rfl, rfl, rfl⟩ := trodAll_nil r1
  obtain rfl : args = #[v0, v1] := by cases args; simp_all
  obtain ⟨rfl, rfl⟩ := trodVars_none hV
  refine law_contract (tb := 4) laidOut (by kernel_rfl) rfl (by kernel_rfl) Tryz.underlying4 rfl hW' ?_
  clear hA0 hW' hA
  obtain ⟨A0, k0, l0, rfl, z0, g0⟩ := open_ops (hval 0 23 v0 rfl rfl) h0
  obtain ⟨a1, rfl, _, _, w1⟩ := open_string Tryz.underlying9 (hval 1 9 v1 rfl rfl) h1
  exact walk A0 k0 l0 a1 W w1 (rdy_of (tab_CubeRoots (laidMet.tail hL)) (tab_SquareRoots (laidMet.tail (laidMet.tail hL))) hS) z0 g0

theorem laid_met (os : Os) : laidMet Tryz.prog Rows.vaultCountsRow.laid ((laidWorld os).forCall (fun _ _ => 0) ⟨#[], #[.slice none 0 0, .string ⟨#[]⟩], []⟩).memory :=
  laidMet_of_run' 8 (by kernel_rfl) (by kernel_rfl)
theorem reads (os : Os) {H : Type} (enc : TypeId × Value → H) : ∃ places, DataW.whole enc Tryz.prog ((laidWorld os).forCall (fun _ _ => 0) ⟨#[], #[.slice none 0 0, .string ⟨#[]⟩], []⟩).memory Tryz.f6.params.toList Rows.vaultCountsSpec.vars false (#[.slice none 0 0, .string ⟨#[]⟩] : Array Value).toList 8 = some ([.nil, .lit (.string [])], [], places) :=
  ⟨[], by kernel_rfl⟩

set_option maxRecDepth 100000 in
theorem lifted (os : Os) (started : os.Started) (H : Type) (enc : TypeId × Value → H) (F : Stop.Interp) :
    ReturnsInHanded {} Tryz.checked os 6 .any ((OpenSpec.ofChange Rows.vaultCountsSpec).preRow enc Tryz.prog Tryz.f6 Rows.vaultCountsRow.domain false Rows.vaultCountsRow.laid) (((OpenSpec.ofChange Rows.vaultCountsSpec).at F).post enc Tryz.prog Tryz.f6 false true false false) := by
  obtain ⟨places, hx⟩ := reads os enc
  refine returnsInHanded_of_row (C := Tryz.checked) (s := OpenSpec.ofChange Rows.vaultCountsSpec) own started (by kernel_rfl) Tryz.func6
    (witness_row_at (enc := enc) (C := Tryz.checked) false (laidWorld os) #[.slice none 0 0, .string ⟨#[]⟩] rfl (by kernel_rfl) (by kernel_rfl) (by kernel_rfl)
      (OpenSpec.preRow_of_cond 8 hx (by kernel_rfl) (fun k hk => by cases hk) (by kernel_rfl) (laid_met os))) ?_
  intro W base args ds gs before hval hW _ _ _ hL hS _
  exact contract H enc W base args ds gs before hval hW hL hS

theorem said : Rows.VaultCountsSaid :=
  OpenClaim.holds_of_cond 6 Tryz.f6 rfl rfl rfl rfl rfl rfl rfl ⟨rfl, rfl, rfl, rfl, rfl⟩ rfl rfl rfl rfl rfl (by kernel_rfl) Tryz.func6 (by kernel_rfl)
    (of_decide_eq_true (by kernel_rfl)) (by unfold Func.isWrapper; first | (rw [if_pos (by decide +kernel)]; kernel_rfl) | (rw [if_neg (by decide +kernel)]; exact ⟨rfl, rfl⟩))
    (fun os started H enc _ F => by rw [OpenClaim.pre_eq_preRow]; exact lifted os started H enc F)

theorem plain (f : FuncId) (fn : Func) (hf : Tryz.pinned.checked.prog.funcNamed "homecoming/homecominglaw11.VaultCounts" = some f) (hfn : Tryz.pinned.checked.prog.funcs[f]? = some fn) :
    false = Tryz.pinned.checked.prog.looks [] ∧ ∀ (j : Nat) t, fn.params[j]? = some t → Tryz.pinned.checked.prog.wantsStandIn t = false := by
  obtain rfl : f = 6 := Option.some.inj ((show Tryz.prog.funcNamed "homecoming/homecominglaw11.VaultCounts" = some 6 by kernel_rfl).symm.trans hf) |>.symm
  obtain rfl : fn = Tryz.f6 := (Option.some.inj (Tryz.func6.symm.trans hfn)).symm
  refine ⟨by kernel_rfl, fun j t ht => ?_⟩
  have hall : (Tryz.f6.params.toList.all fun u => !Tryz.prog.wantsStandIn u) = true := by kernel_rfl
  have hm : t ∈ Tryz.f6.params.toList := by simpa using Array.mem_of_getElem? ht
  exact (show Tryz.prog.wantsStandIn t = false by simpa using List.all_eq_true.1 hall t hm)

/-- THE STATEMENT. -/
theorem card : Rows.VaultCountsCardSaid :=
  Claim7.holds_tied_plain_at .later [] _ _ _ _ said (fun _ h => by cases h) (by kernel_rfl) (fun _ h => by cases h) vaultCounts_row_tie rfl ⟨rfl, rfl⟩ (by kernel_rfl) rfl plain (by kernel_rfl)
#print axioms card
end Go.Proofs.YtfjdcopndkdbmaaGreatDoor.vaultCounts
