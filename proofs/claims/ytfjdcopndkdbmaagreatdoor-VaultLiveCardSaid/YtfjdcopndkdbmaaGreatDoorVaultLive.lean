/-
  Proves the statement of VaultLive: for every row of steps the law returns true (a wrong attempt takes one of the tries that are left, a right one all; what is over has none), and its argument reads as it did. Conditions: the package-level tables acceptRanges and first of the library and cubeRoots and squareRoots of package sha hold what their texts lay.
-/
import Derived.Test.YtfjdcopndkdbmaaGreatDoorOpx
import Derived.Test.YtfjdcopndkdbmaaGreatDoorVsG
import Derived.Test.YtfjdcopndkdbmaaGreatDoorVtO
import Derived.Test.YtfjdcopndkdbmaaGreatDoorTabs
import Derived.Test.YtfjdcopndkdbmaaGreatDoorCards
import Derived.Test.YtfjdcopndkdbmaaGreatDoorTie
namespace Go.Proofs.YtfjdcopndkdbmaaGreatDoor.vaultLive
open Go.ChangeShapes Go.WideShapes Go.ChangeAt Go.RowKit
open Go.ChangeMaps (open_string shut_string)

theorem live_cases {L : List Va.Sec} (hu : Rw.Uniq Va.Sec.key L) (hr : ∀ s ∈ L, rightS s = true) (d : ByteArray) (k : Va.Key) (now : Int) :
    (Va.live L k now = 0 ∧ (Va.present d L k now).2 = (none, 12)) ∨ (Va.live L k now = 0 ∧ (Va.present d L k now).2 = (none, 19)) ∨
    (∃ s, (Va.present d L k now).2 = (some s, 0) ∧ 1 ≤ Va.live L k now ∧ Va.live (Va.present d L k now).1 k now = 0) ∨
    ((Va.present d L k now).2 = (none, 21) ∧ 1 ≤ Va.live L k now ∧ Va.live L k now ≤ 5 ∧ Va.live (Va.present d L k now).1 k now = Va.live L k now - 1) := by
  have hl := Va.live_present (d := d) (k := k) (now := now) hu (fun s hs => (right_tries (hr s hs)).1)
  have ht := Va.told_present (d := d) (l := L) (k := k) (now := now)
  cases hf : Rw.find Va.Sec.key L k with
  | none =>
    rw [hf] at ht
    refine .inl ⟨?_, ht⟩
    unfold Va.live
    rw [hf]
  | some s =>
    have hs := right_tries (hr s (Rw.find_mem hf))
    rw [hf] at ht hl
    simp only at ht hl
    have hlv : Va.live L k now = if now < s.expires then s.tries else 0 := by unfold Va.live; rw [hf]
    by_cases h1 : s.expires ≤ now
    · rw [if_pos h1] at ht
      exact .inr (.inl ⟨by rw [hlv, if_neg (by omega)], ht⟩)
    · rw [if_neg h1] at ht hl
      rw [if_pos (by omega)] at hlv
      by_cases h2 : s.digest = d
      · rw [if_pos h2] at ht hl
        exact .inr (.inr (.inl ⟨s, ht, by omega, hl⟩))
      · rw [if_neg h2] at ht hl
        exact .inr (.inr (.inr ⟨ht, by omega, by omega, by omega⟩))
/-- What each operation of the drawn statement leaves. -/
def Vi13 (A5 : Option Addr) (n5 : Nat) (cp5 : Nat) (g9 : Nat) (S0 : Va.Sec) (now2 : Int) (T : Int) : Nat → Value → Prop
  | 0, v => v = .int .i64 0
  | 1, v => v = .bool false
  | 2, v => v = .bool false
  | 3, v => v = .slice A5 n5 cp5
  | 4, v => v = .pointer (some ⟨g9, 1, none⟩)
  | 5, v => v = .int .i64 S0.account
  | 6, v => v = .pointer (some ⟨g9, 2, none⟩)
  | 7, v => v = .int .i64 S0.purpose
  | 8, v => v = .pointer (some ⟨g9, 3, none⟩)
  | 9, v => v = .string S0.channel
  | 10, v => v = .int .i64 now2
  | 11, v => v = .int .i64 T
  | 12, v => v = .pointer (some ⟨g9, 2, none⟩)
  | 13, v => v = .int .i64 S0.purpose
  | 14, v => v = .int .i64 T
  | 15, v => v = .bool false
  | 16, v => v = .bool false
  | 17, v => v = .bool false
  | 18, v => v = .slice A5 n5 cp5
  | 19, v => v = .pointer (some ⟨g9, 1, none⟩)
  | 20, v => v = .int .i64 S0.account
  | 21, v => v = .pointer (some ⟨g9, 2, none⟩)
  | 22, v => v = .int .i64 S0.purpose
  | 23, v => v = .pointer (some ⟨g9, 3, none⟩)
  | 24, v => v = .string S0.channel
  | 25, v => v = .pointer (some ⟨g9, 4, none⟩)
  | 26, v => v = .int .i64 S0.expires
  | 27, v => v = .int .i64 0
  | 28, v => v = .bool false
  | 29, v => v = .bool false
  | _, _ => True
set_option maxRecDepth 100000 in
set_option maxHeartbeats 16000000 in
theorem walk (A0 : Option Addr) (c0 : Nat) (l : List Opx) (w : World) (hR : Rdy w) (hlen : l.length ≤ maxLen) (hA0 : ∀ i (hi : i < l.length), OpxOk l[i] ∧ ∃ a, A0 = some a ∧ OpxAt w (a.add (i * 17)) l[i]) :
    Calls Tryz.prog 9 #[.slice A0 l.length c0] w fun e w' => e = .returned (.bool true) ∧ Below w.heap.size w w' := by
  have HAW := Lib.hid (fun W h => awake_any W h)
  have HAT0 := Lib.hid (fun (o : Opx) W => attempt_any o.n0 o.n1 o.n2 o.n3 W)
  have HSE0 := Lib.hid (fun (o : Opx) (n : Int) (hn : 0 ≤ n ∧ n ≤ 1099511627776) W => secret_any o.n0 o.n1 o.n2 o.n3 n hn W)
  have HPRES := Lib.hid (fun (A : Option Addr) (cp : Nat) (L : List Va.Sec) (hl : L.length ≤ 900000) (hcp : L.length ≤ cp) (o : Opx) (now : Int) (hr : ∀ s ∈ L, rightS s = true) (W : World) (hW : Rdy W) (hL : Lies (fun _ => False) W A (secs L)) => pres_nil A cp L hl hcp (accOf o.n0) (purOf o.n1) (chOf o.n2) (plainL (purOf o.n1) (ten10 (d7 o.n3))) (plain_len _ _) now hr W hW hL)
  have HR := Lib.hid hR
  have HA0 := Lib.hid hA0
  have hll : (l.length : Int) ≤ 9223372036854775807 := by unfold maxLen at hlen; omega
  clear hR hA0 hlen
  go_enter Tryz.func9, Tryz.ntmps9
  go_wp2_with fail
  refine (HAW.out _ HR.out).mono ?_
  rintro e wa ⟨rfl, hb⟩
  have HBa := Lib.hid hb
  clear hb
  go_wp2_with fail
  go_loopw [4, 5, 6, 7, 8, 9, 10, 11, 12, 13, 14, 15, 16] (fun lv nv iv _ _ _ _ _ _ _ _ _ _ wr => ∃ (i : Nat) (now : Int) (L : List Va.Sec), iv = .int .i64 (i : Int) ∧ nv = .int .i64 now ∧ i ≤ 40 ∧ i ≤ l.length ∧ 0 ≤ now ∧ now ≤ 63 * (i : Int) ∧ L.length ≤ i ∧ Rw.Uniq Va.Sec.key L ∧ (∀ s ∈ L, rightS s = true) ∧ Row (fun _ => False) L lv wr ∧ Below w.heap.size w wr) (fun _ _ iv _ _ _ _ _ _ _ _ _ _ _ => 40 - (intOf iv).toNat)
  case atStart => exact ⟨0, 0, [], rfl, rfl, by omega, by omega, by omega, by omega, by simp, Rw.Uniq.nil, fun s hs => by simp at hs, ⟨none, 0, rfl, Nat.le_refl _, Lies.none _ _⟩, HBa.out⟩
  case round =>
    obtain ⟨i, now, L, rfl, rfl, hi40, hil, hn0, hn1, hLi, hU, hRL, hrow, hB⟩ := hrel
    obtain ⟨A, cp, rfl, hcp, hA⟩ := hrow
    have HA := Lib.hid hA
    have HB := Lib.hid hB
    have HCP := Lib.hid hcp
    have HU := Lib.hid hU
    have HRL := Lib.hid hRL
    clear hA hB hcp hU hRL
    by_cases hl1 : i < l.length
    · have hi1 : (i : Int) < (l.length : Int) := by omega
      by_cases hl2 : i < 40
      · have hi2 : (i : Int) < 40 := by omega
        obtain ⟨_, ad, hAd, hat⟩ := HA0.out i hl1
        subst hAd
        have hat2 := hat.below HB.out
        obtain ⟨q, hq⟩ : ∃ q, ad.add (i * 17) = q := ⟨_, rfl⟩
        obtain ⟨o, ho⟩ : ∃ o, l[i] = o := ⟨_, rfl⟩
        rw [hq, ho] at hat2
        obtain ⟨_, x0, x1, x2, x3, x4, x5, x6, x7, x8, x9, x10, x11, x12, x13, x14, x15, x16⟩ := hat2
        obtain ⟨k7, hk7, ek⟩ := and_mask o.kind 3 7 (by decide) (by decide)
        obtain ⟨tk, htk, et⟩ := and_mask o.ticks 6 63 (by decide) (by decide)
        rw [show (2 : Nat) ^ 3 = 8 by decide] at hk7
        rw [show (2 : Nat) ^ 6 = 64 by decide] at htk
        obtain ⟨now2, hnow2⟩ : ∃ z, now + (tk : Int) = z := ⟨_, rfl⟩
        have hwn : IntKind.i64.wrap (now + (tk : Int)) = now2 := by rw [IntKind.wrap_i64]; omega
        have hn2 : 0 ≤ now2 ∧ now2 ≤ 63 * ((i : Int) + 1) := by omega
        have HAT := Lib.hid (HAT0.out o)
        unfold plOf at HAT
        have HP := Lib.hid (HPRES.out A cp L (by omega) HCP.out o now2 HRL.out)
        have HSE := Lib.hid (fun W => HSE0.out o now2 (by omega) W)
        have hdg := sec_digest o.n0 o.n1 o.n2 o.n3 now2
        clear hnow2 ho hat htk
        have HO0 := Lib.hid (Blk.new wr 39 #[.int .i64 o.kind, .int .i64 o.ticks, .int .i64 o.n0, .int .i64 o.n1, .int .i64 o.n2, .int .i64 o.n3, .bool o.raw, .string o.s.digest, .int .i64 o.s.account, .int .i64 o.s.purpose, .string o.s.channel, .int .i64 o.s.expires, .int .i64 o.s.tries, .int .i64 o.aa, .int .i64 o.ap, .string o.ac, .string o.al])
        have HB0 := Lib.hid (HB.out.alloc HB.out.size (.cells #[.int .i64 o.kind, .int .i64 o.ticks, .int .i64 o.n0, .int .i64 o.n1, .int .i64 o.n2, .int .i64 o.n3, .bool o.raw, .string o.s.digest, .int .i64 o.s.account, .int .i64 o.s.purpose, .string o.s.channel, .int .i64 o.s.expires, .int .i64 o.s.tries, .int .i64 o.aa, .int .i64 o.ap, .string o.ac, .string o.al] 39))
        have HA1 := Lib.hid (HA.out.below ((Below.refl _ wr).alloc (Nat.le_refl _) (.cells #[.int .i64 o.kind, .int .i64 o.ticks, .int .i64 o.n0, .int .i64 o.n1, .int .i64 o.n2, .int .i64 o.n3, .bool o.raw, .string o.s.digest, .int .i64 o.s.account, .int .i64 o.s.purpose, .string o.s.channel, .int .i64 o.s.expires, .int .i64 o.s.tries, .int .i64 o.aa, .int .i64 o.ap, .string o.ac, .string o.al] 39)))
        go_wp2_with fail
        refine (HAT.out _).mono ?_
        rintro e v1 ⟨rfl, hb⟩
        clear x0 x1 x2 x3 x4 x5 x6 x7 x8 x9 x10 x11 x12 x13 x14 x15 x16
        have hO1 := HO0.out.of (hb.block _ HO0.out.lt)
        have HA2 := Lib.hid ((HA1.out.below hb).below ((Below.refl _ v1).alloc (Nat.le_refl _) (.cells #[.int .i64 (accOf o.n0), .int .i64 (purOf o.n1), .string (chOf o.n2), .string (ba (plainL (purOf o.n1) (ten10 (d7 o.n3))))] 37)))
        have HB2 := Lib.hid ((HB0.out.trans (hb.mono HB0.out.size)).alloc (by have h1 := HB0.out.size; have h2 := hb.size; omega) (.cells #[.int .i64 (accOf o.n0), .int .i64 (purOf o.n1), .string (chOf o.n2), .string (ba (plainL (purOf o.n1) (ten10 (d7 o.n3))))] 37))
        have HT2 := Lib.hid (Blk.new v1 37 #[.int .i64 (accOf o.n0), .int .i64 (purOf o.n1), .string (chOf o.n2), .string (ba (plainL (purOf o.n1) (ten10 (d7 o.n3))))])
        have o0 : ∀ x, (v1.alloc x).cell? ⟨wr.heap.size, 0, none⟩ = some (.int .i64 o.kind) := fun x => ((hO1.alloc x).cell 0).trans rfl
        have o2 : ∀ x, (v1.alloc x).cell? ⟨wr.heap.size, 2, none⟩ = some (.int .i64 o.n0) := fun x => ((hO1.alloc x).cell 2).trans rfl
        have o3 : ∀ x, (v1.alloc x).cell? ⟨wr.heap.size, 3, none⟩ = some (.int .i64 o.n1) := fun x => ((hO1.alloc x).cell 3).trans rfl
        have o4 : ∀ x, (v1.alloc x).cell? ⟨wr.heap.size, 4, none⟩ = some (.int .i64 o.n2) := fun x => ((hO1.alloc x).cell 4).trans rfl
        have o5 : ∀ x, (v1.alloc x).cell? ⟨wr.heap.size, 5, none⟩ = some (.int .i64 o.n3) := fun x => ((hO1.alloc x).cell 5).trans rfl
        clear hb hO1 HA1 HB0 HO0
        by_cases h3 : (k7 : Int) < 3
        · have hrt := sec_right o.n0 o.n1 o.n2 o.n3 now2
          have hlf := Mi.life_at (purOf o.n1) (pur_in o.n1)
          have hex : (secQ o.n0 o.n1 o.n2 o.n3 now2).expires = now2 + Mi.life (purOf o.n1) := by rw [sec_expires, Mi.clock_low _ _ (by omega) (by omega) (by omega)]
          have htr := sec_tries o.n0 o.n1 o.n2 o.n3 now2
          have hpu : (secQ o.n0 o.n1 o.n2 o.n3 now2).purpose = purOf o.n1 := rfl
          have hch : (secQ o.n0 o.n1 o.n2 o.n3 now2).channel.size ≤ 50000 := ch_size o.n2
          rw [← hpu] at htr
          generalize secQ o.n0 o.n1 o.n2 o.n3 now2 = S0 at *
          rw [sec_row] at HSE
          have hput := fun W hW hW2 => put_any (S := fun _ => False) A cp L (by omega) HCP.out S0 hch W hW hW2
          rw [hrt, Va.put_ok _ _ (by omega)] at hput
          have HPUT := Lib.hid hput
          have HRT := Lib.hid hrt
          obtain ⟨L2, hL2⟩ : ∃ L2, Rw.put Va.Sec.key L S0 = L2 := ⟨_, rfl⟩
          have hfp := Rw.find_put (key := Va.Sec.key) L S0 S0.key
          rw [if_pos rfl, hL2] at hfp
          have hlen2 : L2.length ≤ i + 1 := by rw [← hL2, Rw.put_length]; split <;> omega
          have hU2 : Rw.Uniq Va.Sec.key L2 := by rw [← hL2]; exact HU.out.put S0
          have hR2 : ∀ s ∈ L2, rightS s = true := by rw [← hL2]; exact Va.all_put HRL.out hrt
          have hv1 : Va.live L2 S0.key now2 = S0.tries := by unfold Va.live; rw [hfp]; exact if_pos (by omega)
          have hv2 : Va.live L2 S0.key S0.expires = 0 := by unfold Va.live; rw [hfp]; exact if_neg (by omega)
          rw [hL2] at HPUT
          have HTR0 := Lib.hid (fun W => rtries_any S0.purpose W)
          rw [← htr] at HTR0
          obtain ⟨T, hT⟩ : ∃ T, S0.tries = T := ⟨_, rfl⟩
          have HU2 := Lib.hid hU2
          have HR2 := Lib.hid hR2
          have hlv1 := fun (A5 : Option Addr) (cp5 : Nat) (W : World) (h : Lies (fun _ => False) W A5 (secs L2)) => live_any A5 cp5 L2 (by omega) S0.account S0.purpose S0.channel now2 W h
          have hlv2 := fun (A5 : Option Addr) (cp5 : Nat) (W : World) (h : Lies (fun _ => False) W A5 (secs L2)) => live_any A5 cp5 L2 (by omega) S0.account S0.purpose S0.channel S0.expires W h
          rw [show Va.live L2 (S0.account, S0.purpose, S0.channel) now2 = T from hv1.trans hT] at hlv1
          rw [show Va.live L2 (S0.account, S0.purpose, S0.channel) S0.expires = 0 from hv2] at hlv2
          have HLV1 := Lib.hid hlv1
          have HLV2 := Lib.hid hlv2
          have HTT := Lib.hid hT
          clear hput hrt hex hpu hch hfp hU2 hR2 hv1 hv2 hlv1 hlv2 hL2 HP hdg hlf htr hT
          go_wp2_with fail
          refine (HSE.out _).mono ?_
          rintro e v3 ⟨rfl, hb⟩
          have HA4 := Lib.hid ((HA2.out.below hb).below ((Below.refl _ v3).alloc (Nat.le_refl _) (.cells #[.string S0.digest, .int .i64 S0.account, .int .i64 S0.purpose, .string S0.channel, .int .i64 S0.expires, .int .i64 S0.tries] 26)))
          have HB4 := Lib.hid ((HB2.out.trans (hb.mono HB2.out.size)).alloc (by have h1 := HB2.out.size; have h2 := hb.size; omega) (.cells #[.string S0.digest, .int .i64 S0.account, .int .i64 S0.purpose, .string S0.channel, .int .i64 S0.expires, .int .i64 S0.tries] 26))
          have HS4 := Lib.hid (Blk.new v3 26 #[.string S0.digest, .int .i64 S0.account, .int .i64 S0.purpose, .string S0.channel, .int .i64 S0.expires, .int .i64 S0.tries])
          clear hb o0 o2 o3 o4 o5 HA2 HT2
          go_wp2_with fail
          refine (HPUT.out _ (HR.out.next HB4.out).max HA4.out).mono ?_
          rintro e v5 ⟨⟨v, rfl, hv⟩, hb⟩
          obtain ⟨A5, cp5, rfl, hc5, hA5⟩ := hv
          have HA5 := Lib.hid (hA5.mono (T := fun _ => False) (fun _ _ h => h.elim))
          have HC5 := Lib.hid hc5
          have HB5 := Lib.hid (HB4.out.trans (hb.mono HB4.out.size))
          have HS5 := Lib.hid (HS4.out.of (hb.block _ HS4.out.lt))
          clear hb hA5 hc5 HB4 HS4 HA4
          go_upto_region 13 with fail
          obtain ⟨n5, hn5⟩ : ∃ n, L2.length = n := ⟨_, rfl⟩
          generalize v3.heap.size = g9 at HS5 ⊢
          have HL1 := Lib.hid (fun W (h : Below v5.heap.size v5 W) => HLV1.out A5 cp5 W (HA5.out.below h))
          have HL2 := Lib.hid (fun W (h : Below v5.heap.size v5 W) => HLV2.out A5 cp5 W (HA5.out.below h))
          rw [hn5] at HL1 HL2
          simp only [hn5]
          have HTR := HTR0
          rw [HTT.out] at HTR HS5
          simp only [HTT.out]
          have HN5 := Lib.hid hn5
          clear hn5
          refine wp_region_some (by kernel_rfl) (fun i v _ => Vi13 A5 n5 cp5 g9 S0 now2 T i v) (fun _ _ W => Gc v5 W) (fun w w' => Below w.heap.size w w') (by kernel_rfl) (by kernel_rfl) 140 rfl (by kernel_rfl) (fun _ _ _ _ h _ => by exact h) (fun _ => (Below.refl _ _)) (Gc.start v5) ?_ ?_
          · intro i o ho listed x W hs hdep hun hg hk
            match i, ho with
            | 0, ho =>
              cases ho
              have q11 : x.tmps[11]?.getD undef = .int .i64 0 := hk.fix 11 (by kernel_rfl)
              refine .inl ⟨wanted_plain rfl, ?_⟩
              refine wp_value (v := .int .i64 0) (w' := W) ?_ ⟨_, rfl, rfl, (Below.refl _ _), hg⟩
              go_simp
            | 1, ho =>
              cases ho
              have q54 : x.tmps[54]?.getD undef = .int .i64 0 := hk.dep 0 54 (by kernel_rfl) (by kernel_rfl)
              refine .inl ⟨wanted_plain rfl, ?_⟩
              refine wp_value (v := .bool false) (w' := W) ?_ ⟨_, rfl, rfl, (Below.refl _ _), hg⟩
              go_simp
            | 2, ho =>
              cases ho
              have q55 : x.tmps[55]?.getD undef = .bool false := hk.dep 1 55 (by kernel_rfl) (by kernel_rfl)
              refine .inl ⟨wanted_plain rfl, ?_⟩
              refine wp_value (v := .bool false) (w' := W) ?_ ⟨_, rfl, rfl, (Below.refl _ _), hg⟩
              go_simp
            | 3, ho =>
              cases ho
              have q10 : x.tmps[10]?.getD undef = .slice A5 n5 cp5 := hk.fix 10 (by kernel_rfl)
              refine .inl ⟨wanted_guard (g := 2) (d := 56) (by rfl) (by kernel_rfl) (show x.tmps[56]?.getD undef = .bool false from hk.dep 2 56 (by kernel_rfl) (by kernel_rfl)), ?_⟩
              refine wp_value (v := .slice A5 n5 cp5) (w' := W) ?_ ⟨_, rfl, rfl, (Below.refl _ _), hg⟩
              go_simp
            | 4, ho =>
              cases ho
              have q9 : x.tmps[9]?.getD undef = .pointer (some ⟨g9, 0, none⟩) := hk.fix 9 (by kernel_rfl)
              refine .inl ⟨wanted_guard (g := 2) (d := 56) (by rfl) (by kernel_rfl) (show x.tmps[56]?.getD undef = .bool false from hk.dep 2 56 (by kernel_rfl) (by kernel_rfl)), ?_⟩
              refine wp_value (v := .pointer (some ⟨g9, 1, none⟩)) (w' := W) ?_ ⟨_, rfl, rfl, (Below.refl _ _), hg⟩
              go_simp
            | 5, ho =>
              cases ho
              have q58 : x.tmps[58]?.getD undef = .pointer (some ⟨g9, 1, none⟩) := hk.dep 4 58 (by kernel_rfl) (by kernel_rfl)
              refine .inl ⟨wanted_guard (g := 2) (d := 56) (by rfl) (by kernel_rfl) (show x.tmps[56]?.getD undef = .bool false from hk.dep 2 56 (by kernel_rfl) (by kernel_rfl)), ?_⟩
              have cf : W.cell? ⟨g9, 1, none⟩ = some (.int .i64 S0.account) := ((HS5.out.of (hg.below.block _ HS5.out.lt)).cell 1).trans rfl
              refine wp_value (v := .int .i64 S0.account) (w' := W) ?_ ⟨_, rfl, rfl, (Below.refl _ _), hg⟩
              go_simp
            | 6, ho =>
              cases ho
              have q9 : x.tmps[9]?.getD undef = .pointer (some ⟨g9, 0, none⟩) := hk.fix 9 (by kernel_rfl)
              refine .inl ⟨wanted_guard (g := 2) (d := 56) (by rfl) (by kernel_rfl) (show x.tmps[56]?.getD undef = .bool false from hk.dep 2 56 (by kernel_rfl) (by kernel_rfl)), ?_⟩
              refine wp_value (v := .pointer (some ⟨g9, 2, none⟩)) (w' := W) ?_ ⟨_, rfl, rfl, (Below.refl _ _), hg⟩
              go_simp
            | 7, ho =>
              cases ho
              have q60 : x.tmps[60]?.getD undef = .pointer (some ⟨g9, 2, none⟩) := hk.dep 6 60 (by kernel_rfl) (by kernel_rfl)
              refine .inl ⟨wanted_guard (g := 2) (d := 56) (by rfl) (by kernel_rfl) (show x.tmps[56]?.getD undef = .bool false from hk.dep 2 56 (by kernel_rfl) (by kernel_rfl)), ?_⟩
              have cf : W.cell? ⟨g9, 2, none⟩ = some (.int .i64 S0.purpose) := ((HS5.out.of (hg.below.block _ HS5.out.lt)).cell 2).trans rfl
              refine wp_value (v := .int .i64 S0.purpose) (w' := W) ?_ ⟨_, rfl, rfl, (Below.refl _ _), hg⟩
              go_simp
            | 8, ho =>
              cases ho
              have q9 : x.tmps[9]?.getD undef = .pointer (some ⟨g9, 0, none⟩) := hk.fix 9 (by kernel_rfl)
              refine .inl ⟨wanted_guard (g := 2) (d := 56) (by rfl) (by kernel_rfl) (show x.tmps[56]?.getD undef = .bool false from hk.dep 2 56 (by kernel_rfl) (by kernel_rfl)), ?_⟩
              refine wp_value (v := .pointer (some ⟨g9, 3, none⟩)) (w' := W) ?_ ⟨_, rfl, rfl, (Below.refl _ _), hg⟩
              go_simp
            | 9, ho =>
              cases ho
              have q62 : x.tmps[62]?.getD undef = .pointer (some ⟨g9, 3, none⟩) := hk.dep 8 62 (by kernel_rfl) (by kernel_rfl)
              refine .inl ⟨wanted_guard (g := 2) (d := 56) (by rfl) (by kernel_rfl) (show x.tmps[56]?.getD undef = .bool false from hk.dep 2 56 (by kernel_rfl) (by kernel_rfl)), ?_⟩
              have cf : W.cell? ⟨g9, 3, none⟩ = some (.string S0.channel) := ((HS5.out.of (hg.below.block _ HS5.out.lt)).cell 3).trans rfl
              refine wp_value (v := .string S0.channel) (w' := W) ?_ ⟨_, rfl, rfl, (Below.refl _ _), hg⟩
              go_simp
            | 10, ho =>
              cases ho
              have q5 : x.tmps[5]?.getD undef = .int .i64 now2 := hk.fix 5 (by kernel_rfl)
              refine .inl ⟨wanted_guard (g := 2) (d := 56) (by rfl) (by kernel_rfl) (show x.tmps[56]?.getD undef = .bool false from hk.dep 2 56 (by kernel_rfl) (by kernel_rfl)), ?_⟩
              refine wp_value (v := .int .i64 now2) (w' := W) ?_ ⟨_, rfl, rfl, (Below.refl _ _), hg⟩
              go_simp
            | 11, ho =>
              cases ho
              have q57 : x.tmps[57]?.getD undef = .slice A5 n5 cp5 := hk.dep 3 57 (by kernel_rfl) (by kernel_rfl)
              have q59 : x.tmps[59]?.getD undef = .int .i64 S0.account := hk.dep 5 59 (by kernel_rfl) (by kernel_rfl)
              have q61 : x.tmps[61]?.getD undef = .int .i64 S0.purpose := hk.dep 7 61 (by kernel_rfl) (by kernel_rfl)
              have q63 : x.tmps[63]?.getD undef = .string S0.channel := hk.dep 9 63 (by kernel_rfl) (by kernel_rfl)
              have q64 : x.tmps[64]?.getD undef = .int .i64 now2 := hk.dep 10 64 (by kernel_rfl) (by kernel_rfl)
              refine .inl ⟨wanted_guard (g := 2) (d := 56) (by rfl) (by kernel_rfl) (show x.tmps[56]?.getD undef = .bool false from hk.dep 2 56 (by kernel_rfl) (by kernel_rfl)), ?_⟩
              refine wp_enter (f := 25) (args := #[.slice A5 n5 cp5, .int .i64 S0.account, .int .i64 S0.purpose, .string S0.channel, .int .i64 now2]) (w' := W) (S := fun v w1 => v = .int .i64 T ∧ Below W.heap.size W w1) ?_ ((HL1.out W hg.below).mono fun e w' h => ⟨_, h.1, rfl, h.2⟩) ?_
              · go_simp
              · rintro v W' ⟨rfl, hb⟩
                exact ⟨_, rfl, rfl, hb, hg.calls hb⟩
            | 12, ho =>
              cases ho
              have q9 : x.tmps[9]?.getD undef = .pointer (some ⟨g9, 0, none⟩) := hk.fix 9 (by kernel_rfl)
              refine .inl ⟨wanted_guard (g := 2) (d := 56) (by rfl) (by kernel_rfl) (show x.tmps[56]?.getD undef = .bool false from hk.dep 2 56 (by kernel_rfl) (by kernel_rfl)), ?_⟩
              refine wp_value (v := .pointer (some ⟨g9, 2, none⟩)) (w' := W) ?_ ⟨_, rfl, rfl, (Below.refl _ _), hg⟩
              go_simp
            | 13, ho =>
              cases ho
              have q66 : x.tmps[66]?.getD undef = .pointer (some ⟨g9, 2, none⟩) := hk.dep 12 66 (by kernel_rfl) (by kernel_rfl)
              refine .inl ⟨wanted_guard (g := 2) (d := 56) (by rfl) (by kernel_rfl) (show x.tmps[56]?.getD undef = .bool false from hk.dep 2 56 (by kernel_rfl) (by kernel_rfl)), ?_⟩
              have cf : W.cell? ⟨g9, 2, none⟩ = some (.int .i64 S0.purpose) := ((HS5.out.of (hg.below.block _ HS5.out.lt)).cell 2).trans rfl
              refine wp_value (v := .int .i64 S0.purpose) (w' := W) ?_ ⟨_, rfl, rfl, (Below.refl _ _), hg⟩
              go_simp
            | 14, ho =>
              cases ho
              have q67 : x.tmps[67]?.getD undef = .int .i64 S0.purpose := hk.dep 13 67 (by kernel_rfl) (by kernel_rfl)
              refine .inl ⟨wanted_guard (g := 2) (d := 56) (by rfl) (by kernel_rfl) (show x.tmps[56]?.getD undef = .bool false from hk.dep 2 56 (by kernel_rfl) (by kernel_rfl)), ?_⟩
              refine wp_enter (f := 26) (args := #[.int .i64 S0.purpose]) (w' := W) (S := fun v w1 => v = .int .i64 T ∧ Below W.heap.size W w1) ?_ ((HTR.out W).mono fun e w' h => ⟨_, h.1, rfl, by rw [← h.2]; exact Below.refl _ _⟩) ?_
              · go_simp
              · rintro v W' ⟨rfl, hb⟩
                exact ⟨_, rfl, rfl, hb, hg.calls hb⟩
            | 15, ho =>
              cases ho
              have q65 : x.tmps[65]?.getD undef = .int .i64 T := hk.dep 11 65 (by kernel_rfl) (by kernel_rfl)
              have q68 : x.tmps[68]?.getD undef = .int .i64 T := hk.dep 14 68 (by kernel_rfl) (by kernel_rfl)
              refine .inl ⟨wanted_guard (g := 2) (d := 56) (by rfl) (by kernel_rfl) (show x.tmps[56]?.getD undef = .bool false from hk.dep 2 56 (by kernel_rfl) (by kernel_rfl)), ?_⟩
              refine wp_value (v := .bool false) (w' := W) ?_ ⟨_, rfl, rfl, (Below.refl _ _), hg⟩
              go_simp
            | 16, ho =>
              cases ho
              have q56 : x.tmps[56]?.getD undef = .bool false := hk.dep 2 56 (by kernel_rfl) (by kernel_rfl)
              have q69 : x.tmps[69]?.getD undef = .bool false := hk.dep 15 69 (by kernel_rfl) (by kernel_rfl)
              refine .inl ⟨wanted_plain rfl, ?_⟩
              refine wp_value (v := .bool false) (w' := W) ?_ ⟨_, rfl, rfl, (Below.refl _ _), hg⟩
              go_simp
            | 17, ho =>
              cases ho
              have q70 : x.tmps[70]?.getD undef = .bool false := hk.dep 16 70 (by kernel_rfl) (by kernel_rfl)
              refine .inl ⟨wanted_plain rfl, ?_⟩
              refine wp_value (v := .bool false) (w' := W) ?_ ⟨_, rfl, rfl, (Below.refl _ _), hg⟩
              go_simp
            | 18, ho =>
              cases ho
              have q10 : x.tmps[10]?.getD undef = .slice A5 n5 cp5 := hk.fix 10 (by kernel_rfl)
              refine .inl ⟨wanted_guard (g := 17) (d := 71) (by rfl) (by kernel_rfl) (show x.tmps[71]?.getD undef = .bool false from hk.dep 17 71 (by kernel_rfl) (by kernel_rfl)), ?_⟩
              refine wp_value (v := .slice A5 n5 cp5) (w' := W) ?_ ⟨_, rfl, rfl, (Below.refl _ _), hg⟩
              go_simp
            | 19, ho =>
              cases ho
              have q9 : x.tmps[9]?.getD undef = .pointer (some ⟨g9, 0, none⟩) := hk.fix 9 (by kernel_rfl)
              refine .inl ⟨wanted_guard (g := 17) (d := 71) (by rfl) (by kernel_rfl) (show x.tmps[71]?.getD undef = .bool false from hk.dep 17 71 (by kernel_rfl) (by kernel_rfl)), ?_⟩
              refine wp_value (v := .pointer (some ⟨g9, 1, none⟩)) (w' := W) ?_ ⟨_, rfl, rfl, (Below.refl _ _), hg⟩
              go_simp
            | 20, ho =>
              cases ho
              have q73 : x.tmps[73]?.getD undef = .pointer (some ⟨g9, 1, none⟩) := hk.dep 19 73 (by kernel_rfl) (by kernel_rfl)
              refine .inl ⟨wanted_guard (g := 17) (d := 71) (by rfl) (by kernel_rfl) (show x.tmps[71]?.getD undef = .bool false from hk.dep 17 71 (by kernel_rfl) (by kernel_rfl)), ?_⟩
              have cf : W.cell? ⟨g9, 1, none⟩ = some (.int .i64 S0.account) := ((HS5.out.of (hg.below.block _ HS5.out.lt)).cell 1).trans rfl
              refine wp_value (v := .int .i64 S0.account) (w' := W) ?_ ⟨_, rfl, rfl, (Below.refl _ _), hg⟩
              go_simp
            | 21, ho =>
              cases ho
              have q9 : x.tmps[9]?.getD undef = .pointer (some ⟨g9, 0, none⟩) := hk.fix 9 (by kernel_rfl)
              refine .inl ⟨wanted_guard (g := 17) (d := 71) (by rfl) (by kernel_rfl) (show x.tmps[71]?.getD undef = .bool false from hk.dep 17 71 (by kernel_rfl) (by kernel_rfl)), ?_⟩
              refine wp_value (v := .pointer (some ⟨g9, 2, none⟩)) (w' := W) ?_ ⟨_, rfl, rfl, (Below.refl _ _), hg⟩
              go_simp
            | 22, ho =>
              cases ho
              have q75 : x.tmps[75]?.getD undef = .pointer (some ⟨g9, 2, none⟩) := hk.dep 21 75 (by kernel_rfl) (by kernel_rfl)
              refine .inl ⟨wanted_guard (g := 17) (d := 71) (by rfl) (by kernel_rfl) (show x.tmps[71]?.getD undef = .bool false from hk.dep 17 71 (by kernel_rfl) (by kernel_rfl)), ?_⟩
              have cf : W.cell? ⟨g9, 2, none⟩ = some (.int .i64 S0.purpose) := ((HS5.out.of (hg.below.block _ HS5.out.lt)).cell 2).trans rfl
              refine wp_value (v := .int .i64 S0.purpose) (w' := W) ?_ ⟨_, rfl, rfl, (Below.refl _ _), hg⟩
              go_simp
            | 23, ho =>
              cases ho
              have q9 : x.tmps[9]?.getD undef = .pointer (some ⟨g9, 0, none⟩) := hk.fix 9 (by kernel_rfl)
              refine .inl ⟨wanted_guard (g := 17) (d := 71) (by rfl) (by kernel_rfl) (show x.tmps[71]?.getD undef = .bool false from hk.dep 17 71 (by kernel_rfl) (by kernel_rfl)), ?_⟩
              refine wp_value (v := .pointer (some ⟨g9, 3, none⟩)) (w' := W) ?_ ⟨_, rfl, rfl, (Below.refl _ _), hg⟩
              go_simp
            | 24, ho =>
              cases ho
              have q77 : x.tmps[77]?.getD undef = .pointer (some ⟨g9, 3, none⟩) := hk.dep 23 77 (by kernel_rfl) (by kernel_rfl)
              refine .inl ⟨wanted_guard (g := 17) (d := 71) (by rfl) (by kernel_rfl) (show x.tmps[71]?.getD undef = .bool false from hk.dep 17 71 (by kernel_rfl) (by kernel_rfl)), ?_⟩
              have cf : W.cell? ⟨g9, 3, none⟩ = some (.string S0.channel) := ((HS5.out.of (hg.below.block _ HS5.out.lt)).cell 3).trans rfl
              refine wp_value (v := .string S0.channel) (w' := W) ?_ ⟨_, rfl, rfl, (Below.refl _ _), hg⟩
              go_simp
            | 25, ho =>
              cases ho
              have q9 : x.tmps[9]?.getD undef = .pointer (some ⟨g9, 0, none⟩) := hk.fix 9 (by kernel_rfl)
              refine .inl ⟨wanted_guard (g := 17) (d := 71) (by rfl) (by kernel_rfl) (show x.tmps[71]?.getD undef = .bool false from hk.dep 17 71 (by kernel_rfl) (by kernel_rfl)), ?_⟩
              refine wp_value (v := .pointer (some ⟨g9, 4, none⟩)) (w' := W) ?_ ⟨_, rfl, rfl, (Below.refl _ _), hg⟩
              go_simp
            | 26, ho =>
              cases ho
              have q79 : x.tmps[79]?.getD undef = .pointer (some ⟨g9, 4, none⟩) := hk.dep 25 79 (by kernel_rfl) (by kernel_rfl)
              refine .inl ⟨wanted_guard (g := 17) (d := 71) (by rfl) (by kernel_rfl) (show x.tmps[71]?.getD undef = .bool false from hk.dep 17 71 (by kernel_rfl) (by kernel_rfl)), ?_⟩
              have cf : W.cell? ⟨g9, 4, none⟩ = some (.int .i64 S0.expires) := ((HS5.out.of (hg.below.block _ HS5.out.lt)).cell 4).trans rfl
              refine wp_value (v := .int .i64 S0.expires) (w' := W) ?_ ⟨_, rfl, rfl, (Below.refl _ _), hg⟩
              go_simp
            | 27, ho =>
              cases ho
              have q72 : x.tmps[72]?.getD undef = .slice A5 n5 cp5 := hk.dep 18 72 (by kernel_rfl) (by kernel_rfl)
              have q74 : x.tmps[74]?.getD undef = .int .i64 S0.account := hk.dep 20 74 (by kernel_rfl) (by kernel_rfl)
              have q76 : x.tmps[76]?.getD undef = .int .i64 S0.purpose := hk.dep 22 76 (by kernel_rfl) (by kernel_rfl)
              have q78 : x.tmps[78]?.getD undef = .string S0.channel := hk.dep 24 78 (by kernel_rfl) (by kernel_rfl)
              have q80 : x.tmps[80]?.getD undef = .int .i64 S0.expires := hk.dep 26 80 (by kernel_rfl) (by kernel_rfl)
              refine .inl ⟨wanted_guard (g := 17) (d := 71) (by rfl) (by kernel_rfl) (show x.tmps[71]?.getD undef = .bool false from hk.dep 17 71 (by kernel_rfl) (by kernel_rfl)), ?_⟩
              refine wp_enter (f := 25) (args := #[.slice A5 n5 cp5, .int .i64 S0.account, .int .i64 S0.purpose, .string S0.channel, .int .i64 S0.expires]) (w' := W) (S := fun v w1 => v = .int .i64 0 ∧ Below W.heap.size W w1) ?_ ((HL2.out W hg.below).mono fun e w' h => ⟨_, h.1, rfl, h.2⟩) ?_
              · go_simp
              · rintro v W' ⟨rfl, hb⟩
                exact ⟨_, rfl, rfl, hb, hg.calls hb⟩
            | 28, ho =>
              cases ho
              have q81 : x.tmps[81]?.getD undef = .int .i64 0 := hk.dep 27 81 (by kernel_rfl) (by kernel_rfl)
              refine .inl ⟨wanted_guard (g := 17) (d := 71) (by rfl) (by kernel_rfl) (show x.tmps[71]?.getD undef = .bool false from hk.dep 17 71 (by kernel_rfl) (by kernel_rfl)), ?_⟩
              refine wp_value (v := .bool false) (w' := W) ?_ ⟨_, rfl, rfl, (Below.refl _ _), hg⟩
              go_simp
            | 29, ho =>
              cases ho
              have q71 : x.tmps[71]?.getD undef = .bool false := hk.dep 17 71 (by kernel_rfl) (by kernel_rfl)
              have q82 : x.tmps[82]?.getD undef = .bool false := hk.dep 28 82 (by kernel_rfl) (by kernel_rfl)
              refine .inl ⟨wanted_plain rfl, ?_⟩
              refine wp_value (v := .bool false) (w' := W) ?_ ⟨_, rfl, rfl, (Below.refl _ _), hg⟩
              go_simp
            | _ + 30, ho => cases ho
          intro listed x v6 hall hg hk
          have e54 : x.tmps[54]?.getD undef = .int .i64 0 := hk.last 0 54 (by decide) (by kernel_rfl)
          have e55 : x.tmps[55]?.getD undef = .bool false := hk.last 1 55 (by decide) (by kernel_rfl)
          have e56 : x.tmps[56]?.getD undef = .bool false := hk.last 2 56 (by decide) (by kernel_rfl)
          have e57 : x.tmps[57]?.getD undef = .slice A5 n5 cp5 := hk.last 3 57 (by decide) (by kernel_rfl)
          have e58 : x.tmps[58]?.getD undef = .pointer (some ⟨g9, 1, none⟩) := hk.last 4 58 (by decide) (by kernel_rfl)
          have e59 : x.tmps[59]?.getD undef = .int .i64 S0.account := hk.last 5 59 (by decide) (by kernel_rfl)
          have e60 : x.tmps[60]?.getD undef = .pointer (some ⟨g9, 2, none⟩) := hk.last 6 60 (by decide) (by kernel_rfl)
          have e61 : x.tmps[61]?.getD undef = .int .i64 S0.purpose := hk.last 7 61 (by decide) (by kernel_rfl)
          have e62 : x.tmps[62]?.getD undef = .pointer (some ⟨g9, 3, none⟩) := hk.last 8 62 (by decide) (by kernel_rfl)
          have e63 : x.tmps[63]?.getD undef = .string S0.channel := hk.last 9 63 (by decide) (by kernel_rfl)
          have e64 : x.tmps[64]?.getD undef = .int .i64 now2 := hk.last 10 64 (by decide) (by kernel_rfl)
          have e65 : x.tmps[65]?.getD undef = .int .i64 T := hk.last 11 65 (by decide) (by kernel_rfl)
          have e66 : x.tmps[66]?.getD undef = .pointer (some ⟨g9, 2, none⟩) := hk.last 12 66 (by decide) (by kernel_rfl)
          have e67 : x.tmps[67]?.getD undef = .int .i64 S0.purpose := hk.last 13 67 (by decide) (by kernel_rfl)
          have e68 : x.tmps[68]?.getD undef = .int .i64 T := hk.last 14 68 (by decide) (by kernel_rfl)
          have e69 : x.tmps[69]?.getD undef = .bool false := hk.last 15 69 (by decide) (by kernel_rfl)
          have e70 : x.tmps[70]?.getD undef = .bool false := hk.last 16 70 (by decide) (by kernel_rfl)
          have e71 : x.tmps[71]?.getD undef = .bool false := hk.last 17 71 (by decide) (by kernel_rfl)
          have e72 : x.tmps[72]?.getD undef = .slice A5 n5 cp5 := hk.last 18 72 (by decide) (by kernel_rfl)
          have e73 : x.tmps[73]?.getD undef = .pointer (some ⟨g9, 1, none⟩) := hk.last 19 73 (by decide) (by kernel_rfl)
          have e74 : x.tmps[74]?.getD undef = .int .i64 S0.account := hk.last 20 74 (by decide) (by kernel_rfl)
          have e75 : x.tmps[75]?.getD undef = .pointer (some ⟨g9, 2, none⟩) := hk.last 21 75 (by decide) (by kernel_rfl)
          have e76 : x.tmps[76]?.getD undef = .int .i64 S0.purpose := hk.last 22 76 (by decide) (by kernel_rfl)
          have e77 : x.tmps[77]?.getD undef = .pointer (some ⟨g9, 3, none⟩) := hk.last 23 77 (by decide) (by kernel_rfl)
          have e78 : x.tmps[78]?.getD undef = .string S0.channel := hk.last 24 78 (by decide) (by kernel_rfl)
          have e79 : x.tmps[79]?.getD undef = .pointer (some ⟨g9, 4, none⟩) := hk.last 25 79 (by decide) (by kernel_rfl)
          have e80 : x.tmps[80]?.getD undef = .int .i64 S0.expires := hk.last 26 80 (by decide) (by kernel_rfl)
          have e81 : x.tmps[81]?.getD undef = .int .i64 0 := hk.last 27 81 (by decide) (by kernel_rfl)
          have e82 : x.tmps[82]?.getD undef = .bool false := hk.last 28 82 (by decide) (by kernel_rfl)
          have e83 : x.tmps[83]?.getD undef = .bool false := hk.last 29 83 (by decide) (by kernel_rfl)
          have hB := Lib.hid hg.below
          have hx := hk.act [54, 55, 56, 57, 58, 59, 60, 61, 62, 63, 64, 65, 66, 67, 68, 69, 70, 71, 72, 73, 74, 75, 76, 77, 78, 79, 80, 81, 82, 83] (by kernel_rfl)
          clear hk hg hall
          simp only [List.foldl_cons, List.foldl_nil, e54, e55, e56, e57, e58, e59, e60, e61, e62, e63, e64, e65, e66, e67, e68, e69, e70, e71, e72, e73, e74, e75, e76, e77, e78, e79, e80, e81, e82, e83] at hx
          clear e54 e55 e56 e57 e58 e59 e60 e61 e62 e63 e64 e65 e66 e67 e68 e69 e70 e71 e72 e73 e74 e75 e76 e77 e78 e79 e80 e81 e82 e83
          subst hx
          simp only [Act.put, List.setIfInBounds_toArray, List.set_cons_succ, List.set_cons_zero]
          have HB6 := Lib.hid (HB5.out.trans (hB.out.mono HB5.out.size))
          have HA6 := Lib.hid (HA5.out.below hB.out)
          clear hB
          go_wp2_with fail
          go_roundw
          case rel => exact ⟨i + 1, now2, L2, by go_num, rfl, by omega, by omega, by omega, by omega, hlen2, HU2.out, HR2.out, ⟨A5, cp5, by rw [HN5.out], HC5.out, HA6.out⟩, HB6.out⟩
          case measure => simp [intOf]; omega
        · clear HSE
          have HLV := Lib.hid (fun W h => live_any (S := fun _ => False) A cp L (by omega) (accOf o.n0) (purOf o.n1) (chOf o.n2) now2 W h)
          have hcs := live_cases HU.out HRL.out (ba (digL (purOf o.n1) (plainL (purOf o.n1) (ten10 (d7 o.n3))))) (accOf o.n0, purOf o.n1, chOf o.n2) now2
          obtain ⟨L2, hL2⟩ : ∃ L2, (Va.present (ba (digL (purOf o.n1) (plainL (purOf o.n1) (ten10 (d7 o.n3))))) L (accOf o.n0, purOf o.n1, chOf o.n2) now2).1 = L2 := ⟨_, rfl⟩
          have hlen2 : L2.length ≤ i + 1 := by have h := Va.length_present (ba (digL (purOf o.n1) (plainL (purOf o.n1) (ten10 (d7 o.n3))))) L (accOf o.n0, purOf o.n1, chOf o.n2) now2; rw [hL2] at h; omega
          have HU2 := Lib.hid (show Rw.Uniq Va.Sec.key L2 by rw [← hL2]; exact Va.uniq_present HU.out)
          have HR2 := Lib.hid (show ∀ s ∈ L2, rightS s = true by rw [← hL2]; exact Va.all_present HRL.out (fun s h1 h2 => right_less h1 h2))
          have HLV2 := Lib.hid (fun A5 cp5 W h => live_any (S := fun _ => False) A5 cp5 L2 (by omega) (accOf o.n0) (purOf o.n1) (chOf o.n2) now2 W h)
          have hpr : ∀ r, (Va.present (ba (digL (purOf o.n1) (plainL (purOf o.n1) (ten10 (d7 o.n3))))) L (accOf o.n0, purOf o.n1, chOf o.n2) now2).2 = r → Va.present (ba (digL (purOf o.n1) (plainL (purOf o.n1) (ten10 (d7 o.n3))))) L (accOf o.n0, purOf o.n1, chOf o.n2) now2 = (L2, r) := fun r hr => Prod.ext hL2 hr
          rw [hL2] at hcs
          have HPR := Lib.hid hpr
          obtain ⟨N, hN⟩ : ∃ N, Va.live L (accOf o.n0, purOf o.n1, chOf o.n2) now2 = N := ⟨_, rfl⟩
          obtain ⟨M, hM⟩ : ∃ M, Va.live L2 (accOf o.n0, purOf o.n1, chOf o.n2) now2 = M := ⟨_, rfl⟩
          rw [hN] at HLV hcs
          rw [hM] at HLV2 hcs
          generalize ba (plainL (purOf o.n1) (ten10 (d7 o.n3))) = PL at HAT HP HT2 HA2 HB2 o0 o2 o3 o4 o5 ⊢
          clear hL2 hN hM hdg hpr
          rcases hcs with ⟨hn, ht⟩ | ⟨hn, ht⟩ | ⟨s, ht, hn, hm⟩ | ⟨ht, hn, hn5, hm⟩
          · as_aux_lemma =>
              subst hn
              have hp := fun W h1 h2 => HP.out W h1 h2 _ (HPR.out _ ht)
              unfold secOf zeroV secV at hp
              have HPP := Lib.hid hp
              clear hp ht
              go_wp2_with fail
              refine (HLV.out _ HA2.out).mono ?_
              rintro e v2 ⟨rfl, hb⟩
              have HA3 := Lib.hid (HA2.out.below hb)
              have HB3 := Lib.hid (HB2.out.trans (hb.mono HB2.out.size))
              have hT3 := HT2.out.of (hb.block _ HT2.out.lt)
              have HT3 := Lib.hid hT3
              have a0 : v2.cell? ⟨v1.heap.size, 0, none⟩ = some (.int .i64 (accOf o.n0)) := (hT3.cell 0).trans rfl
              have a1 : v2.cell? ⟨v1.heap.size, 1, none⟩ = some (.int .i64 (purOf o.n1)) := (hT3.cell 1).trans rfl
              have a2 : v2.cell? ⟨v1.heap.size, 2, none⟩ = some (.string (chOf o.n2)) := (hT3.cell 2).trans rfl
              have a3 : v2.cell? ⟨v1.heap.size, 3, none⟩ = some (.string PL) := (hT3.cell 3).trans rfl
              clear hb hT3 o0 o2 o3 o4 o5
              go_wp2_with fail
              refine (HPP.out _ (HR.out.next HB3.out) HA3.out).mono ?_
              rintro e v3 ⟨⟨v, rfl, hv⟩, hb⟩
              obtain ⟨A5, cp5, rfl, hc5, hA5⟩ := hv
              have hal : Below v3.heap.size v3 (v3.alloc (.cells #[.string ⟨#[]⟩, .int .i64 0, .int .i64 0, .string ⟨#[]⟩, .int .i64 0, .int .i64 0] 26)) := (Below.refl _ v3).alloc (Nat.le_refl _) _
              have HA5 := Lib.hid ((hA5.mono (T := fun _ => False) (fun _ _ h => h.elim)).below hal)
              have HC5 := Lib.hid hc5
              have HB5 := Lib.hid ((HB3.out.trans (hb.mono HB3.out.size)).trans (hal.mono (by have h1 := HB3.out.size; have h2 := hb.size; omega)))
              have hT5 := HT3.out.of (hb.block _ HT3.out.lt)
              have b0 : ∀ x, (v3.alloc x).cell? ⟨v1.heap.size, 0, none⟩ = some (.int .i64 (accOf o.n0)) := fun x => ((hT5.alloc x).cell 0).trans rfl
              have b1 : ∀ x, (v3.alloc x).cell? ⟨v1.heap.size, 1, none⟩ = some (.int .i64 (purOf o.n1)) := fun x => ((hT5.alloc x).cell 1).trans rfl
              have b2 : ∀ x, (v3.alloc x).cell? ⟨v1.heap.size, 2, none⟩ = some (.string (chOf o.n2)) := fun x => ((hT5.alloc x).cell 2).trans rfl
              clear hb hT5 hA5 hc5 hal a0 a1 a2 a3
              go_wp2_with fail
              refine (HLV2.out A5 cp5 _ HA5.out).mono ?_
              rintro e v4 ⟨rfl, hb⟩
              have HA6 := Lib.hid (HA5.out.below hb)
              have HB6 := Lib.hid (HB5.out.trans (hb.mono HB5.out.size))
              clear hb b0 b1 b2
              go_wp2_with fail
              go_roundw
              case rel => exact ⟨i + 1, now2, L2, by go_num, rfl, by omega, by omega, by omega, by omega, hlen2, HU2.out, HR2.out, ⟨A5, cp5, rfl, HC5.out, HA6.out⟩, HB6.out⟩
              case measure => simp [intOf]; omega
          · as_aux_lemma =>
              subst hn
              have hp := fun W h1 h2 => HP.out W h1 h2 _ (HPR.out _ ht)
              unfold secOf zeroV secV at hp
              have HPP := Lib.hid hp
              clear hp ht
              go_wp2_with fail
              refine (HLV.out _ HA2.out).mono ?_
              rintro e v2 ⟨rfl, hb⟩
              have HA3 := Lib.hid (HA2.out.below hb)
              have HB3 := Lib.hid (HB2.out.trans (hb.mono HB2.out.size))
              have hT3 := HT2.out.of (hb.block _ HT2.out.lt)
              have HT3 := Lib.hid hT3
              have a0 : v2.cell? ⟨v1.heap.size, 0, none⟩ = some (.int .i64 (accOf o.n0)) := (hT3.cell 0).trans rfl
              have a1 : v2.cell? ⟨v1.heap.size, 1, none⟩ = some (.int .i64 (purOf o.n1)) := (hT3.cell 1).trans rfl
              have a2 : v2.cell? ⟨v1.heap.size, 2, none⟩ = some (.string (chOf o.n2)) := (hT3.cell 2).trans rfl
              have a3 : v2.cell? ⟨v1.heap.size, 3, none⟩ = some (.string PL) := (hT3.cell 3).trans rfl
              clear hb hT3 o0 o2 o3 o4 o5
              go_wp2_with fail
              refine (HPP.out _ (HR.out.next HB3.out) HA3.out).mono ?_
              rintro e v3 ⟨⟨v, rfl, hv⟩, hb⟩
              obtain ⟨A5, cp5, rfl, hc5, hA5⟩ := hv
              have hal : Below v3.heap.size v3 (v3.alloc (.cells #[.string ⟨#[]⟩, .int .i64 0, .int .i64 0, .string ⟨#[]⟩, .int .i64 0, .int .i64 0] 26)) := (Below.refl _ v3).alloc (Nat.le_refl _) _
              have HA5 := Lib.hid ((hA5.mono (T := fun _ => False) (fun _ _ h => h.elim)).below hal)
              have HC5 := Lib.hid hc5
              have HB5 := Lib.hid ((HB3.out.trans (hb.mono HB3.out.size)).trans (hal.mono (by have h1 := HB3.out.size; have h2 := hb.size; omega)))
              have hT5 := HT3.out.of (hb.block _ HT3.out.lt)
              have b0 : ∀ x, (v3.alloc x).cell? ⟨v1.heap.size, 0, none⟩ = some (.int .i64 (accOf o.n0)) := fun x => ((hT5.alloc x).cell 0).trans rfl
              have b1 : ∀ x, (v3.alloc x).cell? ⟨v1.heap.size, 1, none⟩ = some (.int .i64 (purOf o.n1)) := fun x => ((hT5.alloc x).cell 1).trans rfl
              have b2 : ∀ x, (v3.alloc x).cell? ⟨v1.heap.size, 2, none⟩ = some (.string (chOf o.n2)) := fun x => ((hT5.alloc x).cell 2).trans rfl
              clear hb hT5 hA5 hc5 hal a0 a1 a2 a3
              go_wp2_with fail
              refine (HLV2.out A5 cp5 _ HA5.out).mono ?_
              rintro e v4 ⟨rfl, hb⟩
              have HA6 := Lib.hid (HA5.out.below hb)
              have HB6 := Lib.hid (HB5.out.trans (hb.mono HB5.out.size))
              clear hb b0 b1 b2
              go_wp2_with fail
              go_roundw
              case rel => exact ⟨i + 1, now2, L2, by go_num, rfl, by omega, by omega, by omega, by omega, hlen2, HU2.out, HR2.out, ⟨A5, cp5, rfl, HC5.out, HA6.out⟩, HB6.out⟩
              case measure => simp [intOf]; omega
          · as_aux_lemma =>
              subst hm
              have hb0 : ((N : Int) == 0) = false := beq_eq_false_iff_ne.2 (by omega)
              have hp := fun W h1 h2 => HP.out W h1 h2 _ (HPR.out _ ht)
              simp only [secOf_some] at hp
              have HPP := Lib.hid hp
              clear hp ht
              go_wp2_with fail
              refine (HLV.out _ HA2.out).mono ?_
              rintro e v2 ⟨rfl, hb⟩
              have HA3 := Lib.hid (HA2.out.below hb)
              have HB3 := Lib.hid (HB2.out.trans (hb.mono HB2.out.size))
              have hT3 := HT2.out.of (hb.block _ HT2.out.lt)
              have HT3 := Lib.hid hT3
              have a0 : v2.cell? ⟨v1.heap.size, 0, none⟩ = some (.int .i64 (accOf o.n0)) := (hT3.cell 0).trans rfl
              have a1 : v2.cell? ⟨v1.heap.size, 1, none⟩ = some (.int .i64 (purOf o.n1)) := (hT3.cell 1).trans rfl
              have a2 : v2.cell? ⟨v1.heap.size, 2, none⟩ = some (.string (chOf o.n2)) := (hT3.cell 2).trans rfl
              have a3 : v2.cell? ⟨v1.heap.size, 3, none⟩ = some (.string PL) := (hT3.cell 3).trans rfl
              clear hb hT3 o0 o2 o3 o4 o5
              go_wp2_with fail
              refine (HPP.out _ (HR.out.next HB3.out) HA3.out).mono ?_
              rintro e v3 ⟨⟨v, rfl, hv⟩, hb⟩
              obtain ⟨A5, cp5, rfl, hc5, hA5⟩ := hv
              have hal : Below v3.heap.size v3 (v3.alloc (.cells #[.string s.digest, .int .i64 s.account, .int .i64 s.purpose, .string s.channel, .int .i64 s.expires, .int .i64 s.tries] 26)) := (Below.refl _ v3).alloc (Nat.le_refl _) _
              have HA5 := Lib.hid ((hA5.mono (T := fun _ => False) (fun _ _ h => h.elim)).below hal)
              have HC5 := Lib.hid hc5
              have HB5 := Lib.hid ((HB3.out.trans (hb.mono HB3.out.size)).trans (hal.mono (by have h1 := HB3.out.size; have h2 := hb.size; omega)))
              have hT5 := HT3.out.of (hb.block _ HT3.out.lt)
              have b0 : ∀ x, (v3.alloc x).cell? ⟨v1.heap.size, 0, none⟩ = some (.int .i64 (accOf o.n0)) := fun x => ((hT5.alloc x).cell 0).trans rfl
              have b1 : ∀ x, (v3.alloc x).cell? ⟨v1.heap.size, 1, none⟩ = some (.int .i64 (purOf o.n1)) := fun x => ((hT5.alloc x).cell 1).trans rfl
              have b2 : ∀ x, (v3.alloc x).cell? ⟨v1.heap.size, 2, none⟩ = some (.string (chOf o.n2)) := fun x => ((hT5.alloc x).cell 2).trans rfl
              clear hb hT5 hA5 hc5 hal a0 a1 a2 a3
              go_wp2_with fail
              refine (HLV2.out A5 cp5 _ HA5.out).mono ?_
              rintro e v4 ⟨rfl, hb⟩
              have HA6 := Lib.hid (HA5.out.below hb)
              have HB6 := Lib.hid (HB5.out.trans (hb.mono HB5.out.size))
              clear hb b0 b1 b2
              go_wp2_with fail
              go_roundw
              case rel => exact ⟨i + 1, now2, L2, by go_num, rfl, by omega, by omega, by omega, by omega, hlen2, HU2.out, HR2.out, ⟨A5, cp5, rfl, HC5.out, HA6.out⟩, HB6.out⟩
              case measure => simp [intOf]; omega
          · as_aux_lemma =>
              subst hm
              have hb0 : ((N : Int) == 0) = false := beq_eq_false_iff_ne.2 (by omega)
              have hwN : IntKind.i64.wrap (N - 1) = N - 1 := by rw [IntKind.wrap_i64]; omega
              have hp := fun W h1 h2 => HP.out W h1 h2 _ (HPR.out _ ht)
              unfold secOf zeroV secV at hp
              have HPP := Lib.hid hp
              clear hp ht
              go_wp2_with fail
              refine (HLV.out _ HA2.out).mono ?_
              rintro e v2 ⟨rfl, hb⟩
              have HA3 := Lib.hid (HA2.out.below hb)
              have HB3 := Lib.hid (HB2.out.trans (hb.mono HB2.out.size))
              have hT3 := HT2.out.of (hb.block _ HT2.out.lt)
              have HT3 := Lib.hid hT3
              have a0 : v2.cell? ⟨v1.heap.size, 0, none⟩ = some (.int .i64 (accOf o.n0)) := (hT3.cell 0).trans rfl
              have a1 : v2.cell? ⟨v1.heap.size, 1, none⟩ = some (.int .i64 (purOf o.n1)) := (hT3.cell 1).trans rfl
              have a2 : v2.cell? ⟨v1.heap.size, 2, none⟩ = some (.string (chOf o.n2)) := (hT3.cell 2).trans rfl
              have a3 : v2.cell? ⟨v1.heap.size, 3, none⟩ = some (.string PL) := (hT3.cell 3).trans rfl
              clear hb hT3 o0 o2 o3 o4 o5
              go_wp2_with fail
              refine (HPP.out _ (HR.out.next HB3.out) HA3.out).mono ?_
              rintro e v3 ⟨⟨v, rfl, hv⟩, hb⟩
              obtain ⟨A5, cp5, rfl, hc5, hA5⟩ := hv
              have hal : Below v3.heap.size v3 (v3.alloc (.cells #[.string ⟨#[]⟩, .int .i64 0, .int .i64 0, .string ⟨#[]⟩, .int .i64 0, .int .i64 0] 26)) := (Below.refl _ v3).alloc (Nat.le_refl _) _
              have HA5 := Lib.hid ((hA5.mono (T := fun _ => False) (fun _ _ h => h.elim)).below hal)
              have HC5 := Lib.hid hc5
              have HB5 := Lib.hid ((HB3.out.trans (hb.mono HB3.out.size)).trans (hal.mono (by have h1 := HB3.out.size; have h2 := hb.size; omega)))
              have hT5 := HT3.out.of (hb.block _ HT3.out.lt)
              have b0 : ∀ x, (v3.alloc x).cell? ⟨v1.heap.size, 0, none⟩ = some (.int .i64 (accOf o.n0)) := fun x => ((hT5.alloc x).cell 0).trans rfl
              have b1 : ∀ x, (v3.alloc x).cell? ⟨v1.heap.size, 1, none⟩ = some (.int .i64 (purOf o.n1)) := fun x => ((hT5.alloc x).cell 1).trans rfl
              have b2 : ∀ x, (v3.alloc x).cell? ⟨v1.heap.size, 2, none⟩ = some (.string (chOf o.n2)) := fun x => ((hT5.alloc x).cell 2).trans rfl
              clear hb hT5 hA5 hc5 hal a0 a1 a2 a3
              go_wp2_with fail
              refine (HLV2.out A5 cp5 _ HA5.out).mono ?_
              rintro e v4 ⟨rfl, hb⟩
              have HA6 := Lib.hid (HA5.out.below hb)
              have HB6 := Lib.hid (HB5.out.trans (hb.mono HB5.out.size))
              clear hb b0 b1 b2
              go_wp2_with fail
              go_roundw
              case rel => exact ⟨i + 1, now2, L2, by go_num, rfl, by omega, by omega, by omega, by omega, hlen2, HU2.out, HR2.out, ⟨A5, cp5, rfl, HC5.out, HA6.out⟩, HB6.out⟩
              case measure => simp [intOf]; omega
      · have hi2 : ¬ (i : Int) < 40 := by omega
        go_wp2_with fail
        go_ret
        exact ⟨rfl, HB.out⟩
    · have hi1 : ¬ (i : Int) < (l.length : Int) := by omega
      go_wp2_with fail
      go_ret
      exact ⟨rfl, HB.out⟩

/-! ### The row -/
set_option maxRecDepth 100000 in
theorem contract (H : Type) (enc : TypeId × Value → H) (W : World) (base : Nat) (args : Array Value) (ds gs : List (DataW H)) (before : List MemPlace)
    (hval : ∀ (j : Nat) t v, Tryz.f9.params[j]? = some t → args[j]? = some v → Value.okWide Tryz.prog W .any base t v)
    (hW : DataW.Whole enc Tryz.prog Tryz.f9.params.toList Rows.vaultLiveSpec.vars false W args.toList ds gs before) (hL : laidMet Tryz.prog Rows.vaultLiveRow.laid W) (hS : W.ShapedOpen Tryz.prog) :
    Calls Tryz.prog 9 args W fun e W' => ∃ v, e = .returned v ∧ Rows.vaultLiveSpec.post enc Tryz.prog Tryz.f9 false true false false W args v W' := by
  have hW' := hW
  obtain ⟨p, q, hA0, hV, rfl, hfz, hnd⟩ := hW
  have hA : DataW.TrodAll enc Tryz.prog W 0 (fun _ => true) true Tryz.f9.params.toList args.toList ds p := hA0
  rw [Tryz.params9] at hA hval
  obtain ⟨v0, vs0, d0, ds0, p0, q0, hargs, rfl, rfl, h0, r0⟩ := trodAll_cons hA
  obtain ⟨rfl, rfl, rfl⟩ := trodAll_nil r0
  obtain rfl : args = #[v0] := by cases args; simp_all
  obtain ⟨rfl, rfl⟩ := trodVars_none hV
  refine law_contract (tb := 4) laidOut (by kernel_rfl) rfl (by kernel_rfl) Tryz.underlying4 rfl hW' ?_
  clear hA0 hW' hA
  obtain ⟨A0, k0, l0, rfl, z0, g0⟩ := open_ops (hval 0 23 v0 rfl rfl) h0
  exact walk A0 k0 l0 W (rdy_of (tab_CubeRoots (laidMet.tail hL)) (tab_SquareRoots (laidMet.tail (laidMet.tail hL))) hS) z0 g0

theorem laid_met (os : Os) : laidMet Tryz.prog Rows.vaultLiveRow.laid ((laidWorld os).forCall (fun _ _ => 0) ⟨#[], #[.slice none 0 0], []⟩).memory :=
  laidMet_of_run' 8 (by kernel_rfl) (by kernel_rfl)
theorem reads (os : Os) {H : Type} (enc : TypeId × Value → H) : ∃ places, DataW.whole enc Tryz.prog ((laidWorld os).forCall (fun _ _ => 0) ⟨#[], #[.slice none 0 0], []⟩).memory Tryz.f9.params.toList Rows.vaultLiveSpec.vars false (#[.slice none 0 0] : Array Value).toList 8 = some ([.nil], [], places) :=
  ⟨[], by kernel_rfl⟩

set_option maxRecDepth 100000 in
theorem lifted (os : Os) (started : os.Started) (H : Type) (enc : TypeId × Value → H) (F : Stop.Interp) :
    ReturnsInHanded {} Tryz.checked os 9 .any ((OpenSpec.ofChange Rows.vaultLiveSpec).preRow enc Tryz.prog Tryz.f9 Rows.vaultLiveRow.domain false Rows.vaultLiveRow.laid) (((OpenSpec.ofChange Rows.vaultLiveSpec).at F).post enc Tryz.prog Tryz.f9 false true false false) := by
  obtain ⟨places, hx⟩ := reads os enc
  refine returnsInHanded_of_row (C := Tryz.checked) (s := OpenSpec.ofChange Rows.vaultLiveSpec) own started (by kernel_rfl) Tryz.func9
    (witness_row_at (enc := enc) (C := Tryz.checked) false (laidWorld os) #[.slice none 0 0] rfl (by kernel_rfl) (by kernel_rfl) (by kernel_rfl)
      (OpenSpec.preRow_of_cond 8 hx (by kernel_rfl) (fun k hk => by cases hk) (by kernel_rfl) (laid_met os))) ?_
  intro W base args ds gs before hval hW _ _ _ hL hS _
  exact contract H enc W base args ds gs before hval hW hL hS

theorem said : Rows.VaultLiveSaid :=
  OpenClaim.holds_of_cond 9 Tryz.f9 rfl rfl rfl rfl rfl rfl rfl ⟨rfl, rfl, rfl, rfl, rfl⟩ rfl rfl rfl rfl rfl (by kernel_rfl) Tryz.func9 (by kernel_rfl)
    (of_decide_eq_true (by kernel_rfl)) (by unfold Func.isWrapper; first | (rw [if_pos (by decide +kernel)]; kernel_rfl) | (rw [if_neg (by decide +kernel)]; exact ⟨rfl, rfl⟩))
    (fun os started H enc _ F => by rw [OpenClaim.pre_eq_preRow]; exact lifted os started H enc F)

theorem plain (f : FuncId) (fn : Func) (hf : Tryz.pinned.checked.prog.funcNamed "homecoming/homecominglaw11.VaultLive" = some f) (hfn : Tryz.pinned.checked.prog.funcs[f]? = some fn) :
    false = Tryz.pinned.checked.prog.looks [] ∧ ∀ (j : Nat) t, fn.params[j]? = some t → Tryz.pinned.checked.prog.wantsStandIn t = false := by
  obtain rfl : f = 9 := Option.some.inj ((show Tryz.prog.funcNamed "homecoming/homecominglaw11.VaultLive" = some 9 by kernel_rfl).symm.trans hf) |>.symm
  obtain rfl : fn = Tryz.f9 := (Option.some.inj (Tryz.func9.symm.trans hfn)).symm
  refine ⟨by kernel_rfl, fun j t ht => ?_⟩
  have hall : (Tryz.f9.params.toList.all fun u => !Tryz.prog.wantsStandIn u) = true := by kernel_rfl
  have hm : t ∈ Tryz.f9.params.toList := by simpa using Array.mem_of_getElem? ht
  exact (show Tryz.prog.wantsStandIn t = false by simpa using List.all_eq_true.1 hall t hm)

/-- THE STATEMENT. -/
theorem card : Rows.VaultLiveCardSaid :=
  Claim7.holds_tied_plain_at .later [] _ _ _ _ said (fun _ h => by cases h) (by kernel_rfl) (fun _ h => by cases h) vaultLive_row_tie rfl ⟨rfl, rfl⟩ (by kernel_rfl) rfl plain (by kernel_rfl)
#print axioms card
end Go.Proofs.YtfjdcopndkdbmaaGreatDoor.vaultLive
