/-
  Proves the statement of VaultOnce: for every row of steps the law returns true (what was presented with OK is never presented with OK again, till a new one of its key is put; nor is one that is over), and its argument reads as it did. Conditions: the package-level tables acceptRanges and first of the library and cubeRoots and squareRoots of package sha hold what their texts lay.
-/
import Derived.Test.YtfjdcopndkdbmaaGreatDoorOpx
import Derived.Test.YtfjdcopndkdbmaaGreatDoorVsG
import Derived.Test.YtfjdcopndkdbmaaGreatDoorVtk
import Derived.Test.YtfjdcopndkdbmaaGreatDoorVsj
import Derived.Test.YtfjdcopndkdbmaaGreatDoorTabs
import Derived.Test.YtfjdcopndkdbmaaGreatDoorCards
import Derived.Test.YtfjdcopndkdbmaaGreatDoorTie
namespace Go.Proofs.YtfjdcopndkdbmaaGreatDoor.vaultOnce
open Go.ChangeShapes Go.WideShapes Go.ChangeAt Go.RowKit
open Go.ChangeMaps (open_string shut_string)

/-- The flags, the times, as they lie. -/
def flC (F : Nat → Bool) : Array Value := ((List.range 48).map fun i => Value.bool (F i)).toArray
def tmC (U : Nat → Int) : Array Value := ((List.range 48).map fun i => Value.int .i64 (U i)).toArray
theorem flC_get (F : Nat → Bool) (i : Nat) (h : i < 48) : (flC F)[i]? = some (.bool (F i)) := by simp [flC, h]
theorem tmC_get (U : Nat → Int) (i : Nat) (h : i < 48) : (tmC U)[i]? = some (.int .i64 (U i)) := by simp [tmC, h]
theorem flC_size (F : Nat → Bool) : (flC F).size = 48 := by simp [flC]
theorem tmC_size (U : Nat → Int) : (tmC U).size = 48 := by simp [tmC]
theorem flC_set (F : Nat → Bool) (i : Nat) (b : Bool) : (flC F).setIfInBounds i (.bool b) = flC (upd F i b) := by
  apply Array.ext
  · simp [flC]
  · intro j h1 h2
    by_cases e : i = j
    · subst e
      simp [flC, upd]
    · simp [flC, upd, e, Ne.symm e]
theorem tmC_set (U : Nat → Int) (i : Nat) (x : Int) : (tmC U).setIfInBounds i (.int .i64 x) = tmC (upd U i x) := by
  apply Array.ext
  · simp [tmC]
  · intro j h1 h2
    by_cases e : i = j
    · subst e
      simp [tmC, upd]
    · simp [tmC, upd, e, Ne.symm e]
theorem Blk.size_one (w : World) (x : Obj) : (w.alloc x).heap.size = w.heap.size + 1 := by show (w.heap.push x).size = _; exact Array.size_push _
theorem flC_zero : flC (fun _ => false) = Array.replicate 48 (.bool false) := by rfl
theorem tmC_zero : tmC (fun _ => 0) = Array.replicate 48 (.int .i64 0) := by rfl
theorem ok_of : ∀ j : Fin 48, (Lit.int .i64 (keyOf j).1).wf = true ∧ (Lit.int .i64 (keyOf j).2.1).wf = true := by decide
theorem once_ok {L : List Va.Sec} {F : Nat → Bool} {U : Nat → Int} (h : Once L F U) (s : Va.Sec) (hs : s ∈ L) : s.channel.size ≤ 50000 ∧ KeyOk s.key := by
  cases hf : Rw.find Va.Sec.key L s.key with
  | none => exact absurd rfl (Rw.find_none.1 hf s hs)
  | some t =>
    obtain ⟨_, j, hj, hk, _⟩ := h.know _ t hf
    have h1 := ok_of ⟨j, hj⟩
    have hc : (keyOf j).2.2.size ≤ 9 := by
      unfold keyOf
      simp only
      split <;> decide
    have e : s.channel = (keyOf j).2.2 := by rw [hk]; rfl
    rw [e, ← hk]
    exact ⟨by omega, h1.1, h1.2, by unfold maxLen; omega⟩
/-- Account, purpose and channel as the law reckons them, and the place of their flag. -/
theorem place_of (n0 n1 n2 : Int) : ∃ (a p c : Nat) (t : Int), a < 4 ∧ p < 6 ∧ c < 2 ∧ bits .and .i64 n0 3 = (a : Int) ∧ n1.tmod 6 = t ∧ IntKind.i64.wrap (t + 6) = t + 6 ∧ (t + 6).tmod 6 = (p : Int) ∧ bits .and .i64 n2 1 = (c : Int) ∧ ixOf n0 n1 n2 = a * 12 + p * 2 + c ∧ accOf n0 = 1 + (a : Int) ∧ purOf n1 = 1 + (p : Int) := by
  have h := pur_eq n1
  have h1 := Int.tmod_lt_of_pos n1 (show (0 : Int) < 6 by decide)
  have h3 : -6 < n1.tmod 6 := by
    have := Int.tmod_lt_of_pos (-n1) (show (0 : Int) < 6 by decide)
    rw [Int.neg_tmod] at this
    omega
  have h4 : wrap64 (n1.tmod 6 + 6) = n1.tmod 6 + 6 := by simp only [wrap64]; omega
  rw [h4] at h
  have h5 : 0 ≤ (n1.tmod 6 + 6).tmod 6 := Int.tmod_nonneg _ (by omega)
  have h6 := Int.tmod_lt_of_pos (n1.tmod 6 + 6) (show (0 : Int) < 6 by decide)
  refine ⟨(n0 % 4).toNat, (n1 % 6).toNat, (n2 % 2).toNat, n1.tmod 6, by omega, by omega, by omega, by rw [and_three]; omega, rfl, by rw [IntKind.wrap_i64]; omega, ?_, by rw [and_one]; omega, rfl, by unfold accOf; omega, by unfold purOf; omega⟩
  unfold purOf at h
  simp only [wrap64] at h
  omega
theorem once_cases {L : List Va.Sec} {F : Nat → Bool} {U : Nat → Int} (h : Once L F U) (hr : ∀ s ∈ L, rightS s = true) (d : ByteArray) (i : Nat) (hi : i < 48) (now : Int) : ∃ L2, L2.length ≤ L.length ∧ (∀ s ∈ L2, rightS s = true) ∧
    ((∃ s, Va.present d L (keyOf i) now = (L2, some s, 0) ∧ F i = true ∧ now < U i ∧ s.key = keyOf i ∧ Once L2 (upd F i false) U) ∨ (Va.present d L (keyOf i) now = (L2, none, 19) ∧ Once L2 (upd F i false) U) ∨
      (Va.present d L (keyOf i) now = (L2, none, 21) ∧ F i = true ∧ Once L2 F U) ∨ (Va.present d L (keyOf i) now = (L2, none, 12) ∧ L2.length = L.length ∧ Once L2 F U)) := by
  have ht := h.told d i hi now
  have hlen := Va.length_present d L (keyOf i) now
  have hw : ∀ s, Rw.find Va.Sec.key L (keyOf i) = some s → ¬ s.expires ≤ now → s.digest ≠ d → (Va.present d L (keyOf i) now).2 = (none, 21) := by
    intro s h1 h2 h3
    have hp := Va.told_present (d := d) (l := L) (k := keyOf i) (now := now)
    rw [h1] at hp
    simp only at hp
    rw [if_neg h2, if_neg h3] at hp
    exact hp
  have hdown : (Va.present d L (keyOf i) now).2.2 ≠ 21 → Once (Va.present d L (keyOf i) now).1 (upd F i false) U := fun hne => h.present d i hi now _ (fun j hj => upd_other _ _ _ hj) (fun s h1 h2 h3 => absurd (by rw [hw s h1 h2 h3]) hne)
  have hstay : Once (Va.present d L (keyOf i) now).1 F U := h.present d i hi now F (fun _ _ => rfl) (fun _ _ _ _ => rfl)
  have hall := Va.all_present (P := fun s => rightS s = true) (d := d) (k := keyOf i) (now := now) hr (fun s h1 h2 => right_less h1 h2)
  obtain ⟨⟨L2, r⟩, hR⟩ : ∃ x, Va.present d L (keyOf i) now = x := ⟨_, rfl⟩
  rw [hR] at ht hlen hdown hstay hall ⊢
  simp only at ht hlen hdown hstay hall
  refine ⟨L2, hlen, hall, ?_⟩
  rcases ht with ⟨h1, h2, h3, s, h4, h5⟩ | ⟨h1, h2⟩ | ⟨h1, h2⟩ | ⟨h1, h2⟩
  · obtain ⟨r1, r2⟩ := r
    simp only at h1 h4
    subst h1
    subst h4
    exact .inl ⟨s, rfl, h2, h3, h5, hdown (show (0 : Nat) ≠ 21 by decide)⟩
  · subst h1
    exact .inr (.inl ⟨rfl, hdown (show (19 : Nat) ≠ 21 by decide)⟩)
  · subst h1
    exact .inr (.inr (.inl ⟨rfl, h2, hstay⟩))
  · subst h1
    exact .inr (.inr (.inr ⟨rfl, by rw [h2], hstay⟩))
set_option maxRecDepth 100000 in
set_option maxHeartbeats 16000000 in
theorem walk (A0 : Option Addr) (c0 : Nat) (l : List Opx) (w : World) (hR : Rdy w) (hlen : l.length ≤ maxLen) (hA0 : ∀ i (hi : i < l.length), OpxOk l[i] ∧ ∃ a, A0 = some a ∧ OpxAt w (a.add (i * 17)) l[i]) :
    Calls Tryz.prog 4 #[.slice A0 l.length c0] w fun e w' => e = .returned (.bool true) ∧ Below w.heap.size w w' := by
  have HAW := Lib.hid (fun W h => awake_any W h)
  have HAT0 := Lib.hid (fun (o : Opx) W => attempt_any o.n0 o.n1 o.n2 o.n3 W)
  have HSE0 := Lib.hid (fun (o : Opx) (n : Int) (hn : 0 ≤ n ∧ n ≤ 1099511627776) W => secret_any o.n0 o.n1 o.n2 o.n3 n hn W)
  have HR := Lib.hid hR
  have HA0 := Lib.hid hA0
  have hll : (l.length : Int) ≤ 9223372036854775807 := by unfold maxLen at hlen; omega
  clear hR hA0 hlen
  go_enter Tryz.func4, Tryz.ntmps4
  go_wp2_with fail
  refine (HAW.out _ HR.out).mono ?_
  rintro e wa ⟨rfl, hb⟩
  have HBa := Lib.hid hb
  clear hb
  go_wp2_with fail
  have HF0 := Lib.hid (show Blk ((wa.alloc (.cells (flC fun _ => false) 31)).alloc (.cells (tmC fun _ => 0) 34)) wa.heap.size 31 (flC fun _ => false) from (Blk.new wa _ _).alloc _)
  have HT0 := Lib.hid (show Blk ((wa.alloc (.cells (flC fun _ => false) 31)).alloc (.cells (tmC fun _ => 0) 34)) (wa.heap.size + 1) 34 (tmC fun _ => 0) by have h := Blk.new (wa.alloc (.cells (flC fun _ => false) 31)) 34 (tmC fun _ => 0); rwa [Blk.size_one] at h)
  have HBb := Lib.hid (show Below w.heap.size w ((wa.alloc (.cells (flC fun _ => false) 31)).alloc (.cells (tmC fun _ => 0) 34)) from (HBa.out.alloc HBa.out.size _).alloc (by have h := HBa.out.size; rw [Blk.size_one]; omega) _)
  have hgw : w.heap.size ≤ wa.heap.size := HBa.out.size
  change Code.wp _ _ _ _ ((wa.alloc (.cells (flC fun _ => false) 31)).alloc (.cells (tmC fun _ => 0) 34))
  generalize (wa.alloc (.cells (flC fun _ => false) 31)).alloc (.cells (tmC fun _ => 0) 34) = wb at HF0 HT0 HBb ⊢
  obtain ⟨gt, hgt⟩ : ∃ g, wa.heap.size + 1 = g := ⟨_, rfl⟩
  rw [hgt] at HT0
  simp only [hgt]
  clear HBa
  generalize wa.heap.size = gf at HF0 hgw hgt ⊢
  have hft : gf ≠ gt := by omega
  have hgw2 : w.heap.size ≤ gt := by omega
  clear hgt
  go_loopw [4, 5, 8, 9, 10, 11, 12, 13, 14, 15, 16, 17] (fun lv nv iv _ _ _ _ _ _ _ _ _ wr => ∃ (i : Nat) (now : Int) (L : List Va.Sec) (F : Nat → Bool) (U : Nat → Int), iv = .int .i64 (i : Int) ∧ nv = .int .i64 now ∧ i ≤ 40 ∧ i ≤ l.length ∧ 0 ≤ now ∧ now ≤ 63 * (i : Int) ∧ L.length ≤ i ∧ Once L F U ∧ (∀ s ∈ L, rightS s = true) ∧ Row (fun b => b = gf ∨ b = gt) L lv wr ∧ Blk wr gf 31 (flC F) ∧ Blk wr gt 34 (tmC U) ∧ Below w.heap.size w wr) (fun _ _ iv _ _ _ _ _ _ _ _ _ _ => 40 - (intOf iv).toNat)
  case atStart => exact ⟨0, 0, [], fun _ => false, fun _ => 0, rfl, rfl, by omega, by omega, by omega, by omega, by simp, Once.nil _ _, fun s hs => by simp at hs, ⟨none, 0, rfl, Nat.le_refl _, Lies.none _ _⟩, HF0.out, HT0.out, HBb.out⟩
  case round =>
    obtain ⟨i, now, L, F, U, rfl, rfl, hi40, hil, hn0, hn1, hLi, hO, hRL, hrow, hF, hT, hB⟩ := hrel
    obtain ⟨A, cp, rfl, hcp, hA⟩ := hrow
    have HA := Lib.hid hA
    have HB := Lib.hid hB
    have HCP := Lib.hid hcp
    have HON := Lib.hid hO
    have HRL := Lib.hid hRL
    have HF := Lib.hid hF
    have HT := Lib.hid hT
    clear hA hB hcp hO hRL hF hT HF0 HT0 HBb
    by_cases hl1 : i < l.length
    · have hi1 : (i : Int) < (l.length : Int) := by omega
      by_cases hl2 : i < 40
      · have hi2 : (i : Int) < 40 := by omega
        obtain ⟨_, ad, hAd, hat⟩ := HA0.out i hl1
        subst hAd
        have hat2 := hat.below HB.out
        obtain ⟨q, hq⟩ : ∃ q, ad.add (i * 17) = q := ⟨_, rfl⟩
        obtain ⟨o, ho⟩ : ∃ o, l[i] = o := ⟨_, rfl⟩
        rw [hq, ho] at hat2
        obtain ⟨_, x0, x1, x2, x3, x4, x5, x6, x7, x8, x9, x10, x11, x12, x13, x14, x15, x16⟩ := hat2
        obtain ⟨k7, hk7, ek⟩ := and_mask o.kind 3 7 (by decide) (by decide)
        obtain ⟨tk, htk, et⟩ := and_mask o.ticks 6 63 (by decide) (by decide)
        rw [show (2 : Nat) ^ 3 = 8 by decide] at hk7
        rw [show (2 : Nat) ^ 6 = 64 by decide] at htk
        obtain ⟨an, pn, cn, t6, ha4, hp6, hc2, ea, et6, ew6, ep, ec, hix, hac, hpu⟩ := place_of o.n0 o.n1 o.n2
        obtain ⟨ix, hix2⟩ : ∃ x, an * 12 + pn * 2 + cn = x := ⟨_, rfl⟩
        rw [hix2] at hix
        have hix48 : ix < 48 := by omega
        have hky : keyOf ix = (accOf o.n0, purOf o.n1, chOf o.n2) := by rw [← hix]; exact keyOf_ix _ _ _
        have ha4i : (an : Int) < 4 := by omega
        have hp6i : (pn : Int) < 6 := by omega
        have hc2i : (cn : Int) < 2 := by omega
        have HFC := Lib.hid (flC_get F ix hix48)
        obtain ⟨now2, hnow2⟩ : ∃ z, now + (tk : Int) = z := ⟨_, rfl⟩
        have hwn : IntKind.i64.wrap (now + (tk : Int)) = now2 := by rw [IntKind.wrap_i64]; omega
        have hn2 : 0 ≤ now2 ∧ now2 ≤ 63 * ((i : Int) + 1) := by omega
        have HAT := Lib.hid (HAT0.out o)
        unfold plOf at HAT
        have HSE := Lib.hid (fun W => HSE0.out o now2 (by omega) W)
        clear hnow2 ho hat htk
        have HO0 := Lib.hid (Blk.new wr 39 #[.int .i64 o.kind, .int .i64 o.ticks, .int .i64 o.n0, .int .i64 o.n1, .int .i64 o.n2, .int .i64 o.n3, .bool o.raw, .string o.s.digest, .int .i64 o.s.account, .int .i64 o.s.purpose, .string o.s.channel, .int .i64 o.s.expires, .int .i64 o.s.tries, .int .i64 o.aa, .int .i64 o.ap, .string o.ac, .string o.al])
        have hal0 : Below wr.heap.size wr (wr.alloc (.cells #[.int .i64 o.kind, .int .i64 o.ticks, .int .i64 o.n0, .int .i64 o.n1, .int .i64 o.n2, .int .i64 o.n3, .bool o.raw, .string o.s.digest, .int .i64 o.s.account, .int .i64 o.s.purpose, .string o.s.channel, .int .i64 o.s.expires, .int .i64 o.s.tries, .int .i64 o.aa, .int .i64 o.ap, .string o.ac, .string o.al] 39)) := (Below.refl _ wr).alloc (Nat.le_refl _) _
        have HB0 := Lib.hid (HB.out.trans (hal0.mono HB.out.size))
        have HA1 := Lib.hid (HA.out.below hal0)
        have HF1 := Lib.hid (HF.out.of (hal0.block _ HF.out.lt))
        have HT1 := Lib.hid (HT.out.of (hal0.block _ HT.out.lt))
        clear hal0
        by_cases h3 : (k7 : Int) < 3
        ·
            have hrt := sec_right o.n0 o.n1 o.n2 o.n3 now2
            have hlf := Mi.life_at (purOf o.n1) (pur_in o.n1)
            have hex : (secQ o.n0 o.n1 o.n2 o.n3 now2).expires = now2 + Mi.life (purOf o.n1) := by rw [sec_expires, Mi.clock_low _ _ (by omega) (by omega) (by omega)]
            have hch : (secQ o.n0 o.n1 o.n2 o.n3 now2).channel.size ≤ 50000 := ch_size o.n2
            have hks : (secQ o.n0 o.n1 o.n2 o.n3 now2).key = keyOf ix := by rw [hky]; rfl
            rw [hpu] at hex hlf
            generalize secQ o.n0 o.n1 o.n2 o.n3 now2 = S0 at *
            rw [sec_row] at HSE
            have hput := fun W hW hW2 => put_any (S := fun b => b = gf ∨ b = gt) A cp L (by omega) HCP.out S0 hch W hW hW2
            rw [hrt, Va.put_ok _ _ (by omega)] at hput
            have HPUT := Lib.hid hput
            have hon2 := HON.out.put S0 ix hix48 hks hrt
            rw [hex] at hon2
            obtain ⟨L2, hL2⟩ : ∃ L2, Rw.put Va.Sec.key L S0 = L2 := ⟨_, rfl⟩
            have hlen2 : L2.length ≤ i + 1 := by rw [← hL2, Rw.put_length]; split <;> omega
            have HR2 := Lib.hid (show ∀ s ∈ L2, rightS s = true by rw [← hL2]; exact Va.all_put HRL.out hrt)
            rw [hL2] at HPUT hon2
            have HON2 := Lib.hid hon2
            have HLF := Lib.hid (fun W => rlife_any (1 + (pn : Int)) W)
            obtain ⟨lf, hlfe⟩ : ∃ z, Mi.life (1 + (pn : Int)) = z := ⟨_, rfl⟩
            rw [hlfe] at HLF HON2 hlf
            clear hput hrt hch hL2 hon2 hex hlfe hks
            go_wp2_with fail
            refine (HSE.out _).mono ?_
            rintro e v3 ⟨rfl, hb⟩
            have HB3 := Lib.hid (HB0.out.trans (hb.mono HB0.out.size))
            have HA3 := Lib.hid (HA1.out.below hb)
            have HF3 := Lib.hid (HF1.out.of (hb.block _ HF1.out.lt))
            have HT3 := Lib.hid (HT1.out.of (hb.block _ HT1.out.lt))
            clear hb x0 x1 x2 x3 x4 x5 x6 x7 x8 x9 x10 x11 x12 x13 x14 x15 x16 HO0
            go_wp2_with fail
            refine (HPUT.out _ (HR.out.next HB3.out).max HA3.out).mono ?_
            rintro e v5 ⟨⟨v, rfl, hv⟩, hb⟩
            obtain ⟨A5, cp5, rfl, hc5, hA5⟩ := hv
            have hfl := HF3.out.lt
            have htl := HT3.out.lt
            have HA5 := Lib.hid (hA5.mono (T := fun b => b = gf ∨ b = gt) (fun q hq h => by rcases h with h | h <;> rw [h] <;> assumption))
            have HC5 := Lib.hid hc5
            have HB5 := Lib.hid (HB3.out.trans (hb.mono HB3.out.size))
            have HF5 := Lib.hid (HF3.out.of (hb.block _ HF3.out.lt))
            have HT5 := Lib.hid (HT3.out.of (hb.block _ HT3.out.lt))
            clear hb hA5 hc5 hfl htl HB3 HA3 HF3 HT3
            have f5 : v5.cell? ⟨gf, ix, none⟩ = some (.bool (F ix)) := (HF5.out.cell ix).trans HFC.out
            have z5 : v5.frozen? ⟨gf, ix, none⟩ = false := HF5.out.frozen ix
            have hw1 : IntKind.i64.wrap (1 + (pn : Int)) = 1 + (pn : Int) := by rw [IntKind.wrap_i64]; omega
            have hwl : IntKind.i64.wrap (now2 + lf) = now2 + lf := by rw [IntKind.wrap_i64]; omega
            go_upto_region 20 with fail
            obtain ⟨v6, hv6⟩ : ∃ W, v5.setCell ⟨gf, ix, none⟩ (.bool true) = W := ⟨_, rfl⟩
            simp only [hv6]
            have HA6 := Lib.hid (HA5.out.kept (w' := v6) (hv6 ▸ (Kept.refl _ v5).setCell (p := ⟨gf, ix, none⟩) (.inl (.inl rfl)) _))
            have HB6 := Lib.hid (show Below w.heap.size w v6 from hv6 ▸ HB5.out.setCell (p := ⟨gf, ix, none⟩) hgw _)
            have HF6 := Lib.hid (show Blk v6 gf 31 (flC (upd F ix true)) by rw [← hv6, ← flC_set]; exact HF5.out.set_ ix _)
            have HT6 := Lib.hid (show Blk v6 gt 34 (tmC U) from hv6 ▸ HT5.out.far (p := ⟨gf, ix, none⟩) (fun h => hft h.symm) _)
            have f6 : v6.cell? ⟨gt, ix, none⟩ = some (.int .i64 (U ix)) := (HT6.out.cell ix).trans (tmC_get U ix hix48)
            have z6 : v6.frozen? ⟨gt, ix, none⟩ = false := HT6.out.frozen ix
            clear f5 z5 hv6 HA5 HB5 HF5 HT5
            go_region_with (go_at_call 15; refine (HLF.out _).mono ?_; rintro e w2 ⟨rfl, rfl⟩)
            all_goals
              go_wp2_with fail
              go_roundw
              case rel => exact ⟨i + 1, now2, L2, upd F ix true, upd U ix (now2 + lf), by go_num, rfl, by omega, by omega, by omega, by omega, hlen2, HON2.out, HR2.out, ⟨A5, cp5, rfl, HC5.out, HA6.out.kept ((Kept.refl (fun b => b = gf ∨ b = gt) v6).setCell (p := ⟨gt, ix, none⟩) (.inl (.inr rfl)) _).drew⟩, (HF6.out.far (p := ⟨gt, ix, none⟩) hft _).drew, by rw [← tmC_set]; exact (HT6.out.set_ ix _).drew, (HB6.out.setCell (p := ⟨gt, ix, none⟩) hgw2 _).drew⟩
              case measure => simp [intOf]; omega
        ·
            clear HSE
            obtain ⟨L2, hlen, hall, hcs⟩ := once_cases HON.out HRL.out (ba (digL (purOf o.n1) (plainL (purOf o.n1) (ten10 (d7 o.n3))))) ix hix48 now2
            have HR2 := Lib.hid hall
            have hlen2 : L2.length ≤ i + 1 := by omega
            have HP := Lib.hid (fun W hW hL => pres_nil (S := fun b => b = gf ∨ b = gt) A cp L (by omega) HCP.out (accOf o.n0) (purOf o.n1) (chOf o.n2) (plainL (purOf o.n1) (ten10 (d7 o.n3))) (plain_len _ _) now2 HRL.out W hW hL)
            rw [hky] at hcs
            have hw1 : IntKind.i64.wrap (1 + (pn : Int)) = 1 + (pn : Int) := by rw [IntKind.wrap_i64]; omega
            have hw2 : IntKind.i64.wrap (1 + (an : Int)) = 1 + (an : Int) := by rw [IntKind.wrap_i64]; omega
            have HAC := Lib.hid hac
            have HPU := Lib.hid hpu
            clear hall hac hpu
            rcases hcs with ⟨s, ht, hfx, hux, hkk, hon⟩ | ⟨ht, hon⟩ | ⟨ht, hfx, hon⟩ | ⟨ht, hle, hon⟩
            · as_aux_lemma =>
                have hp := fun W h1 h2 => HP.out W h1 h2 _ ht
                have hsa : s.account = 1 + (an : Int) := (congrArg (·.1) hkk).trans HAC.out
                have hsp : s.purpose = 1 + (pn : Int) := (congrArg (·.2.1) hkk).trans HPU.out
                simp only [secOf_some] at hp
                rw [hsa, hsp] at hp
                have hlt : ¬ U ix ≤ now2 := by omega
                have HPP := Lib.hid hp
                have HON2 := Lib.hid hon
                clear hp ht hon HP
                generalize ba (plainL (purOf o.n1) (ten10 (d7 o.n3))) = PL at HAT HPP ⊢
                go_wp2_with fail
                refine (HAT.out _).mono ?_
                rintro e v1 ⟨rfl, hb⟩
                have HA2 := Lib.hid (HA1.out.below hb)
                have HB2 := Lib.hid (HB0.out.trans (hb.mono HB0.out.size))
                have HF2 := Lib.hid (HF1.out.of (hb.block _ HF1.out.lt))
                have HT2 := Lib.hid (HT1.out.of (hb.block _ HT1.out.lt))
                clear hb x0 x1 x2 x3 x4 x5 x6 x7 x8 x9 x10 x11 x12 x13 x14 x15 x16 HO0 HA1 HB0 HF1 HT1
                go_wp2_with fail
                refine (HPP.out _ (HR.out.next HB2.out) HA2.out).mono ?_
                rintro e v3 ⟨⟨v, rfl, hv⟩, hb⟩
                obtain ⟨A5, cp5, rfl, hc5, hA5⟩ := hv
                have hfl := HF2.out.lt
                have htl := HT2.out.lt
                have hal : Below v3.heap.size v3 (v3.alloc (.cells #[.string s.digest, .int .i64 (1 + (an : Int)), .int .i64 (1 + (pn : Int)), .string s.channel, .int .i64 s.expires, .int .i64 s.tries] 26)) := (Below.refl _ v3).alloc (Nat.le_refl _) _
                have HA5 := Lib.hid ((hA5.mono (T := fun b => b = gf ∨ b = gt) (fun q hq h => by rcases h with h | h <;> rw [h] <;> assumption)).below hal)
                have HC5 := Lib.hid hc5
                have HB5 := Lib.hid ((HB2.out.trans (hb.mono HB2.out.size)).trans (hal.mono (by have h1 := HB2.out.size; have h2 := hb.size; omega)))
                have HF5 := Lib.hid ((HF2.out.of (hb.block _ HF2.out.lt)).alloc (.cells #[.string s.digest, .int .i64 (1 + (an : Int)), .int .i64 (1 + (pn : Int)), .string s.channel, .int .i64 s.expires, .int .i64 s.tries] 26))
                have HT5 := Lib.hid ((HT2.out.of (hb.block _ HT2.out.lt)).alloc (.cells #[.string s.digest, .int .i64 (1 + (an : Int)), .int .i64 (1 + (pn : Int)), .string s.channel, .int .i64 s.expires, .int .i64 s.tries] 26))
                have f5 : ∀ x, (v3.alloc x).cell? ⟨gf, ix, none⟩ = some (.bool (F ix)) := fun x => ((((HF2.out.of (hb.block _ HF2.out.lt)).alloc x).cell ix)).trans HFC.out
                have z5 : ∀ x, (v3.alloc x).frozen? ⟨gf, ix, none⟩ = false := fun x => ((HF2.out.of (hb.block _ HF2.out.lt)).alloc x).frozen ix
                have u5 : ∀ x, (v3.alloc x).cell? ⟨gt, ix, none⟩ = some (.int .i64 (U ix)) := fun x => ((((HT2.out.of (hb.block _ HT2.out.lt)).alloc x).cell ix)).trans (tmC_get U ix hix48)
                clear hb hA5 hc5 hfl htl hal HA2 HB2 HF2 HT2
                rw [hfx] at f5
                go_upto_region 26 with fail
                obtain ⟨v6, hv6⟩ : ∃ W, (v3.alloc (.cells #[.string s.digest, .int .i64 (1 + (an : Int)), .int .i64 (1 + (pn : Int)), .string s.channel, .int .i64 s.expires, .int .i64 s.tries] 26)).setCell ⟨gf, ix, none⟩ (.bool false) = W := ⟨_, rfl⟩
                simp only [hv6]
                have HA6 := Lib.hid (HA5.out.kept (w' := v6) (hv6 ▸ (Kept.refl _ _).setCell (p := ⟨gf, ix, none⟩) (.inl (.inl rfl)) _))
                have HB6 := Lib.hid (show Below w.heap.size w v6 from hv6 ▸ HB5.out.setCell (p := ⟨gf, ix, none⟩) hgw _)
                have HF6 := Lib.hid (show Blk v6 gf 31 (flC (upd F ix false)) by rw [← hv6, ← flC_set]; exact HF5.out.set_ ix _)
                have HT6 := Lib.hid (show Blk v6 gt 34 (tmC U) from hv6 ▸ HT5.out.far (p := ⟨gf, ix, none⟩) (fun h => hft h.symm) _)
                have f6 : v6.cell? ⟨gf, ix, none⟩ = some (.bool false) := (HF6.out.cell ix).trans ((flC_get _ ix hix48).trans (by rw [upd_here]))
                clear f5 z5 u5 hv6 HA5 HB5 HF5 HT5
                go_wp2_with fail
                go_roundw
                case rel => exact ⟨i + 1, now2, L2, (upd F ix false), U, by go_num, rfl, by omega, by omega, by omega, by omega, hlen2, HON2.out, HR2.out, ⟨A5, cp5, rfl, HC5.out, HA6.out⟩, HF6.out, HT6.out, HB6.out⟩
                case measure => simp [intOf]; omega
            · as_aux_lemma =>
                have hp := fun W h1 h2 => HP.out W h1 h2 _ ht
                unfold secOf zeroV secV at hp
                have HPP := Lib.hid hp
                have HON2 := Lib.hid hon
                clear hp ht hon HP
                generalize ba (plainL (purOf o.n1) (ten10 (d7 o.n3))) = PL at HAT HPP ⊢
                go_wp2_with fail
                refine (HAT.out _).mono ?_
                rintro e v1 ⟨rfl, hb⟩
                have HA2 := Lib.hid (HA1.out.below hb)
                have HB2 := Lib.hid (HB0.out.trans (hb.mono HB0.out.size))
                have HF2 := Lib.hid (HF1.out.of (hb.block _ HF1.out.lt))
                have HT2 := Lib.hid (HT1.out.of (hb.block _ HT1.out.lt))
                clear hb x0 x1 x2 x3 x4 x5 x6 x7 x8 x9 x10 x11 x12 x13 x14 x15 x16 HO0 HA1 HB0 HF1 HT1
                go_wp2_with fail
                refine (HPP.out _ (HR.out.next HB2.out) HA2.out).mono ?_
                rintro e v3 ⟨⟨v, rfl, hv⟩, hb⟩
                obtain ⟨A5, cp5, rfl, hc5, hA5⟩ := hv
                have hfl := HF2.out.lt
                have htl := HT2.out.lt
                have hal : Below v3.heap.size v3 (v3.alloc (.cells #[.string ⟨#[]⟩, .int .i64 0, .int .i64 0, .string ⟨#[]⟩, .int .i64 0, .int .i64 0] 26)) := (Below.refl _ v3).alloc (Nat.le_refl _) _
                have HA5 := Lib.hid ((hA5.mono (T := fun b => b = gf ∨ b = gt) (fun q hq h => by rcases h with h | h <;> rw [h] <;> assumption)).below hal)
                have HC5 := Lib.hid hc5
                have HB5 := Lib.hid ((HB2.out.trans (hb.mono HB2.out.size)).trans (hal.mono (by have h1 := HB2.out.size; have h2 := hb.size; omega)))
                have HF5 := Lib.hid ((HF2.out.of (hb.block _ HF2.out.lt)).alloc (.cells #[.string ⟨#[]⟩, .int .i64 0, .int .i64 0, .string ⟨#[]⟩, .int .i64 0, .int .i64 0] 26))
                have HT5 := Lib.hid ((HT2.out.of (hb.block _ HT2.out.lt)).alloc (.cells #[.string ⟨#[]⟩, .int .i64 0, .int .i64 0, .string ⟨#[]⟩, .int .i64 0, .int .i64 0] 26))
                have f5 : ∀ x, (v3.alloc x).cell? ⟨gf, ix, none⟩ = some (.bool (F ix)) := fun x => ((((HF2.out.of (hb.block _ HF2.out.lt)).alloc x).cell ix)).trans HFC.out
                have z5 : ∀ x, (v3.alloc x).frozen? ⟨gf, ix, none⟩ = false := fun x => ((HF2.out.of (hb.block _ HF2.out.lt)).alloc x).frozen ix
                have u5 : ∀ x, (v3.alloc x).cell? ⟨gt, ix, none⟩ = some (.int .i64 (U ix)) := fun x => ((((HT2.out.of (hb.block _ HT2.out.lt)).alloc x).cell ix)).trans (tmC_get U ix hix48)
                clear hb hA5 hc5 hfl htl hal HA2 HB2 HF2 HT2
                go_upto_region 26 with fail
                obtain ⟨v6, hv6⟩ : ∃ W, (v3.alloc (.cells #[.string ⟨#[]⟩, .int .i64 0, .int .i64 0, .string ⟨#[]⟩, .int .i64 0, .int .i64 0] 26)).setCell ⟨gf, ix, none⟩ (.bool false) = W := ⟨_, rfl⟩
                simp only [hv6]
                have HA6 := Lib.hid (HA5.out.kept (w' := v6) (hv6 ▸ (Kept.refl _ _).setCell (p := ⟨gf, ix, none⟩) (.inl (.inl rfl)) _))
                have HB6 := Lib.hid (show Below w.heap.size w v6 from hv6 ▸ HB5.out.setCell (p := ⟨gf, ix, none⟩) hgw _)
                have HF6 := Lib.hid (show Blk v6 gf 31 (flC (upd F ix false)) by rw [← hv6, ← flC_set]; exact HF5.out.set_ ix _)
                have HT6 := Lib.hid (show Blk v6 gt 34 (tmC U) from hv6 ▸ HT5.out.far (p := ⟨gf, ix, none⟩) (fun h => hft h.symm) _)
                have f6 : v6.cell? ⟨gf, ix, none⟩ = some (.bool false) := (HF6.out.cell ix).trans ((flC_get _ ix hix48).trans (by rw [upd_here]))
                clear f5 z5 u5 hv6 HA5 HB5 HF5 HT5
                go_wp2_with fail
                go_roundw
                case rel => exact ⟨i + 1, now2, L2, (upd F ix false), U, by go_num, rfl, by omega, by omega, by omega, by omega, hlen2, HON2.out, HR2.out, ⟨A5, cp5, rfl, HC5.out, HA6.out⟩, HF6.out, HT6.out, HB6.out⟩
                case measure => simp [intOf]; omega
            · as_aux_lemma =>
                have hp := fun W h1 h2 => HP.out W h1 h2 _ ht
                unfold secOf zeroV secV at hp
                have HPP := Lib.hid hp
                have HON2 := Lib.hid hon
                clear hp ht hon HP
                generalize ba (plainL (purOf o.n1) (ten10 (d7 o.n3))) = PL at HAT HPP ⊢
                go_wp2_with fail
                refine (HAT.out _).mono ?_
                rintro e v1 ⟨rfl, hb⟩
                have HA2 := Lib.hid (HA1.out.below hb)
                have HB2 := Lib.hid (HB0.out.trans (hb.mono HB0.out.size))
                have HF2 := Lib.hid (HF1.out.of (hb.block _ HF1.out.lt))
                have HT2 := Lib.hid (HT1.out.of (hb.block _ HT1.out.lt))
                clear hb x0 x1 x2 x3 x4 x5 x6 x7 x8 x9 x10 x11 x12 x13 x14 x15 x16 HO0 HA1 HB0 HF1 HT1
                go_wp2_with fail
                refine (HPP.out _ (HR.out.next HB2.out) HA2.out).mono ?_
                rintro e v3 ⟨⟨v, rfl, hv⟩, hb⟩
                obtain ⟨A5, cp5, rfl, hc5, hA5⟩ := hv
                have hfl := HF2.out.lt
                have htl := HT2.out.lt
                have hal : Below v3.heap.size v3 (v3.alloc (.cells #[.string ⟨#[]⟩, .int .i64 0, .int .i64 0, .string ⟨#[]⟩, .int .i64 0, .int .i64 0] 26)) := (Below.refl _ v3).alloc (Nat.le_refl _) _
                have HA5 := Lib.hid ((hA5.mono (T := fun b => b = gf ∨ b = gt) (fun q hq h => by rcases h with h | h <;> rw [h] <;> assumption)).below hal)
                have HC5 := Lib.hid hc5
                have HB5 := Lib.hid ((HB2.out.trans (hb.mono HB2.out.size)).trans (hal.mono (by have h1 := HB2.out.size; have h2 := hb.size; omega)))
                have HF5 := Lib.hid ((HF2.out.of (hb.block _ HF2.out.lt)).alloc (.cells #[.string ⟨#[]⟩, .int .i64 0, .int .i64 0, .string ⟨#[]⟩, .int .i64 0, .int .i64 0] 26))
                have HT5 := Lib.hid ((HT2.out.of (hb.block _ HT2.out.lt)).alloc (.cells #[.string ⟨#[]⟩, .int .i64 0, .int .i64 0, .string ⟨#[]⟩, .int .i64 0, .int .i64 0] 26))
                have f5 : ∀ x, (v3.alloc x).cell? ⟨gf, ix, none⟩ = some (.bool (F ix)) := fun x => ((((HF2.out.of (hb.block _ HF2.out.lt)).alloc x).cell ix)).trans HFC.out
                have z5 : ∀ x, (v3.alloc x).frozen? ⟨gf, ix, none⟩ = false := fun x => ((HF2.out.of (hb.block _ HF2.out.lt)).alloc x).frozen ix
                have u5 : ∀ x, (v3.alloc x).cell? ⟨gt, ix, none⟩ = some (.int .i64 (U ix)) := fun x => ((((HT2.out.of (hb.block _ HT2.out.lt)).alloc x).cell ix)).trans (tmC_get U ix hix48)
                clear hb hA5 hc5 hfl htl hal HA2 HB2 HF2 HT2
                rw [hfx] at f5
                go_wp2_with fail
                go_roundw
                case rel => exact ⟨i + 1, now2, L2, F, U, by go_num, rfl, by omega, by omega, by omega, by omega, hlen2, HON2.out, HR2.out, ⟨A5, cp5, rfl, HC5.out, HA5.out⟩, HF5.out, HT5.out, HB5.out⟩
                case measure => simp [intOf]; omega
            · as_aux_lemma =>
                have hp := fun W h1 h2 => HP.out W h1 h2 _ ht
                unfold secOf zeroV secV at hp
                have HPP := Lib.hid hp
                have HON2 := Lib.hid hon
                clear hp ht hon HP
                generalize ba (plainL (purOf o.n1) (ten10 (d7 o.n3))) = PL at HAT HPP ⊢
                go_wp2_with fail
                refine (HAT.out _).mono ?_
                rintro e v1 ⟨rfl, hb⟩
                have HA2 := Lib.hid (HA1.out.below hb)
                have HB2 := Lib.hid (HB0.out.trans (hb.mono HB0.out.size))
                have HF2 := Lib.hid (HF1.out.of (hb.block _ HF1.out.lt))
                have HT2 := Lib.hid (HT1.out.of (hb.block _ HT1.out.lt))
                clear hb x0 x1 x2 x3 x4 x5 x6 x7 x8 x9 x10 x11 x12 x13 x14 x15 x16 HO0 HA1 HB0 HF1 HT1
                go_wp2_with fail
                refine (HPP.out _ (HR.out.next HB2.out) HA2.out).mono ?_
                rintro e v3 ⟨⟨v, rfl, hv⟩, hb⟩
                obtain ⟨A5, cp5, rfl, hc5, hA5⟩ := hv
                have hfl := HF2.out.lt
                have htl := HT2.out.lt
                have hal : Below v3.heap.size v3 (v3.alloc (.cells #[.string ⟨#[]⟩, .int .i64 0, .int .i64 0, .string ⟨#[]⟩, .int .i64 0, .int .i64 0] 26)) := (Below.refl _ v3).alloc (Nat.le_refl _) _
                have HA5 := Lib.hid ((hA5.mono (T := fun b => b = gf ∨ b = gt) (fun q hq h => by rcases h with h | h <;> rw [h] <;> assumption)).below hal)
                have HC5 := Lib.hid hc5
                have HB5 := Lib.hid ((HB2.out.trans (hb.mono HB2.out.size)).trans (hal.mono (by have h1 := HB2.out.size; have h2 := hb.size; omega)))
                have HF5 := Lib.hid ((HF2.out.of (hb.block _ HF2.out.lt)).alloc (.cells #[.string ⟨#[]⟩, .int .i64 0, .int .i64 0, .string ⟨#[]⟩, .int .i64 0, .int .i64 0] 26))
                have HT5 := Lib.hid ((HT2.out.of (hb.block _ HT2.out.lt)).alloc (.cells #[.string ⟨#[]⟩, .int .i64 0, .int .i64 0, .string ⟨#[]⟩, .int .i64 0, .int .i64 0] 26))
                have f5 : ∀ x, (v3.alloc x).cell? ⟨gf, ix, none⟩ = some (.bool (F ix)) := fun x => ((((HF2.out.of (hb.block _ HF2.out.lt)).alloc x).cell ix)).trans HFC.out
                have z5 : ∀ x, (v3.alloc x).frozen? ⟨gf, ix, none⟩ = false := fun x => ((HF2.out.of (hb.block _ HF2.out.lt)).alloc x).frozen ix
                have u5 : ∀ x, (v3.alloc x).cell? ⟨gt, ix, none⟩ = some (.int .i64 (U ix)) := fun x => ((((HT2.out.of (hb.block _ HT2.out.lt)).alloc x).cell ix)).trans (tmC_get U ix hix48)
                clear hb hA5 hc5 hfl htl hal HA2 HB2 HF2 HT2
                cases hfx : F ix <;> rw [hfx] at f5
                all_goals
                  have hne : ((L2.length : Int) != (L.length : Int)) = false := by rw [hle]; simp
                  go_wp2_with fail
                  go_roundw
                  case rel => exact ⟨i + 1, now2, L2, F, U, by go_num, rfl, by omega, by omega, by omega, by omega, hlen2, HON2.out, HR2.out, ⟨A5, cp5, by rw [hle], HC5.out, HA5.out⟩, HF5.out, HT5.out, HB5.out⟩
                  case measure => simp [intOf]; omega
      · have hi2 : ¬ (i : Int) < 40 := by omega
        go_wp2_with fail
        refine (check_any A cp L (by omega) (fun s hs => (once_ok HON.out s hs).1) (fun s hs => (once_ok HON.out s hs).2) wr (HR.out.next HB.out).max HA.out).mono ?_
        rintro e w9 ⟨rfl, hb⟩
        rw [show checkB L = true by unfold checkB; rw [Bool.and_eq_true, Bool.and_eq_true]; exact ⟨⟨List.all_eq_true.2 HRL.out, decide_eq_true HON.out.uniq⟩, decide_eq_true (by omega)⟩]
        go_wp2_with fail
        go_ret
        exact ⟨rfl, HB.out.trans (hb.mono HB.out.size)⟩
    · have hi1 : ¬ (i : Int) < (l.length : Int) := by omega
      go_wp2_with fail
      refine (check_any A cp L (by omega) (fun s hs => (once_ok HON.out s hs).1) (fun s hs => (once_ok HON.out s hs).2) wr (HR.out.next HB.out).max HA.out).mono ?_
      rintro e w9 ⟨rfl, hb⟩
      rw [show checkB L = true by unfold checkB; rw [Bool.and_eq_true, Bool.and_eq_true]; exact ⟨⟨List.all_eq_true.2 HRL.out, decide_eq_true HON.out.uniq⟩, decide_eq_true (by omega)⟩]
      go_wp2_with fail
      go_ret
      exact ⟨rfl, HB.out.trans (hb.mono HB.out.size)⟩

/-! ### The row -/
set_option maxRecDepth 100000 in
theorem contract (H : Type) (enc : TypeId × Value → H) (W : World) (base : Nat) (args : Array Value) (ds gs : List (DataW H)) (before : List MemPlace)
    (hval : ∀ (j : Nat) t v, Tryz.f4.params[j]? = some t → args[j]? = some v → Value.okWide Tryz.prog W .any base t v)
    (hW : DataW.Whole enc Tryz.prog Tryz.f4.params.toList Rows.vaultOnceSpec.vars false W args.toList ds gs before) (hL : laidMet Tryz.prog Rows.vaultOnceRow.laid W) (hS : W.ShapedOpen Tryz.prog) :
    Calls Tryz.prog 4 args W fun e W' => ∃ v, e = .returned v ∧ Rows.vaultOnceSpec.post enc Tryz.prog Tryz.f4 false true false false W args v W' := by
  have hW' := hW
  obtain ⟨p, q, hA0, hV, rfl, hfz, hnd⟩ := hW
  have hA : DataW.TrodAll enc Tryz.prog W 0 (fun _ => true) true Tryz.f4.params.toList args.toList ds p := hA0
  rw [Tryz.params4] at hA hval
  obtain ⟨v0, vs0, d0, ds0, p0, q0, hargs, rfl, rfl, h0, r0⟩ := trodAll_cons hA
  obtain ⟨rfl, rfl, rfl⟩ := trodAll_nil r0
  obtain rfl : args = #[v0] := by cases args; simp_all
  obtain ⟨rfl, rfl⟩ := trodVars_none hV
  refine law_contract (tb := 4) laidOut (by kernel_rfl) rfl (by kernel_rfl) Tryz.underlying4 rfl hW' ?_
  clear hA0 hW' hA
  obtain ⟨A0, k0, l0, rfl, z0, g0⟩ := open_ops (hval 0 23 v0 rfl rfl) h0
  exact walk A0 k0 l0 W (rdy_of (tab_CubeRoots (laidMet.tail hL)) (tab_SquareRoots (laidMet.tail (laidMet.tail hL))) hS) z0 g0

theorem laid_met (os : Os) : laidMet Tryz.prog Rows.vaultOnceRow.laid ((laidWorld os).forCall (fun _ _ => 0) ⟨#[], #[.slice none 0 0], []⟩).memory :=
  laidMet_of_run' 8 (by kernel_rfl) (by kernel_rfl)
theorem reads (os : Os) {H : Type} (enc : TypeId × Value → H) : ∃ places, DataW.whole enc Tryz.prog ((laidWorld os).forCall (fun _ _ => 0) ⟨#[], #[.slice none 0 0], []⟩).memory Tryz.f4.params.toList Rows.vaultOnceSpec.vars false (#[.slice none 0 0] : Array Value).toList 8 = some ([.nil], [], places) :=
  ⟨[], by kernel_rfl⟩

set_option maxRecDepth 100000 in
theorem lifted (os : Os) (started : os.Started) (H : Type) (enc : TypeId × Value → H) (F : Stop.Interp) :
    ReturnsInHanded {} Tryz.checked os 4 .any ((OpenSpec.ofChange Rows.vaultOnceSpec).preRow enc Tryz.prog Tryz.f4 Rows.vaultOnceRow.domain false Rows.vaultOnceRow.laid) (((OpenSpec.ofChange Rows.vaultOnceSpec).at F).post enc Tryz.prog Tryz.f4 false true false false) := by
  obtain ⟨places, hx⟩ := reads os enc
  refine returnsInHanded_of_row (C := Tryz.checked) (s := OpenSpec.ofChange Rows.vaultOnceSpec) own started (by kernel_rfl) Tryz.func4
    (witness_row_at (enc := enc) (C := Tryz.checked) false (laidWorld os) #[.slice none 0 0] rfl (by kernel_rfl) (by kernel_rfl) (by kernel_rfl)
      (OpenSpec.preRow_of_cond 8 hx (by kernel_rfl) (fun k hk => by cases hk) (by kernel_rfl) (laid_met os))) ?_
  intro W base args ds gs before hval hW _ _ _ hL hS _
  exact contract H enc W base args ds gs before hval hW hL hS

theorem said : Rows.VaultOnceSaid :=
  OpenClaim.holds_of_cond 4 Tryz.f4 rfl rfl rfl rfl rfl rfl rfl ⟨rfl, rfl, rfl, rfl, rfl⟩ rfl rfl rfl rfl rfl (by kernel_rfl) Tryz.func4 (by kernel_rfl)
    (of_decide_eq_true (by kernel_rfl)) (by unfold Func.isWrapper; first | (rw [if_pos (by decide +kernel)]; kernel_rfl) | (rw [if_neg (by decide +kernel)]; exact ⟨rfl, rfl⟩))
    (fun os started H enc _ F => by rw [OpenClaim.pre_eq_preRow]; exact lifted os started H enc F)

theorem plain (f : FuncId) (fn : Func) (hf : Tryz.pinned.checked.prog.funcNamed "homecoming/homecominglaw11.VaultOnce" = some f) (hfn : Tryz.pinned.checked.prog.funcs[f]? = some fn) :
    false = Tryz.pinned.checked.prog.looks [] ∧ ∀ (j : Nat) t, fn.params[j]? = some t → Tryz.pinned.checked.prog.wantsStandIn t = false := by
  obtain rfl : f = 4 := Option.some.inj ((show Tryz.prog.funcNamed "homecoming/homecominglaw11.VaultOnce" = some 4 by kernel_rfl).symm.trans hf) |>.symm
  obtain rfl : fn = Tryz.f4 := (Option.some.inj (Tryz.func4.symm.trans hfn)).symm
  refine ⟨by kernel_rfl, fun j t ht => ?_⟩
  have hall : (Tryz.f4.params.toList.all fun u => !Tryz.prog.wantsStandIn u) = true := by kernel_rfl
  have hm : t ∈ Tryz.f4.params.toList := by simpa using Array.mem_of_getElem? ht
  exact (show Tryz.prog.wantsStandIn t = false by simpa using List.all_eq_true.1 hall t hm)

/-- THE STATEMENT. -/
theorem card : Rows.VaultOnceCardSaid :=
  Claim7.holds_tied_plain_at .later [] _ _ _ _ said (fun _ h => by cases h) (by kernel_rfl) (fun _ h => by cases h) vaultOnce_row_tie rfl ⟨rfl, rfl⟩ (by kernel_rfl) rfl plain (by kernel_rfl)
#print axioms card
end Go.Proofs.YtfjdcopndkdbmaaGreatDoor.vaultOnce
