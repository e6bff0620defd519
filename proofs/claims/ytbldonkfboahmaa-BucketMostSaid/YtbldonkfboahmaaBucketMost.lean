/-
  BucketMost: within any ticks no more is taken than Most tells. No condition.
-/
import Derived.BigQuiet
import Derived.Test.YtbldonkfboahmaaBcZ
import Derived.Test.YtbldonkfboahmaaBcO
import Derived.Test.YtbldonkfboahmaaTkT
namespace Go.Proofs.Ytbldonkfboahmaa.bucketMost
open Go.ChangeShapes Go.WideShapes Go.ChangeAt Go.RowKit
open Go.ChangeMaps (open_string shut_string)


theorem row_kept {S : Nat → Prop} {m : List Bu} {v : Value} {W W' : World} (h : Row S m v W) (hk : Kept S W W') : Row S m v W' := by
  obtain ⟨A, c, e, hc, hA⟩ := h
  exact ⟨A, c, e, hc, hA.kept hk⟩
def nts (l : List Nat) : List Value := l.map fun n : Nat => .int .i64 (n : Int)
theorem nts_length (l : List Nat) : (nts l).length = l.length := by simp [nts]
theorem nts_get (l : List Nat) (i : Nat) (h : i < l.length) : (nts l)[i]? = some (.int .i64 (l[i] : Int)) := by simp [nts, h]
theorem nts_cell (l : List Nat) : ∀ u ∈ nts l, u.oneCell' = true := by
  intro u hu
  obtain ⟨s, _, rfl⟩ := List.mem_map.1 hu
  rfl
theorem nts_append (l : List Nat) (n : Nat) : nts (l ++ [n]) = nts l ++ [.int .i64 (n : Int)] := by simp [nts]
theorem info_i64 : ∃ i, Try.prog.info? 2 = some i ∧ i.zero = some (.int .i64 0) ∧ i.size = 1 ∧ i.bytes = 8 := info_parts (by kernel_rfl)
theorem append_int {base : Nat} {W : World} (hbase : base ≤ W.heap.size) {A : Option Addr} {n c : Nat} {xs : List Nat} (hown : W.ownsRow base 2 1 (.slice A n c) n (nts xs)) (x : Nat) (hn : n ≤ 1000000) (ty : TypeId) :
    ∃ A' c' W', (Builtin.append_ #[42, 42] ty #[.slice A n c, .slice (some ⟨W.heap.size, 0, none⟩) 1 1]).run Try.prog (W.alloc (.cells #[.int .i64 (x : Int)] 2)) = .ok (.slice A' (n + 1) c') W' ∧
      W'.ownsRow base 2 1 (.slice A' (n + 1) c') (n + 1) (nts (xs ++ [x])) ∧ (∀ w0, Below base w0 W → Below base w0 W') ∧ ∀ S : Nat → Prop, (∀ k, (Value.slice A n c).ownBlock = some k → S k) → Kept S W W' := by
  obtain ⟨i0, hi, hz, hs, hb⟩ := info_i64
  have hblk := Blk.new W 2 #[.int .i64 (x : Int)]
  have hA : Lies (fun _ => False) (W.alloc (.cells #[.int .i64 (x : Int)] 2)) (some ⟨W.heap.size, 0, none⟩) (nts [x]) := fun j u hj => by
    refine ⟨_, rfl, hblk.lt, fun h => h, ?_⟩
    rw [Addr.add_mid, Nat.zero_add, hblk.cell, ← Array.getElem?_toList, ← hj]
    rfl
  obtain ⟨A', c', W', hr, ho, hg⟩ := run_append_rows (P := Try.prog) (W.alloc (.cells #[.int .i64 (x : Int)] 2)) base 1 (by decide) 42 ty 2 i0 _ 8 Try.underlying42 hi hz hs hb rfl (.slice A n c) n (nts xs) (own_on hown ((Below.refl _ W).alloc (Nat.le_refl _) _)) (some ⟨W.heap.size, 0, none⟩) 1 1 (nts [x]) rfl hA (nts_cell [x]) (by unfold maxLen; omega) (by omega) (by simp; omega)
  rw [show nts xs ++ nts [x] = nts (xs ++ [x]) by simp [nts]] at ho
  exact ⟨A', c', W', hr, ho, fun w0 h0 => (h0.alloc hbase _).grown hg (by simp; omega) (fun j hj => own_base hown hj), fun S hS => ((Kept.refl S W).alloc _).grown hg (fun k hk => .inl (hS k hk))⟩
/-! ### Takes, counted -/
theorem counted_on {L : List Bb} {K : ByteArray} {ats : List Nat} {now : Nat} (h : Bk.Counted ats (Bk.worth L K now) now) (d : Nat) : Bk.Counted ats (Bk.worth L K (now + d)) (now + d) :=
  h.later (Bk.worth_later L K now d).2
theorem counted_take {L : List Bb} (hr : Bk.Rising kl L) {K : ByteArray} {ats : List Nat} {now : Nat} (h : Bk.Counted ats (Bk.worth L K now) now) :
    ((takeB L K now).2 = 0 → Bk.Counted (ats ++ [now]) (Bk.worth (takeB L K now).1 K now) now) ∧ (¬ (takeB L K now).2 = 0 → Bk.Counted ats (Bk.worth (takeB L K now).1 K now) now) := by
  by_cases h1 : K = ⟨#[]⟩ ∨ Bk.left L K now = 0
  · rw [take_a h1]
    exact ⟨fun e => (by cases e), fun _ => h⟩
  · by_cases h2 : has (Bk.sweep L now) K = false ∧ 24 ≤ (Bk.sweep L now).length
    · rw [take_b h1 h2.1 h2.2]
      exact ⟨fun e => (by cases e), fun _ => h⟩
    · rw [take_c h1 h2]
      refine ⟨fun _ => ?_, fun e => absurd rfl e⟩
      have hl : 1 ≤ Bk.left L K now := by
        rcases Nat.eq_zero_or_pos (Bk.left L K now) with e | e
        · exact absurd (.inr e) h1
        · exact e
      rw [Bk.worth_taken ordK hr K now hl]
      refine h.take ?_ (Bk.worth_le L K now)
      rw [Bk.left_worth] at hl
      omega
theorem counted_other {L : List Bb} (hr : Bk.Rising kl L) {K J : ByteArray} (hne : K ≠ J) {ats : List Nat} {now : Nat} (h : Bk.Counted ats (Bk.worth L K now) now) : Bk.Counted ats (Bk.worth (takeB L J now).1 K now) now := by
  by_cases h1 : J = ⟨#[]⟩ ∨ Bk.left L J now = 0
  · rw [take_a h1]
    exact h
  · by_cases h2 : has (Bk.sweep L now) J = false ∧ 24 ≤ (Bk.sweep L now).length
    · rw [take_b h1 h2.1 h2.2]
      exact h
    · rw [take_c h1 h2]
      have := Bk.worth_taken_other ordK hr J K now 0 hne
      rw [Nat.add_zero] at this
      show Bk.Counted ats (Bk.worth (Bk.taken kl L J now) K now) now
      rw [this]
      exact h
/-- How many of the takes from place i to place j come within the ticks. -/
def cnt (l : List Nat) (i w j : Nat) : Nat := (((l.drop i).take (j - i)).filter fun t => decide (t < l.getD i 0 + w)).length
theorem cnt_more (l : List Nat) (i w j : Nat) (hij : i ≤ j) (hj : j < l.length) : cnt l i w (j + 1) = cnt l i w j + (if l[j] < l.getD i 0 + w then 1 else 0) := by
  unfold cnt
  have hd : j - i < (l.drop i).length := by rw [List.length_drop]; omega
  rw [show j + 1 - i = j - i + 1 by omega, List.take_succ_eq_append_getElem hd, List.filter_append, List.length_append, List.getElem_drop]
  congr 1
  have e : l[i + (j - i)]'(by omega) = l[j] := by congr 1; omega
  by_cases h : l[j] < l.getD i 0 + w
  · rw [e, if_pos h, List.filter_cons, if_pos (decide_eq_true h)]
    rfl
  · rw [e, if_neg h, List.filter_cons, if_neg (fun x => h (of_decide_eq_true x))]
    rfl
theorem cnt_le (l : List Nat) (i w j : Nat) : cnt l i w j ≤ j - i := by
  unfold cnt
  refine Nat.le_trans (List.length_filter_le _ _) ?_
  rw [List.length_take]
  omega
theorem cnt_all {l : List Nat} {c now : Nat} (h : Bk.Counted l c now) (i w : Nat) (hi : i < l.length) (hw : 1 ≤ w) : cnt l i w l.length ≤ 4 + (w - 1) / 25 := by
  have := h.most i w hi hw
  unfold cnt
  rw [List.take_of_length_le (by rw [List.length_drop]; omega), List.getD_eq_getElem?_getD, List.getElem?_eq_getElem hi]
  exact this
theorem most_nat (w : Nat) (h1 : 1 ≤ w) (h2 : w ≤ 256) : mostI (w : Int) = ((4 + (w - 1) / 25 : Nat) : Int) := by
  unfold mostI
  rw [if_neg (by omega)]
  omega
set_option maxRecDepth 100000 in
set_option maxHeartbeats 16000000 in
theorem walk (A : Option Addr) (cp : Nat) (l : List (Int × Int)) (q : Int) (w : World) (hA : Prs w A l) :
    Calls Try.prog 5 #[.slice A l.length cp, .int .i64 q] w fun e w' => e = .returned (.bool true) ∧ Below w.heap.size w w' := by
  have HA := Lib.hid hA
  clear hA
  obtain ⟨mn, hmn⟩ : ∃ mn, min l.length 60 = mn := ⟨_, rfl⟩
  go_enter Try.func5, Try.ntmps5
  go_wp2_with fail
  refine (awake_any _).mono ?_
  rintro e w1 ⟨rfl, hb1⟩
  have HB1 := Lib.hid hb1
  have HA1 := Lib.hid (HA.out.below hb1)
  clear hb1
  go_wp2_with fail
  go_loopw [6, 7, 8, 9, 10, 11] (fun a nv av ii _ _ wr => ∃ (k now : Nat) (L : List Bb) (ats : List Nat), Gd L ∧ Row (fun _ => False) (M L) a wr ∧ nv = .int .i64 (now : Int) ∧ now ≤ 31 * k ∧ ∃ (Y : Option Addr) (j cy : Nat), av = .slice Y j cy ∧ ats.length = j ∧ wr.ownsRow w1.heap.size 2 1 (.slice Y j cy) j (nts ats) ∧ ii = .int .i64 (k : Int) ∧ k ≤ mn ∧ j ≤ k ∧ Bk.Counted ats (Bk.worth L (keyS 0) now) now ∧ Below w1.heap.size w1 wr) (fun _ _ _ ii _ _ _ => mn - (intOf ii).toNat)
  case atStart => exact ⟨0, 0, [], [], gd_nil, ⟨none, 0, rfl, Nat.le_refl _, Lies.none _ _⟩, rfl, by omega, none, 0, 0, rfl, rfl, ⟨rfl, .inl ⟨rfl, rfl⟩⟩, rfl, by omega, by omega, Bk.Counted.nil _ _, Below.refl _ w1⟩
  case round =>
    obtain ⟨k, now, L, ats, hgd, ⟨A1, c1, rfl, hc1, hL1⟩, rfl, hnow, Y, j, cy, rfl, hlj, hown, rfl, hk, hjk, hct, hB⟩ := hrel
    rw [M_length] at hc1
    simp only [M_length]
    have HB := Lib.hid hB
    have HL1 := Lib.hid hL1
    have HOW := Lib.hid hown
    clear hB hL1 hown
    by_cases hlt : k < mn
    · have hkl : k < l.length := by omega
      have hki : (k : Int) < (l.length : Int) := by omega
      have hk80 : (k : Int) < 60 := by omega
      obtain ⟨ad, rfl, sa0⟩ := HA1.out k hkl
      have sa := sa0.below HB.out
      obtain ⟨qa, hq0⟩ : ∃ q, ad.add (k * 2) = q := ⟨_, rfl⟩
      obtain ⟨x, hx⟩ : ∃ x, l[k] = x := ⟨_, rfl⟩
      rw [hq0, hx] at sa
      obtain ⟨x0, x1⟩ := x
      have HSA := Lib.hid sa
      have s0 := sa.c0
      have s1 := sa.c1
      simp only at s0 s1
      have ha := and31 x1
      have hlo := lo_lt x1 32 (by decide)
      obtain ⟨tk, htk⟩ : ∃ t, lo x1 32 = t := ⟨_, rfl⟩
      rw [htk] at ha hlo
      obtain ⟨nw, hnw⟩ : ∃ n, now + tk = n := ⟨_, rfl⟩
      have hv : IntKind.i64.wrap ((now : Int) + (tk : Int)) = (nw : Int) := by rw [IntKind.wrap_i64]; omega
      have hnk : nw ≤ 31 * (k + 1) := by omega
      have HCT := Lib.hid (counted_on hct tk)
      rw [hnw] at HCT
      have hbit := and1 x0
      have hb2 := lo_lt x0 2 (by decide)
      clear hnw sa hnow
      by_cases hbb : lo x0 2 = 0
      · have hb1 : bits .and .i64 x0 1 = 0 := by rw [hbit, hbb]; rfl
        have H1 := Lib.hid (TakeO_any A1 c1 L hc1 hgd (keyS 0) nw (by omega) wr HL1.out)
        have hgt := gd_take hgd (keyS 0) nw (by omega)
        have hcn := counted_take hgd.vl.rise (K := keyS 0) HCT.out
        generalize takeB L (keyS 0) nw = TT at H1 hgt hcn
        obtain ⟨X, ec⟩ := TT
        simp only at H1 hgt hcn
        have HGT := Lib.hid hgt
        have HKX : Hid (keyS (kix 0) = (keyS 0)) := Lib.hid (by rw [kix_zero])
        clear hgt hgd hct sa0 hx htk
        by_cases hz : ec = 0
        · subst hz
          have HCN := Lib.hid (hcn.1 rfl)
          clear hcn
          go_wp2_with fail
          refine (key_any 0 wr).mono ?_
          rintro e w2' ⟨rfl, rfl⟩
          rw [HKX.out]
          go_wp2_with fail
          refine H1.out.mono ?_
          rintro e w5 ⟨⟨v5, rfl, hr5⟩, hb5⟩
          have HB5 := Lib.hid (HB.out.trans (hb5.mono HB.out.size))
          have HO5 := Lib.hid (own_on HOW.out hb5)
          have s2 := (HSA.out.below hb5).c0
          simp only at s2
          have HR5 := Lib.hid hr5
          clear hb5 hr5
          obtain ⟨X7, c7, w7, hrun, hown7, hbel, hkept⟩ := append_int HB5.out.size HO5.out nw (by omega) 42
          have HRU := Lib.hid hrun
          have HO7 := Lib.hid hown7
          have HB7 := Lib.hid (hbel w1 HB5.out)
          have HR7 := Lib.hid (row_kept HR5.out (hkept _ (fun b hb => own_lt HOW.out hb)))
          clear hrun hown7 hbel hkept
          go_wp2_with (at_builtin; refine wpList_append_run rfl (.tmp 60) (.tmp 62) 42 42 rfl _ _ _ rfl rfl HRU.out ?_)
          go_roundw
          case rel => exact ⟨k + 1, nw, X, ats ++ [nw], HGT.out, HR7.out.weaker (fun b h => h.elim), rfl, hnk, X7, j + 1, c7, rfl, by rw [List.length_append, hlj]; rfl, HO7.out, by go_num, by omega, by omega, HCN.out, HB7.out⟩
          case measure => simp [intOf]; omega
        · have HCN := Lib.hid (hcn.2 hz)
          have hcz : ((ec : Int) == 0) = false := beq_eq_false_iff_ne.2 (by omega)
          clear hcn hz
          go_wp2_with fail
          refine (key_any 0 wr).mono ?_
          rintro e w2' ⟨rfl, rfl⟩
          rw [HKX.out]
          go_wp2_with fail
          refine H1.out.mono ?_
          rintro e w5 ⟨⟨v5, rfl, hr5⟩, hb5⟩
          have HB5 := Lib.hid (HB.out.trans (hb5.mono HB.out.size))
          have HO5 := Lib.hid (own_on HOW.out hb5)
          have s2 := (HSA.out.below hb5).c0
          simp only at s2
          have HR5 := Lib.hid hr5
          clear hb5 hr5
          go_wp2_with fail
          go_roundw
          case rel => exact ⟨k + 1, nw, X, ats, HGT.out, HR5.out.weaker (fun b h => h.elim), rfl, hnk, Y, j, cy, rfl, hlj, HO5.out, by go_num, by omega, by omega, HCN.out, HB5.out⟩
          case measure => simp [intOf]; omega

      · have hbb : lo x0 2 = 1 := by omega
        have hb1 : bits .and .i64 x0 1 = 1 := by rw [hbit, hbb]; rfl
        have H1 := Lib.hid (TakeO_any A1 c1 L hc1 hgd (keyS 1) nw (by omega) wr HL1.out)
        have hgt := gd_take hgd (keyS 1) nw (by omega)
        have hcn := counted_other hgd.vl.rise (K := keyS 0) (J := keyS 1) (fun e => key_two e.symm) HCT.out
        generalize takeB L (keyS 1) nw = TT at H1 hgt hcn
        obtain ⟨X, ec⟩ := TT
        simp only at H1 hgt hcn
        have HGT := Lib.hid hgt
        have HKX : Hid (keyS (kix 1) = (keyS 1)) := Lib.hid (by rw [kix_one])
        clear hgt hgd hct sa0 hx htk
        have HCN := Lib.hid hcn
        clear hcn
        by_cases hz : ec = 0
        · subst hz
          go_wp2_with fail
          refine (key_any 1 wr).mono ?_
          rintro e w2' ⟨rfl, rfl⟩
          rw [HKX.out]
          go_wp2_with fail
          refine H1.out.mono ?_
          rintro e w5 ⟨⟨v5, rfl, hr5⟩, hb5⟩
          have HB5 := Lib.hid (HB.out.trans (hb5.mono HB.out.size))
          have HO5 := Lib.hid (own_on HOW.out hb5)
          have s2 := (HSA.out.below hb5).c0
          simp only at s2
          have HR5 := Lib.hid hr5
          clear hb5 hr5
          go_wp2_with fail
          go_roundw
          case rel => exact ⟨k + 1, nw, X, ats, HGT.out, HR5.out.weaker (fun b h => h.elim), rfl, hnk, Y, j, cy, rfl, hlj, HO5.out, by go_num, by omega, by omega, HCN.out, HB5.out⟩
          case measure => simp [intOf]; omega
        · have hcz : ((ec : Int) == 0) = false := beq_eq_false_iff_ne.2 (by omega)
          clear hz
          go_wp2_with fail
          refine (key_any 1 wr).mono ?_
          rintro e w2' ⟨rfl, rfl⟩
          rw [HKX.out]
          go_wp2_with fail
          refine H1.out.mono ?_
          rintro e w5 ⟨⟨v5, rfl, hr5⟩, hb5⟩
          have HB5 := Lib.hid (HB.out.trans (hb5.mono HB.out.size))
          have HO5 := Lib.hid (own_on HOW.out hb5)
          have s2 := (HSA.out.below hb5).c0
          simp only at s2
          have HR5 := Lib.hid hr5
          clear hb5 hr5
          go_wp2_with fail
          go_roundw
          case rel => exact ⟨k + 1, nw, X, ats, HGT.out, HR5.out.weaker (fun b h => h.elim), rfl, hnk, Y, j, cy, rfl, hlj, HO5.out, by go_num, by omega, by omega, HCN.out, HB5.out⟩
          case measure => simp [intOf]; omega

    · obtain rfl : k = mn := by omega
      by_cases h1 : k < l.length
      · have hki : (k : Int) < (l.length : Int) := by omega
        have hk26 : ¬ (k : Int) < 60 := by omega
        rename World => W0
        have HCT := Lib.hid hct
        have HLA := Lib.hid (lies_made (S := fun _ => False) HOW.out (fun _ _ h => h))
        obtain ⟨tk0, htk0⟩ : ∃ t, lo q 256 = t := ⟨_, rfl⟩
        have hq := and255 q
        have hqlo := lo_lt q 256 (by decide)
        rw [htk0] at hq hqlo
        obtain ⟨wd, hwd⟩ : ∃ n, 1 + tk0 = n := ⟨_, rfl⟩
        have hvw : IntKind.i64.wrap (1 + (tk0 : Int)) = (wd : Int) := by rw [IntKind.wrap_i64]; omega
        have HMO := Lib.hid (fun W => Most_any (wd : Int) (by omega) W)
        have hmn2 := most_nat wd (by omega) (by omega)
        obtain ⟨mo, hmo⟩ : ∃ n, 4 + (wd - 1) / 25 = n := ⟨_, rfl⟩
        rw [hmo] at hmn2
        rw [hmn2] at HMO
        have HCL := Lib.hid (fun i (hi : i < ats.length) => by have h := cnt_all HCT.out i wd hi (by omega); rw [hmo] at h; exact h)
        have hwd2 : wd ≤ 256 := by omega
        have HBA := Lib.hid (HB1.out.trans (HB.out.mono HB1.out.size))
        have hatb : ∀ i (hi : i < ats.length), ats[i] ≤ 2000 := fun i hi => by have := (HCT.out.now i hi).1; omega
        have HATB := Lib.hid hatb
        clear htk0 hwd hmn2 hmo hct hgd hatb
        go_wp2_with fail
        go_loopw [13, 14, 15] (fun ii _ _ wr2 => ∃ i : Nat, ii = .int .i64 (i : Int) ∧ i ≤ j ∧ Below W0.heap.size W0 wr2) (fun ii _ _ _ => j - (intOf ii).toNat)
        case atStart => exact ⟨0, rfl, by omega, Below.refl _ W0⟩
        case round =>
          obtain ⟨i, rfl, hi, hB2⟩ := hrel
          rename World => W1
          have HB2 := Lib.hid hB2
          clear hB2
          by_cases hij : i < j
          · have hii : (i : Int) < (j : Int) := by omega
            have hil : i < ats.length := by omega
            have hati := HATB.out i hil
            have HCI := Lib.hid (HCL.out i hil)
            obtain ⟨av, hav⟩ : ∃ a, ats[i] = a := ⟨_, rfl⟩
            have hgd : ats.getD i 0 = av := by rw [List.getD_eq_getElem?_getD, List.getElem?_eq_getElem hil, hav]; rfl
            have HGD := Lib.hid hgd
            rw [hav] at hati
            have HAV := Lib.hid hav
            obtain ⟨lim, hlim⟩ : ∃ n, av + wd = n := ⟨_, rfl⟩
            have hvl : IntKind.i64.wrap ((av : Int) + (wd : Int)) = (lim : Int) := by rw [IntKind.wrap_i64]; omega
            have HLIM := Lib.hid hlim
            clear hav hgd hlim
            go_wp2_with fail
            go_loopw [14, 15] (fun nn kk wr3 => ∃ k2 : Nat, nn = .int .i64 (cnt ats i wd k2 : Int) ∧ kk = .int .i64 (k2 : Int) ∧ i ≤ k2 ∧ k2 ≤ j ∧ Below W0.heap.size W0 wr3) (fun _ kk _ => j - (intOf kk).toNat)
            case atStart => exact ⟨i, by unfold cnt; rw [Nat.sub_self, List.take_zero]; rfl, rfl, Nat.le_refl _, by omega, HB2.out⟩
            case round =>
              obtain ⟨k2, rfl, rfl, hik, hkj, hB3⟩ := hrel
              have HB3 := Lib.hid hB3
              clear hB3
              have hcl2 := cnt_le ats i wd k2
              by_cases hlt2 : k2 < j
              · have hki2 : (k2 : Int) < (j : Int) := by omega
                have hk2l : k2 < ats.length := by omega
                obtain ⟨a0, ha0, _, _, hc0⟩ := (HLA.out.below HB3.out) i _ (nts_get ats i hil)
                obtain ⟨a1, ha1, _, _, hc1⟩ := (HLA.out.below HB3.out) k2 _ (nts_get ats k2 hk2l)
                subst ha0
                injection ha1 with ha1
                subst ha1
                rw [HAV.out] at hc0
                have hmore := cnt_more ats i wd k2 hik hk2l
                rw [HGD.out, HLIM.out] at hmore
                obtain ⟨bv, hbv⟩ : ∃ b, ats[k2] = b := ⟨_, rfl⟩
                rw [hbv] at hc1 hmore
                obtain ⟨n0, hn0⟩ : ∃ n, cnt ats i wd k2 = n := ⟨_, rfl⟩
                rw [hn0] at hmore hcl2 ⊢
                by_cases hlt3 : bv < lim
                · rw [if_pos hlt3] at hmore
                  have hbl : ((bv : Int) < (lim : Int)) := by omega
                  have HMR := Lib.hid hmore
                  clear hmore hbv hn0
                  go_wp2_with fail
                  go_quiet (fail)
                  go_wp2_with fail
                  go_roundw
                  case rel => exact ⟨k2 + 1, by rw [HMR.out]; first | rfl | go_num, by go_num, by omega, by omega, below_drewN HB3.out _⟩
                  case measure => simp [intOf]; omega
                · rw [if_neg hlt3, Nat.add_zero] at hmore
                  have hbl : ¬ ((bv : Int) < (lim : Int)) := by omega
                  have HMR := Lib.hid hmore
                  clear hmore hbv hn0
                  go_wp2_with fail
                  go_quiet (fail)
                  go_wp2_with fail
                  go_roundw
                  case rel => exact ⟨k2 + 1, by rw [HMR.out]; first | rfl | go_num, by go_num, by omega, by omega, below_drewN HB3.out _⟩
                  case measure => simp [intOf]; omega
              · obtain rfl : k2 = j := by omega
                have hci := HCI.out
                rw [hlj] at hci
                generalize cnt ats i wd k2 = n0 at hci hcl2 ⊢
                have hng : ¬ ((n0 : Int) > (mo : Int)) := by omega
                go_wp2_with fail
                refine (HMO.out _).mono ?_
                rintro e w9 ⟨rfl, rfl⟩
                go_wp2_with fail
                go_roundw
                case rel => exact ⟨i + 1, by go_num, by omega, HB3.out⟩
                case measure => simp [intOf]; omega
          · obtain rfl : i = j := by omega
            have HBZ := Lib.hid (HBA.out.trans (HB2.out.mono HBA.out.size))
            go_wp2_with fail
            go_ret
            exact ⟨rfl, HBZ.out⟩
      · have hki : ¬ (k : Int) < (l.length : Int) := by omega
        rename World => W0
        have HCT := Lib.hid hct
        have HLA := Lib.hid (lies_made (S := fun _ => False) HOW.out (fun _ _ h => h))
        obtain ⟨tk0, htk0⟩ : ∃ t, lo q 256 = t := ⟨_, rfl⟩
        have hq := and255 q
        have hqlo := lo_lt q 256 (by decide)
        rw [htk0] at hq hqlo
        obtain ⟨wd, hwd⟩ : ∃ n, 1 + tk0 = n := ⟨_, rfl⟩
        have hvw : IntKind.i64.wrap (1 + (tk0 : Int)) = (wd : Int) := by rw [IntKind.wrap_i64]; omega
        have HMO := Lib.hid (fun W => Most_any (wd : Int) (by omega) W)
        have hmn2 := most_nat wd (by omega) (by omega)
        obtain ⟨mo, hmo⟩ : ∃ n, 4 + (wd - 1) / 25 = n := ⟨_, rfl⟩
        rw [hmo] at hmn2
        rw [hmn2] at HMO
        have HCL := Lib.hid (fun i (hi : i < ats.length) => by have h := cnt_all HCT.out i wd hi (by omega); rw [hmo] at h; exact h)
        have hwd2 : wd ≤ 256 := by omega
        have HBA := Lib.hid (HB1.out.trans (HB.out.mono HB1.out.size))
        have hatb : ∀ i (hi : i < ats.length), ats[i] ≤ 2000 := fun i hi => by have := (HCT.out.now i hi).1; omega
        have HATB := Lib.hid hatb
        clear htk0 hwd hmn2 hmo hct hgd hatb
        go_wp2_with fail
        go_loopw [13, 14, 15] (fun ii _ _ wr2 => ∃ i : Nat, ii = .int .i64 (i : Int) ∧ i ≤ j ∧ Below W0.heap.size W0 wr2) (fun ii _ _ _ => j - (intOf ii).toNat)
        case atStart => exact ⟨0, rfl, by omega, Below.refl _ W0⟩
        case round =>
          obtain ⟨i, rfl, hi, hB2⟩ := hrel
          rename World => W1
          have HB2 := Lib.hid hB2
          clear hB2
          by_cases hij : i < j
          · have hii : (i : Int) < (j : Int) := by omega
            have hil : i < ats.length := by omega
            have hati := HATB.out i hil
            have HCI := Lib.hid (HCL.out i hil)
            obtain ⟨av, hav⟩ : ∃ a, ats[i] = a := ⟨_, rfl⟩
            have hgd : ats.getD i 0 = av := by rw [List.getD_eq_getElem?_getD, List.getElem?_eq_getElem hil, hav]; rfl
            have HGD := Lib.hid hgd
            rw [hav] at hati
            have HAV := Lib.hid hav
            obtain ⟨lim, hlim⟩ : ∃ n, av + wd = n := ⟨_, rfl⟩
            have hvl : IntKind.i64.wrap ((av : Int) + (wd : Int)) = (lim : Int) := by rw [IntKind.wrap_i64]; omega
            have HLIM := Lib.hid hlim
            clear hav hgd hlim
            go_wp2_with fail
            go_loopw [14, 15] (fun nn kk wr3 => ∃ k2 : Nat, nn = .int .i64 (cnt ats i wd k2 : Int) ∧ kk = .int .i64 (k2 : Int) ∧ i ≤ k2 ∧ k2 ≤ j ∧ Below W0.heap.size W0 wr3) (fun _ kk _ => j - (intOf kk).toNat)
            case atStart => exact ⟨i, by unfold cnt; rw [Nat.sub_self, List.take_zero]; rfl, rfl, Nat.le_refl _, by omega, HB2.out⟩
            case round =>
              obtain ⟨k2, rfl, rfl, hik, hkj, hB3⟩ := hrel
              have HB3 := Lib.hid hB3
              clear hB3
              have hcl2 := cnt_le ats i wd k2
              by_cases hlt2 : k2 < j
              · have hki2 : (k2 : Int) < (j : Int) := by omega
                have hk2l : k2 < ats.length := by omega
                obtain ⟨a0, ha0, _, _, hc0⟩ := (HLA.out.below HB3.out) i _ (nts_get ats i hil)
                obtain ⟨a1, ha1, _, _, hc1⟩ := (HLA.out.below HB3.out) k2 _ (nts_get ats k2 hk2l)
                subst ha0
                injection ha1 with ha1
                subst ha1
                rw [HAV.out] at hc0
                have hmore := cnt_more ats i wd k2 hik hk2l
                rw [HGD.out, HLIM.out] at hmore
                obtain ⟨bv, hbv⟩ : ∃ b, ats[k2] = b := ⟨_, rfl⟩
                rw [hbv] at hc1 hmore
                obtain ⟨n0, hn0⟩ : ∃ n, cnt ats i wd k2 = n := ⟨_, rfl⟩
                rw [hn0] at hmore hcl2 ⊢
                by_cases hlt3 : bv < lim
                · rw [if_pos hlt3] at hmore
                  have hbl : ((bv : Int) < (lim : Int)) := by omega
                  have HMR := Lib.hid hmore
                  clear hmore hbv hn0
                  go_wp2_with fail
                  go_quiet (fail)
                  go_wp2_with fail
                  go_roundw
                  case rel => exact ⟨k2 + 1, by rw [HMR.out]; first | rfl | go_num, by go_num, by omega, by omega, below_drewN HB3.out _⟩
                  case measure => simp [intOf]; omega
                · rw [if_neg hlt3, Nat.add_zero] at hmore
                  have hbl : ¬ ((bv : Int) < (lim : Int)) := by omega
                  have HMR := Lib.hid hmore
                  clear hmore hbv hn0
                  go_wp2_with fail
                  go_quiet (fail)
                  go_wp2_with fail
                  go_roundw
                  case rel => exact ⟨k2 + 1, by rw [HMR.out]; first | rfl | go_num, by go_num, by omega, by omega, below_drewN HB3.out _⟩
                  case measure => simp [intOf]; omega
              · obtain rfl : k2 = j := by omega
                have hci := HCI.out
                rw [hlj] at hci
                generalize cnt ats i wd k2 = n0 at hci hcl2 ⊢
                have hng : ¬ ((n0 : Int) > (mo : Int)) := by omega
                go_wp2_with fail
                refine (HMO.out _).mono ?_
                rintro e w9 ⟨rfl, rfl⟩
                go_wp2_with fail
                go_roundw
                case rel => exact ⟨i + 1, by go_num, by omega, HB3.out⟩
                case measure => simp [intOf]; omega
          · obtain rfl : i = j := by omega
            have HBZ := Lib.hid (HBA.out.trans (HB2.out.mono HBA.out.size))
            go_wp2_with fail
            go_ret
            exact ⟨rfl, HBZ.out⟩

/-! ### The row -/
theorem contract (H : Type) (enc : TypeId × Value → H) (W : World) (base : Nat) (args : Array Value) (ds gs : List (DataW H)) (before : List MemPlace)
    (hval : ∀ (j : Nat) t v, Try.f5.params[j]? = some t → args[j]? = some v → Value.okWide Try.prog W .any base t v)
    (hW : DataW.Whole enc Try.prog Try.f5.params.toList Rows.bucketMostSpec.vars false W args.toList ds gs before) :
    Calls Try.prog 5 args W fun e W' => ∃ v, e = .returned v ∧ Rows.bucketMostSpec.post enc Try.prog Try.f5 false true false false W args v W' := by
  have hW' := hW
  obtain ⟨p, q, hA0, hV, rfl, hfz, hnd⟩ := hW
  have hA : DataW.TrodAll enc Try.prog W 0 (fun _ => true) true Try.f5.params.toList args.toList ds p := hA0
  rw [Try.params5] at hA hval
  obtain ⟨v0, vs0, d0, ds0, p0, q0, hargs, rfl, rfl, h0, r0⟩ := trodAll_cons hA
  obtain ⟨v1, vs1, d1, ds1, p1, q1, rfl, rfl, rfl, h1, r1⟩ := trodAll_cons r0
  obtain ⟨rfl, rfl, rfl⟩ := trodAll_nil r1
  obtain rfl : args = #[v0, v1] := by cases args; simp_all
  obtain ⟨rfl, rfl⟩ := trodVars_none hV
  refine law_contract (tb := 4) laidOut (by kernel_rfl) rfl (by kernel_rfl) Try.underlying4 rfl hW' ?_
  clear hA0 hW' hA
  obtain ⟨A0, k0, l0, rfl, b0, g0⟩ := open_ops (hval 0 33 v0 rfl rfl) h0
  obtain ⟨a1, rfl, rfl, rfl, w1⟩ := open_int Try.underlying3 (hval 1 3 v1 rfl rfl) h1
  exact walk A0 k0 l0 a1 W g0

set_option maxRecDepth 100000 in
theorem lifted (os : Os) (started : os.Started) (H : Type) (enc : TypeId × Value → H) :
    ReturnsInHanded {} Try.checked os 5 .any (Rows.bucketMostSpec.pre6 enc Try.prog Try.f5 Rows.bucketMostRow.domain false) (Rows.bucketMostSpec.post enc Try.prog Try.f5 false true false false) := by
  refine returnsInHanded_of_change (C := Try.checked) own started (by kernel_rfl) Try.func5
    (ChangeSpec.witness6 (enc := enc) (C := Try.checked) false ⟨#[], #[.slice none 0 0, .int .i64 0], []⟩ 8 (by kernel_rfl) (by kernel_rfl) (by kernel_rfl) (by kernel_rfl)) ?_
  intro W base args ds gs before hval hW _ _
  exact contract H enc W base args ds gs before hval hW

/-- THE STATEMENT. -/
theorem said : Rows.BucketMostSaid :=
  OpenClaim.holds_of_wide 5 Try.f5 rfl rfl rfl rfl rfl rfl rfl ⟨rfl, rfl, rfl, rfl, rfl⟩ rfl rfl rfl rfl rfl (by kernel_rfl) Try.func5 (by kernel_rfl)
    (of_decide_eq_true (by kernel_rfl)) (by unfold Func.isWrapper; first | (rw [if_pos (by decide +kernel)]; kernel_rfl) | (rw [if_neg (by decide +kernel)]; exact ⟨rfl, rfl⟩))
    (fun os started H enc _ => lifted os started H enc)
#print axioms said
end Go.Proofs.Ytbldonkfboahmaa.bucketMost
