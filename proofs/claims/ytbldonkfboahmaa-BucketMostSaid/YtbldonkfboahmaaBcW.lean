/-
  Contract of the document's own Take. Condition: rows that may be, of at most 24 buckets; times of at most 1000000000000.
-/
import Derived.Deep.RegionLaw
import Derived.Test.YtbldonkfboahmaaBcU
namespace Go.Proofs.Ytbldonkfboahmaa
open Go.RowKit

theorem take_next {P : List Bb} {j : Nat} {x : Bb} (h : P[j]? = some x) : M (P.take (j + 1)) = M (P.take j) ++ [up x] := by
  rw [List.take_add_one, h, M_append]
  rfl
theorem row_own {w : World} {base n c : Nat} {A : Option Addr} {l : List Bu} (h : w.ownsRow base 54 3 (.slice A n c) n (bus l)) : Row (fun _ => False) l (.slice A n c) w := by
  have hn : l.length = n := by
    have h1 := h.1
    rw [bus_length] at h1
    omega
  subst hn
  exact ⟨A, c, rfl, own_cap h, lies_made h (fun _ _ h => h)⟩
set_option maxRecDepth 100000 in
set_option maxHeartbeats 4000000 in
theorem RTake_no {S : Nat → Prop} (A : Option Addr) (cp : Nat) (L : List Bb) (hcp : L.length ≤ cp) (h : Vl L) (k : ByteArray) (now : Nat) (hn : now ≤ 1000000000000) (hno : k = ⟨#[]⟩ ∨ Bk.left L k now = 0) (w : World) (hA : Lies S w A (bus (M L))) :
    Calls Try.prog 20 #[.slice A L.length cp, .string k, .int .i64 (now : Int)] w fun e w' => (∃ v, e = .returned (.tuple #[v, .int .i64 22]) ∧ Row (fun _ => False) (M L) v w') ∧ Below w.heap.size w w' := by
  have hrow : ∀ W, Below w.heap.size w W → Row (fun _ => False) (M L) (.slice A L.length cp) W := fun W hW => ⟨A, cp, by rw [M_length], by rw [M_length]; exact hcp, (hA.below hW).mono (fun _ _ h => h.elim)⟩
  have HROW := Lib.hid hrow
  have HL := Lib.hid (RLeft_any A cp L h k now (by omega) w hA)
  have hle := Bk.left_le L k now
  obtain ⟨m, hm⟩ : ∃ m, Bk.left L k now = m := ⟨_, rfl⟩
  rw [hm] at HL hno hle
  clear hrow hm hA
  by_cases hz : m = 0
  · subst hz
    go_enter Try.func20, Try.ntmps20
    go_wp2_with fail
    refine HL.out.mono ?_
    rintro e w1 ⟨rfl, hb⟩
    have HB := Lib.hid hb
    clear hb
    go_wp2_with fail
    go_ret2
    exact ⟨⟨_, rfl, HROW.out w1 HB.out⟩, HB.out⟩
  · have he : k = ⟨#[]⟩ := by
      rcases hno with h | h
      · exact h
      · exact absurd h hz
    subst he
    have hm0 : ((m : Int) == 0) = false := beq_eq_false_iff_ne.2 (by omega)
    clear hz hno
    go_enter Try.func20, Try.ntmps20
    go_wp2_with fail
    refine HL.out.mono ?_
    rintro e w1 ⟨rfl, hb⟩
    have HB := Lib.hid hb
    clear hb
    go_wp2_with fail
    go_ret2
    exact ⟨⟨_, rfl, HROW.out w1 HB.out⟩, HB.out⟩
set_option maxRecDepth 100000 in
set_option maxHeartbeats 8000000 in
theorem RTake_new {S : Nat → Prop} (A : Option Addr) (cp : Nat) (L : List Bb) (hcp : L.length ≤ cp) (h : Vl L) (k : ByteArray) (now : Nat) (hn : now ≤ 1000000000000) (he : ¬ k = ⟨#[]⟩) (h1 : ¬ Bk.left L k now = 0) (hf : has (Bk.sweep L now) k = false) (w : World) (hA : Lies S w A (bus (M L))) :
    Calls Try.prog 20 #[.slice A L.length cp, .string k, .int .i64 (now : Int)] w fun e w' => (∃ v, e = .returned (.tuple #[v, .int .i64 ((if 24 ≤ (Bk.sweep L now).length then 15 else 0 : Nat) : Int)]) ∧ Row (fun _ => False) (M (if 24 ≤ (Bk.sweep L now).length then L else Bk.taken kl L k now)) v w') ∧ Below w.heap.size w w' := by
  have hrow : ∀ W, Below w.heap.size w W → Row (fun _ => False) (M L) (.slice A L.length cp) W := fun W hW => ⟨A, cp, by rw [M_length], by rw [M_length]; exact hcp, (hA.below hW).mono (fun _ _ h => h.elim)⟩
  have HROW := Lib.hid hrow
  have HL := Lib.hid (RLeft_any A cp L h k now (by omega) w hA)
  have HS := Lib.hid (fun W (hW : Below w.heap.size w W) => RSweep_any A cp L h now (by omega) W (hA.below hW))
  have hvs := vl_sweep h now
  have hle4 := Bk.left_le L k now
  have hlow := h.rise
  have hlenL := h.len
  obtain ⟨P, hP⟩ : ∃ P, Bk.taken kl L k now = P := ⟨_, rfl⟩
  have hP2 := hP
  unfold Bk.taken at hP2
  obtain ⟨n, hm⟩ : ∃ n, Bk.left L k now = n := ⟨_, rfl⟩
  rw [hm] at HL h1 hle4 hP2
  have hn0 : ((n : Int) == 0) = false := beq_eq_false_iff_ne.2 (by omega)
  obtain ⟨b0, b1⟩ := not_empty (show ¬ k.size = 0 from fun e => he (nil_of_size e))
  have b2 : (k.toList == (⟨#[]⟩ : ByteArray).toList) = false := str_ne he
  have hw1 : IntKind.i64.wrap ((n : Int) - 1) = ((n - 1 : Nat) : Int) := by rw [IntKind.wrap_i64]; omega
  obtain ⟨SL, hSL⟩ : ∃ SL, Bk.sweep L now = SL := ⟨_, rfl⟩
  rw [hSL] at HS hvs hf hP2 ⊢
  have hple := pos_le k SL
  have hsl := hvs.len
  have hpos := pos_lt hvs.rise k
  have hnk : ∀ (i : Nat) (hi : i < SL.length), (SL[i]).key ≠ k := fun i hi e => by
    unfold has at hf
    have h2 : Bk.find SL k = none := by cases hq : Bk.find SL k with | none => rfl | some b => rw [hq] at hf; cases hf
    unfold Bk.find at h2
    rw [List.find?_eq_none] at h2
    exact h2 _ (List.getElem_mem hi) (by simpa using e)
  rw [put_new_at hvs.rise k hf] at hP2
  obtain ⟨p, hp⟩ : ∃ p, pos k SL = p := ⟨_, rfl⟩
  rw [hp] at hple hpos hP2
  obtain ⟨code, hcode⟩ : ∃ c : Nat, (if 24 ≤ SL.length then 15 else 0) = c := ⟨_, rfl⟩
  obtain ⟨res, hres⟩ : ∃ c, (if 24 ≤ SL.length then L else Bk.taken kl L k now) = c := ⟨_, rfl⟩
  rw [hres, hcode]
  have HY : Hid (24 ≤ SL.length → code = 15 ∧ res = L) := Lib.hid (fun h24 => by rw [if_pos h24] at hcode hres; exact ⟨hcode.symm, hres.symm⟩)
  have HZ : Hid (¬ 24 ≤ SL.length → code = 0 ∧ res = P) := Lib.hid (fun h24 => by rw [if_neg h24] at hcode hres; exact ⟨hcode.symm, by rw [← hres, hP]⟩)
  clear hcode hres
  have hlp : (SL.take p).length = p := by rw [List.length_take]; omega
  have HPL : Hid (∀ (i : Nat) (hi : i < SL.length), i < p → P[i]? = some SL[i]) := Lib.hid (fun i hi hip => by
    rw [← hP2, List.getElem?_append_left (by omega), List.getElem?_take, if_pos hip, List.getElem?_eq_getElem hi])
  have HPN : Hid (P[p]? = some ⟨k, n - 1, now⟩) := Lib.hid (by rw [← hP2, List.getElem?_append_right (by omega), hlp, Nat.sub_self]; rfl)
  have hph : ∀ (i : Nat) (hi : i < SL.length), p ≤ i → P[i + 1]? = some SL[i] := fun i hi hip => by
    rw [← hP2, List.getElem?_append_right (by omega), hlp, show i + 1 - p = (i - p) + 1 by omega, List.getElem?_cons_succ, List.getElem?_drop, show p + (i - p) = i by omega, List.getElem?_eq_getElem hi]
  have HPH : Hid (∀ (i : Nat) (hi : i < SL.length), p < i → P[i + 1]? = some SL[i]) := Lib.hid (fun i hi hip => hph i hi (by omega))
  have HPE := Lib.hid hph
  have HLP : Hid (P.length = SL.length + 1) := Lib.hid (by rw [← hP2, List.length_append, hlp, List.length_cons, List.length_drop]; omega)
  have HNK := Lib.hid hnk
  clear hph hlp hnk
  have HPOS := Lib.hid hpos
  have HP := Lib.hid hP
  clear hm hpos hP hP2 hvs hlow hrow hA
  go_enter Try.func20, Try.ntmps20
  go_wp2_with fail
  refine HL.out.mono ?_
  rintro e w1 ⟨rfl, hb1⟩
  have HB1 := Lib.hid hb1
  clear hb1
  go_wp2_with fail
  refine (HS.out w1 HB1.out).mono ?_
  rintro e w2 ⟨⟨v, rfl, hr⟩, hb⟩
  obtain ⟨A2, c2, rfl, hc2, hA2⟩ := hr
  rw [M_length] at hc2
  simp only [M_length]
  have HA2 := Lib.hid hA2
  have HB2 := Lib.hid (HB1.out.trans (hb.mono HB1.out.size))
  clear hb hA2
  go_wp2_with fail
  go_loopw [10, 11, 12, 13] (fun o pt ii _ wr => ∃ (i j : Nat) (X : Option Addr) (c : Nat), o = .slice X j c ∧ pt = .bool (decide (p < i)) ∧ ii = .int .i64 (i : Int) ∧ i ≤ SL.length ∧ j = (if p < i then i + 1 else i) ∧ wr.ownsRow w2.heap.size 54 3 (.slice X j c) j (bus (M (P.take j))) ∧ Below w2.heap.size w2 wr) (fun _ _ ii _ _ => SL.length - (intOf ii).toNat)
  case atStart => exact ⟨0, 0, none, 0, rfl, by rw [decide_eq_false (by omega)], rfl, by omega, by rw [if_neg (by omega)], ⟨rfl, .inl ⟨rfl, rfl⟩⟩, Below.refl _ w2⟩
  case round =>
    obtain ⟨i, j, X, c, rfl, rfl, rfl, hi, hj, hown, hB⟩ := hrel
    have HOW := Lib.hid hown
    have HBR := Lib.hid hB
    have hbs := hB.size
    clear hown hB
    by_cases hlt : i < SL.length
    · have hil : (i : Int) < (SL.length : Int) := by omega
      obtain ⟨ad, rfl, sa⟩ := lies_ups (HA2.out.below HBR.out) i hlt
      have hki := HPOS.out i hlt
      obtain ⟨q, hq⟩ : ∃ q, ad.add (i * 3) = q := ⟨_, rfl⟩
      rw [hq] at sa
      have HSA := Lib.hid sa
      have s0 := sa.c0
      have s1 := sa.c1
      have s2 := sa.c2
      simp only [up] at s0 s1 s2
      clear sa
      by_cases hip : i < p
      · have hPI := HPL.out i hlt hip
        rw [decide_eq_true hip] at hki
        have hkb : Op.bytesLess (SL[i]).key.toList k.toList = true := hki
        rw [decide_eq_false (show ¬ p < i by omega)]
        rw [if_neg (show ¬ p < i by omega)] at hj
        subst hj
        have HNX := Lib.hid (take_next hPI)
        obtain ⟨X3, c3, w3, hrun, hown3, hbel⟩ := append_one hbs HOW.out (up SL[j]) (by omega) 23
        simp only [up] at hrun
        rw [← HNX.out] at hown3
        have HRU := Lib.hid hrun
        have HO3 := Lib.hid hown3
        have HB3 := Lib.hid (hbel w2 HBR.out)
        generalize (SL[j]).key = kk at s0 hkb HRU
        generalize (SL[j]).left = ll at s1 HRU
        generalize (SL[j]).at_ = tt at s2 HRU
        clear hrun hown3 hbel hki hPI
        go_wp2_with (at_builtin; refine wpList_append_run rfl (.tmp 83) (.tmp 88) 23 23 rfl _ _ _ rfl rfl HRU.out ?_)
        go_roundw
        case rel => exact ⟨j + 1, j + 1, _, _, rfl, by rw [decide_eq_false (by omega)], by go_num, by omega, by rw [if_neg (by omega)], HO3.out, HB3.out⟩
        case measure => simp [intOf]; omega
      · by_cases hpe : p < i
        · have hPI := HPH.out i hlt hpe
          rw [decide_eq_true hpe]
          rw [if_pos hpe] at hj
          rw [← hj] at hPI
          have HNX := Lib.hid (take_next hPI)
          obtain ⟨X3, c3, w3, hrun, hown3, hbel⟩ := append_one hbs HOW.out (up SL[i]) (by omega) 23
          simp only [up] at hrun
          rw [← HNX.out] at hown3
          have HRU := Lib.hid hrun
          have HO3 := Lib.hid hown3
          have HB3 := Lib.hid (hbel w2 HBR.out)
          have HJ := Lib.hid hj
          generalize (SL[i]).key = kk at s0 HRU
          generalize (SL[i]).left = ll at s1 HRU
          generalize (SL[i]).at_ = tt at s2 HRU
          clear hrun hown3 hbel hki hPI hj
          go_wp2_with (at_builtin; refine wpList_append_run rfl (.tmp 83) (.tmp 88) 23 23 rfl _ _ _ rfl rfl HRU.out ?_)
          go_roundw
          case rel => exact ⟨i + 1, j + 1, _, _, rfl, by rw [decide_eq_true (show p < i + 1 by omega)], by go_num, by omega, by rw [if_pos (show p < i + 1 by omega)]; have := HJ.out; omega, HO3.out, HB3.out⟩
          case measure => simp [intOf]; omega
        · obtain rfl : i = p := by omega
          rw [decide_eq_false hip] at hki
          have hkb : Op.bytesLess (SL[i]).key.toList k.toList = false := hki
          rw [decide_eq_false hpe]
          rw [if_neg hpe] at hj
          subst hj
          have HNX := Lib.hid (take_next HPN.out)
          have hkk : ((SL[j]).key.toList == k.toList) = false := str_ne (HNK.out j hlt)
          have HPE2 := Lib.hid (take_next (HPE.out j hlt (Nat.le_refl _)))
          have hb1 := (Below.refl _ wr).alloc (Nat.le_refl _) (.cells #[.string k, .int .i64 ((n - 1 : Nat) : Int), .int .i64 (now : Int)] 54)
          have hbs1 : w2.heap.size ≤ (wr.alloc (.cells #[.string k, .int .i64 ((n - 1 : Nat) : Int), .int .i64 (now : Int)] 54)).heap.size := Nat.le_trans hbs hb1.size
          obtain ⟨X3, c3, w3, hrun3, hown3, hbel3⟩ := append_one hbs1 (own_on HOW.out hb1) (up ⟨k, n - 1, now⟩) (by omega) 23
          rw [← HNX.out] at hown3
          have HB3 := Lib.hid (hbel3 w2 (HBR.out.alloc hbs _))
          obtain ⟨X4, c4, w4, hrun4, hown4, hbel4⟩ := append_one HB3.out.size hown3 (up SL[j]) (by omega) 23
          rw [← HPE2.out] at hown4
          simp only [up] at hrun3 hrun4
          rw [show (wr.alloc (.cells #[.string k, .int .i64 ((n - 1 : Nat) : Int), .int .i64 (now : Int)] 54)).heap.size = wr.heap.size + 1 by simp] at hrun3
          have HRU3 := Lib.hid hrun3
          have HRU4 := Lib.hid hrun4
          have HO4 := Lib.hid hown4
          have HB4 := Lib.hid (hbel4 w2 HB3.out)
          have sb := lies_ups (HA2.out.below HB3.out) j hlt
          obtain ⟨ad', hadd, sb⟩ := sb
          injection hadd with hadd
          subst hadd
          rw [hq] at sb
          have t0 := sb.c0
          have t1 := sb.c1
          have t2 := sb.c2
          simp only [up] at t0 t1 t2
          have sd := HSA.out.below hb1
          have u0 := sd.c0
          simp only [up] at u0
          generalize (SL[j]).key = kk at s0 t0 u0 hkb hkk HRU4
          generalize (SL[j]).left = ll at s1 t1 HRU4
          generalize (SL[j]).at_ = tt at s2 t2 HRU4
          clear hrun3 hown3 hbel3 hrun4 hown4 hbel4 hki sb sd hb1 hbs1
          go_wp2_with (at_builtin; first
            | refine wpList_append_run rfl (.tmp 72) (.tmp 74) 23 23 rfl _ _ _ rfl rfl HRU3.out ?_
            | refine wpList_append_run rfl (.tmp 83) (.tmp 88) 23 23 rfl _ _ _ rfl rfl HRU4.out ?_)
          go_roundw
          case rel => exact ⟨j + 1, j + 2, _, _, rfl, by rw [decide_eq_true (show j < j + 1 by omega)], by go_num, by omega, by rw [if_pos (show j < j + 1 by omega)], HO4.out, HB4.out⟩
          case measure => simp [intOf]; omega
    · obtain rfl : i = SL.length := by omega
      by_cases hpe : p < SL.length
      · rw [if_pos hpe] at hj
        rw [decide_eq_true hpe]
        subst hj
        have ho := HOW.out
        rw [List.take_of_length_le (by rw [HLP.out]; exact Nat.le_refl _)] at ho
        have HO := Lib.hid ho
        have hill : ¬ ((SL.length : Int) < (SL.length : Int)) := by omega
        clear ho
        by_cases h24 : 24 ≤ SL.length
        · obtain ⟨rfl, rfl⟩ := HY.out h24
          have hg : ((SL.length + 1 : Nat) : Int) > 24 := by omega
          go_wp2_with fail
          go_ret2
          exact ⟨⟨_, rfl, HROW.out wr (HB2.out.trans (HBR.out.mono HB2.out.size))⟩, HB2.out.trans (HBR.out.mono HB2.out.size)⟩
        · obtain ⟨rfl, rfl⟩ := HZ.out h24
          have hg : ¬ ((SL.length + 1 : Nat) : Int) > 24 := by omega
          go_wp2_with fail
          go_ret2
          exact ⟨⟨_, rfl, row_own HO.out⟩, HB2.out.trans (HBR.out.mono HB2.out.size)⟩
      · obtain rfl : p = SL.length := by omega
        rw [if_neg hpe] at hj
        rw [decide_eq_false hpe]
        subst hj
        have HNX := Lib.hid (take_next HPN.out)
        obtain ⟨X3, c3, w3, hrun, hown3, hbel⟩ := append_one hbs HOW.out (up ⟨k, n - 1, now⟩) (by omega) 23
        simp only [up] at hrun
        rw [← HNX.out, List.take_of_length_le (by rw [HLP.out]; exact Nat.le_refl _)] at hown3
        have HRU := Lib.hid hrun
        have HO := Lib.hid hown3
        have HB3 := Lib.hid (hbel w2 HBR.out)
        have hill : ¬ ((SL.length : Int) < (SL.length : Int)) := by omega
        clear hrun hown3 hbel
        by_cases h24 : 24 ≤ SL.length
        · obtain ⟨rfl, rfl⟩ := HY.out h24
          have hg : ((SL.length + 1 : Nat) : Int) > 24 := by omega
          go_wp2_with (at_builtin; refine wpList_append_run rfl (.tmp 92) (.tmp 98) 23 23 rfl _ _ _ rfl rfl HRU.out ?_)
          go_ret2
          exact ⟨⟨_, rfl, HROW.out w3 (HB2.out.trans (HB3.out.mono HB2.out.size))⟩, HB2.out.trans (HB3.out.mono HB2.out.size)⟩
        · obtain ⟨rfl, rfl⟩ := HZ.out h24
          have hg : ¬ ((SL.length + 1 : Nat) : Int) > 24 := by omega
          go_wp2_with (at_builtin; refine wpList_append_run rfl (.tmp 92) (.tmp 98) 23 23 rfl _ _ _ rfl rfl HRU.out ?_)
          go_ret2
          exact ⟨⟨_, rfl, row_own HO.out⟩, HB2.out.trans (HB3.out.mono HB2.out.size)⟩
set_option maxRecDepth 100000 in
set_option maxHeartbeats 8000000 in
theorem RTake_old {S : Nat → Prop} (A : Option Addr) (cp : Nat) (L : List Bb) (hcp : L.length ≤ cp) (h : Vl L) (k : ByteArray) (now : Nat) (hn : now ≤ 1000000000000) (he : ¬ k = ⟨#[]⟩) (h1 : ¬ Bk.left L k now = 0) (h24 : L.length ≤ 24) (b : Bb) (hf : Bk.find (Bk.sweep L now) k = some b) (w : World) (hA : Lies S w A (bus (M L))) :
    Calls Try.prog 20 #[.slice A L.length cp, .string k, .int .i64 (now : Int)] w fun e w' => (∃ v, e = .returned (.tuple #[v, .int .i64 0]) ∧ Row (fun _ => False) (M (Bk.taken kl L k now)) v w') ∧ Below w.heap.size w w' := by
  have hrow : ∀ W, Below w.heap.size w W → Row (fun _ => False) (M L) (.slice A L.length cp) W := fun W hW => ⟨A, cp, by rw [M_length], by rw [M_length]; exact hcp, (hA.below hW).mono (fun _ _ h => h.elim)⟩
  have HROW := Lib.hid hrow
  have HL := Lib.hid (RLeft_any A cp L h k now (by omega) w hA)
  have HS := Lib.hid (fun W (hW : Below w.heap.size w W) => RSweep_any A cp L h now (by omega) W (hA.below hW))
  have hvs := vl_sweep h now
  have hle4 := Bk.left_le L k now
  have hlow := h.rise
  have hlenL := h.len
  obtain ⟨P, hP⟩ : ∃ P, Bk.taken kl L k now = P := ⟨_, rfl⟩
  have hP2 := hP
  unfold Bk.taken at hP2
  obtain ⟨n, hm⟩ : ∃ n, Bk.left L k now = n := ⟨_, rfl⟩
  rw [hm] at HL h1 hle4 hP2
  have hn0 : ((n : Int) == 0) = false := beq_eq_false_iff_ne.2 (by omega)
  obtain ⟨b0, b1⟩ := not_empty (show ¬ k.size = 0 from fun e => he (nil_of_size e))
  have b2 : (k.toList == (⟨#[]⟩ : ByteArray).toList) = false := str_ne he
  have hw1 : IntKind.i64.wrap ((n : Int) - 1) = ((n - 1 : Nat) : Int) := by rw [IntKind.wrap_i64]; omega
  obtain ⟨SL, hSL⟩ : ∃ SL, Bk.sweep L now = SL := ⟨_, rfl⟩
  rw [hSL] at HS hvs hf hP2
  have hple := pos_le k SL
  have hsl := hvs.len
  have hpos := pos_lt hvs.rise k
  have hnb : b.left ≤ n := by
    have e := Bk.left_sweep ordK h.rise k now
    rw [hSL] at e
    unfold Bk.left at e
    rw [hf] at e
    simp only at e
    unfold Bk.left at hm
    rw [← e] at hm
    have hb4 := vl_sweep h now
    rw [hSL] at hb4
    have := hb4.few b (List.mem_of_find?_eq_some hf)
    rw [← hm]
    unfold Bk.left1
    omega
  have h24s : SL.length ≤ 24 := by rw [← hSL]; exact Nat.le_trans (List.length_filter_le _ _) h24
  obtain ⟨hpl, hgt, hkey⟩ := find_at hvs.rise hf
  have hbat := (hvs.ok b (List.mem_of_find?_eq_some hf)).at_
  have hnk : ∀ (i : Nat) (hi : i < SL.length), i = pos k SL → SL[i] = b := fun i hi e => by subst e; exact hgt
  clear hgt
  rw [put_old_at hvs.rise k hf] at hP2
  obtain ⟨p, hp⟩ : ∃ p, pos k SL = p := ⟨_, rfl⟩
  rw [hp] at hple hpos hP2 hpl hnk
  have hlp : (SL.take p).length = p := by rw [List.length_take]; omega
  have HPL : Hid (∀ (i : Nat) (hi : i < SL.length), i < p → P[i]? = some SL[i]) := Lib.hid (fun i hi hip => by
    rw [← hP2, List.getElem?_append_left (by omega), List.getElem?_take, if_pos hip, List.getElem?_eq_getElem hi])
  have HPN : Hid (P[p]? = some ⟨k, n - 1, b.at_ + 25 * (n - b.left)⟩) := Lib.hid (by rw [← hP2, List.getElem?_append_right (by omega), hlp, Nat.sub_self]; rfl)
  have HPH : Hid (∀ (i : Nat) (hi : i < SL.length), p < i → P[i]? = some SL[i]) := Lib.hid (fun i hi hip => by
    rw [← hP2, List.getElem?_append_right (by omega), hlp, show i - p = (i - p - 1) + 1 by omega, List.getElem?_cons_succ, List.getElem?_drop, show p + 1 + (i - p - 1) = i by omega, List.getElem?_eq_getElem hi])
  have HLP : Hid (P.length = SL.length) := Lib.hid (by rw [← hP2, List.length_append, hlp, List.length_cons, List.length_drop]; omega)
  have HNK := Lib.hid hnk
  have HKY := Lib.hid hkey
  clear hlp hnk hkey
  have HPOS := Lib.hid hpos
  have HP := Lib.hid hP
  clear hm hpos hP hP2 hvs hlow hrow hA
  go_enter Try.func20, Try.ntmps20
  go_wp2_with fail
  refine HL.out.mono ?_
  rintro e w1 ⟨rfl, hb1⟩
  have HB1 := Lib.hid hb1
  clear hb1
  go_wp2_with fail
  refine (HS.out w1 HB1.out).mono ?_
  rintro e w2 ⟨⟨v, rfl, hr⟩, hb⟩
  obtain ⟨A2, c2, rfl, hc2, hA2⟩ := hr
  rw [M_length] at hc2
  simp only [M_length]
  have HA2 := Lib.hid hA2
  have HB2 := Lib.hid (HB1.out.trans (hb.mono HB1.out.size))
  clear hb hA2
  go_wp2_with fail
  go_loopw [10, 11, 12, 13] (fun o pt ii _ wr => ∃ (i j : Nat) (X : Option Addr) (c : Nat), o = .slice X j c ∧ pt = .bool (decide (p < i)) ∧ ii = .int .i64 (i : Int) ∧ i ≤ SL.length ∧ j = i ∧ wr.ownsRow w2.heap.size 54 3 (.slice X j c) j (bus (M (P.take j))) ∧ Below w2.heap.size w2 wr) (fun _ _ ii _ _ => SL.length - (intOf ii).toNat)
  case atStart => exact ⟨0, 0, none, 0, rfl, by rw [decide_eq_false (by omega)], rfl, by omega, rfl, ⟨rfl, .inl ⟨rfl, rfl⟩⟩, Below.refl _ w2⟩
  case round =>
    obtain ⟨i, j, X, c, rfl, rfl, rfl, hi, hj, hown, hB⟩ := hrel
    have HOW := Lib.hid hown
    have HBR := Lib.hid hB
    have hbs := hB.size
    clear hown hB
    by_cases hlt : i < SL.length
    · have hil : (i : Int) < (SL.length : Int) := by omega
      obtain ⟨ad, rfl, sa⟩ := lies_ups (HA2.out.below HBR.out) i hlt
      have hki := HPOS.out i hlt
      obtain ⟨q, hq⟩ : ∃ q, ad.add (i * 3) = q := ⟨_, rfl⟩
      rw [hq] at sa
      have HSA := Lib.hid sa
      have s0 := sa.c0
      have s1 := sa.c1
      have s2 := sa.c2
      simp only [up] at s0 s1 s2
      clear sa
      by_cases hip : i < p
      · have hPI := HPL.out i hlt hip
        rw [decide_eq_true hip] at hki
        have hkb : Op.bytesLess (SL[i]).key.toList k.toList = true := hki
        rw [decide_eq_false (show ¬ p < i by omega)]
        subst hj
        have HNX := Lib.hid (take_next hPI)
        obtain ⟨X3, c3, w3, hrun, hown3, hbel⟩ := append_one hbs HOW.out (up SL[j]) (by omega) 23
        simp only [up] at hrun
        rw [← HNX.out] at hown3
        have HRU := Lib.hid hrun
        have HO3 := Lib.hid hown3
        have HB3 := Lib.hid (hbel w2 HBR.out)
        generalize (SL[j]).key = kk at s0 hkb HRU
        generalize (SL[j]).left = ll at s1 HRU
        generalize (SL[j]).at_ = tt at s2 HRU
        clear hrun hown3 hbel hki hPI
        go_wp2_with (at_builtin; refine wpList_append_run rfl (.tmp 83) (.tmp 88) 23 23 rfl _ _ _ rfl rfl HRU.out ?_)
        go_roundw
        case rel => exact ⟨j + 1, j + 1, _, _, rfl, by rw [decide_eq_false (by omega)], by go_num, by omega, rfl, HO3.out, HB3.out⟩
        case measure => simp [intOf]; omega
      · by_cases hpe : p < i
        · have hPI := HPH.out i hlt hpe
          rw [decide_eq_true hpe]
          replace hPI : P[j]? = some SL[i] := by rw [hj]; exact hPI
          have HNX := Lib.hid (take_next hPI)
          obtain ⟨X3, c3, w3, hrun, hown3, hbel⟩ := append_one hbs HOW.out (up SL[i]) (by omega) 23
          simp only [up] at hrun
          rw [← HNX.out] at hown3
          have HRU := Lib.hid hrun
          have HO3 := Lib.hid hown3
          have HB3 := Lib.hid (hbel w2 HBR.out)
          have HJ := Lib.hid hj
          generalize (SL[i]).key = kk at s0 HRU
          generalize (SL[i]).left = ll at s1 HRU
          generalize (SL[i]).at_ = tt at s2 HRU
          clear hrun hown3 hbel hki hPI hj
          go_wp2_with (at_builtin; refine wpList_append_run rfl (.tmp 83) (.tmp 88) 23 23 rfl _ _ _ rfl rfl HRU.out ?_)
          go_roundw
          case rel => exact ⟨i + 1, j + 1, _, _, rfl, by rw [decide_eq_true (show p < i + 1 by omega)], by go_num, by omega, by have := HJ.out; omega, HO3.out, HB3.out⟩
          case measure => simp [intOf]; omega
        · obtain rfl : i = p := by omega
          rw [decide_eq_false hip] at hki
          have hkb : Op.bytesLess (SL[i]).key.toList k.toList = false := hki
          rw [decide_eq_false hpe]
          subst hj
          have HNX := Lib.hid (take_next HPN.out)
          have hbe := HNK.out j hlt rfl
          have hkk : ((SL[j]).key.toList == k.toList) = true := by rw [hbe, HKY.out, str_beq]; simp
          obtain ⟨d, hd⟩ : ∃ d, n - b.left = d := ⟨_, rfl⟩
          obtain ⟨m25, hm25⟩ : ∃ d2, 25 * d = d2 := ⟨_, rfl⟩
          obtain ⟨T, hT⟩ : ∃ T, b.at_ + m25 = T := ⟨_, rfl⟩
          have hv1 : IntKind.i64.wrap ((n : Int) - (b.left : Int)) = (d : Int) := by rw [IntKind.wrap_i64]; omega
          have hv2 : IntKind.i64.wrap (25 * (d : Int)) = (m25 : Int) := by rw [IntKind.wrap_i64]; omega
          have hv3 : IntKind.i64.wrap ((b.at_ : Int) + (m25 : Int)) = (T : Int) := by rw [IntKind.wrap_i64]; omega
          rw [hd, hm25, hT] at HNX
          have hb1 := (Below.refl _ wr).alloc (Nat.le_refl _) (.cells #[.string k, .int .i64 ((n - 1 : Nat) : Int), .int .i64 (now : Int)] 54)
          have hblk := Blk.new wr 54 #[.string k, .int .i64 ((n - 1 : Nat) : Int), .int .i64 (now : Int)]
          have x0 := (hblk.cell 0).trans rfl
          have x1 := (hblk.cell 1).trans rfl
          have x2 := (hblk.cell 2).trans rfl
          have y2 := hblk.frozen 2
          have sd := HSA.out.below hb1
          have u0 := sd.c0
          have u1 := sd.c1
          have u2 := sd.c2
          simp only [up] at u0 u1 u2
          rw [hbe] at u1 u2 s1 s2
          obtain ⟨kk, hkv⟩ : ∃ kk, (SL[j]).key = kk := ⟨_, rfl⟩
          rw [hkv] at s0 u0 hkb hkk
          have HKV := Lib.hid hkv
          clear hkv
          have HB1 := Lib.hid hb1
          have HBLK := Lib.hid hblk
          clear hki sd hb1 hblk hd hm25 hT hbe
          go_upto_region 13 with fail
          go_region
          have hb7 := ((Below.refl _ wr).alloc (Nat.le_refl _) (.cells #[.string k, .int .i64 ((n - 1 : Nat) : Int), .int .i64 (T : Int)] 54)).drew
          have hx7 := (Blk.new wr 54 #[.string k, .int .i64 ((n - 1 : Nat) : Int), .int .i64 (T : Int)]).drew
          generalize (wr.alloc (.cells #[.string k, .int .i64 ((n - 1 : Nat) : Int), .int .i64 (T : Int)] 54)).drew = W7 at hb7 hx7 ⊢
          obtain ⟨gb, hgb⟩ : ∃ g, wr.heap.size = g := ⟨_, rfl⟩
          have HB7 := Lib.hid (HBR.out.trans (hb7.mono hbs))
          have HO7 := Lib.hid (own_on HOW.out hb7)
          have v3 := (HSA.out.below hb7).c0
          rw [hgb] at hx7
          simp only [hgb]
          have z0 := (hx7.cell 0).trans rfl
          have z1 := (hx7.cell 1).trans rfl
          have z2 := (hx7.cell 2).trans rfl
          obtain ⟨X3, c3, w3, hrun3, hown3, hbel3⟩ := append_one HB7.out.size HO7.out (up ⟨k, n - 1, T⟩) (by omega) 23
          rw [← HNX.out] at hown3
          simp only [up] at hrun3
          have HRU3 := Lib.hid hrun3
          have HO3 := Lib.hid hown3
          have HB3 := Lib.hid (hbel3 w2 HB7.out)
          have sb := (HA2.out.below HB3.out)
          obtain ⟨ad', hadd, sb⟩ := lies_ups sb j hlt
          injection hadd with hadd
          subst hadd
          rw [hq] at sb
          have t0 := sb.c0
          simp only [up] at t0
          rw [HKV.out] at t0
          clear hrun3 hown3 hbel3 sb hb7 hx7 x0 x1 x2 y2 u0 u1 u2 s0 s1 s2 v3
          go_wp2_with (at_builtin; refine wpList_append_run rfl (.tmp 72) (.tmp 74) 23 23 rfl _ _ _ rfl rfl HRU3.out ?_)
          go_roundw
          case rel => exact ⟨j + 1, j + 1, _, _, rfl, by rw [decide_eq_true (show j < j + 1 by omega)], by go_num, by omega, rfl, HO3.out, HB3.out⟩
          case measure => simp [intOf]; omega
    · obtain rfl : i = SL.length := by omega
      rw [decide_eq_true hpl]
      subst hj
      have ho := HOW.out
      rw [List.take_of_length_le (by rw [HLP.out]; exact Nat.le_refl _), ← HP.out] at ho
      have HO := Lib.hid ho
      have hg : ¬ ((SL.length : Int) > 24) := by omega
      clear ho
      go_wp2_with fail
      go_ret2
      exact ⟨⟨_, rfl, row_own HO.out⟩, HB2.out.trans (HBR.out.mono HB2.out.size)⟩
end Go.Proofs.Ytbldonkfboahmaa
