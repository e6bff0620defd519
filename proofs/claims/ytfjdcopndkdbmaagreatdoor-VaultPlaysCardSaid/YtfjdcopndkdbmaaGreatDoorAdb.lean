/-
  Contracts of address.isName, isPhone, isHost. Condition: texts of at most 1000000 bytes; one variable of the library's holds some number.
  Contract of address.isHost. Condition: texts of at most 1000000 bytes; one variable of the library's holds some number.
  Contracts of address.Split, isMail, Kind. Condition: texts of at most 1000000 bytes; one variable of the library's holds some number.
-/
import Derived.Test.YtfjdcopndkdbmaaGreatDoorAda

namespace Go.Proofs.YtfjdcopndkdbmaaGreatDoor
open Go.RowKit

def abc : ByteArray := ⟨#[97, 98, 99, 100, 101, 102, 103, 104, 105, 106, 107, 108, 109, 110, 111, 112, 113, 114, 115, 116, 117, 118, 119, 120, 121, 122]⟩
def ten : ByteArray := ⟨#[48, 49, 50, 51, 52, 53, 54, 55, 56, 57]⟩
/-- oneOf at letters, digits and another text, from a slice that the caller lays. -/
theorem one_name (w : World) :
    Calls Tryz.prog 90 #[.slice (some ⟨w.heap.size, 0, none⟩) 3 3] (w.alloc (.cells #[.string abc, .string ten, .string ⟨#[95, 45, 46]⟩] 9)) fun e w' => ∃ b S, e = .returned (isIn b) ∧ w'.cell? ⟨b, 0, none⟩ = some (.string S) ∧ (∀ c, S.data.toList.contains c = Ad.nameByte c) ∧ Below w.heap.size w w' := by
  refine (oneof3 abc ten ⟨#[95, 45, 46]⟩ w.heap.size _ (Blk.new w _ _) (by decide) (by decide)).mono ?_
  rintro e w' ⟨b, rfl, hc, hb⟩
  exact ⟨b, _, rfl, hc, fun c => (Ad.set_facts c).1, ((Below.refl _ w).alloc (Nat.le_refl _) _).trans (hb.mono (by simp))⟩
theorem one_host (w : World) :
    Calls Tryz.prog 90 #[.slice (some ⟨w.heap.size, 0, none⟩) 3 3] (w.alloc (.cells #[.string abc, .string ten, .string ⟨#[45]⟩] 9)) fun e w' => ∃ b S, e = .returned (isIn b) ∧ w'.cell? ⟨b, 0, none⟩ = some (.string S) ∧ (∀ c, S.data.toList.contains c = Ad.hostByte c) ∧ Below w.heap.size w w' := by
  refine (oneof3 abc ten ⟨#[45]⟩ w.heap.size _ (Blk.new w _ _) (by decide) (by decide)).mono ?_
  rintro e w' ⟨b, rfl, hc, hb⟩
  exact ⟨b, _, rfl, hc, fun c => (Ad.set_facts c).2.1, ((Below.refl _ w).alloc (Nat.le_refl _) _).trans (hb.mono (by simp))⟩
theorem one_digit (w : World) :
    Calls Tryz.prog 90 #[.slice (some ⟨w.heap.size, 0, none⟩) 1 1] (w.alloc (.cells #[.string ten] 9)) fun e w' => ∃ b S, e = .returned (isIn b) ∧ w'.cell? ⟨b, 0, none⟩ = some (.string S) ∧ (∀ c, S.data.toList.contains c = Ad.digit c) ∧ Below w.heap.size w w' := by
  refine (oneof1 ten w.heap.size _ ((Blk.new w _ _).cell 0)).mono ?_
  rintro e w' ⟨b, rfl, hc, hb⟩
  exact ⟨b, _, rfl, hc, fun c => (Ad.set_facts c).2.2.1, ((Below.refl _ w).alloc (Nat.le_refl _) _).trans (hb.mono (by simp))⟩

set_option maxHeartbeats 4000000 in
set_option maxRecDepth 100000 in
theorem name_any (s : ByteArray) (hs : s.size ≤ 1000000) (w : World) (hm : MaxIs w) :
    Calls Tryz.prog 102 #[.string s] w fun e w' => e = .returned (.bool (Ad.name s.data.toList)) ∧ Below w.heap.size w w' := by
  by_cases h0 : s.size = 0
  · have hs0 : s = ⟨#[]⟩ := nil_of_size h0
    subst hs0
    have hn : Ad.name [] = false := rfl
    go_enter Tryz.func102, Tryz.ntmps102
    go_wp2_with fail
    go_ret
    exact ⟨rfl, Below.refl _ _⟩
  · have hne : s ≠ ⟨#[]⟩ := by
      rintro rfl
      exact h0 rfl
    have hne2 := not_empty h0
    have hne3 := hne2.1
    have hne4 := hne2.2
    clear hne2 hne
    have hn := Ad.name_cons s.data.toList (by simp; omega)
    have hl : s.data.toList.length = s.size := by simp
    rw [hl] at hn
    obtain ⟨k, hk⟩ : ∃ k, s.size - 1 = k := ⟨_, rfl⟩
    have hki : (s.size : Int) - 1 = (k : Int) := by omega
    have hks : k < s.size := by omega
    rw [hk, data_getD s 0 (by omega), data_getD s k hks] at hn
    obtain ⟨x, hx⟩ : ∃ x, s[0] = x := ⟨_, rfl⟩
    obtain ⟨y, hy⟩ : ∃ y, s[k] = y := ⟨_, rfl⟩
    rw [hx, hy] at hn
    have hx2 := ne_int x 46 46 rfl
    have hy2 := ne_int y 46 46 rfl
    generalize (x != 46) = p1 at hn hx2
    generalize (y != 46) = p2 at hn hy2
    have HO := Lib.hid (one_name w)
    have HH := Lib.hid (fun W (h : MaxIs W) => has_any s W (by omega) h)
    have HC := Lib.hid (fun W b S h1 h2 => consists_any s b S Ad.nameByte W hs h1 h2)
    have HM := Lib.hid hm
    generalize s.data.toList.all Ad.nameByte = r1 at HC hn
    generalize Ad.dd s.data.toList = r2 at HH hn
    rw [hn]
    clear hn hm
    go_enter Tryz.func102, Tryz.ntmps102
    go_wp2_with fail
    refine HO.out.mono ?_
    rintro e w1 ⟨b, S, rfl, hc, hS, hb⟩
    have HB := Lib.hid hb
    have HC1 := Lib.hid (HC.out w1 b S hc hS)
    have HM1 := Lib.hid (HM.out.below hb)
    clear hc hS hb HO HC
    go_wp2_with fail
    refine HC1.out.mono ?_
    rintro e w2 ⟨rfl, rfl⟩
    clear HC1
    cases r1 with
    | false =>
      go_wp2_with fail
      go_ret
      exact ⟨rfl, HB.out⟩
    | true =>
      cases p1 with
      | false =>
        go_wp2_with fail
        go_ret
        exact ⟨rfl, HB.out⟩
      | true =>
        cases p2 with
        | false =>
          go_wp2_with fail
          go_ret
          exact ⟨rfl, HB.out⟩
        | true =>
          go_wp2_with fail
          refine (HH.out _ HM1.out).mono ?_
          rintro e w3 ⟨rfl, rfl⟩
          go_wp2_with fail
          go_ret
          exact ⟨rfl, HB.out⟩

theorem trimp_len (l p : List UInt8) : (Lib.trimPrefix l p).length ≤ l.length := by
  unfold Lib.trimPrefix
  split
  · rw [List.length_drop]; omega
  · omega
set_option maxHeartbeats 4000000 in
set_option maxRecDepth 100000 in
theorem phone_any (s : ByteArray) (hs : s.size ≤ 1000000) (w : World) :
    Calls Tryz.prog 78 #[.string s] w fun e w' => e = .returned (.bool (Ad.phoneOk s.data.toList)) ∧ Below w.heap.size w w' := by
  have hn := Ad.phone_cons s.data.toList
  have HP := Lib.hid (cutp_any s ⟨#[43]⟩ w)
  rw [show (⟨#[43]⟩ : ByteArray).data.toList = [43] from rfl] at HP
  have hle := trimp_len s.data.toList [43]
  rw [show s.data.toList.length = s.size by simp] at hle
  generalize Lib.hasPrefix s.data.toList [43] = r at HP hn
  generalize Lib.trimPrefix s.data.toList [43] = N at HP hn hle
  obtain ⟨T, rfl⟩ : ∃ T : ByteArray, N = T.data.toList := ⟨ba N, (ba_list N).symm⟩
  rw [ba_back] at HP
  have hTz : T.data.toList.length = T.size := by simp
  rw [hTz] at hn hle
  have hT6 : T.size ≤ 1000000 := by omega
  rw [hn]
  clear hn hs hle
  have HO := Lib.hid (fun W => one_digit W)
  have HC := Lib.hid (fun W b S h1 h2 => consists_any T b S Ad.digit W hT6 h1 h2)
  generalize T.data.toList.all Ad.digit = r1 at HC ⊢
  cases r with
  | false =>
    clear HO HC
    go_enter Tryz.func78, Tryz.ntmps78
    go_wp2_with fail
    refine HP.out.mono ?_
    rintro e w1 ⟨rfl, hb⟩
    have HB := Lib.hid hb
    clear hb
    go_wp2_with fail
    go_ret
    exact ⟨by simp, HB.out⟩
  | true =>
    by_cases h8 : 8 ≤ T.size
    · have h8n : ¬ ((T.size : Int) < 8) := by omega
      by_cases h15 : T.size ≤ 15
      · have h15n : ¬ ((15 : Int) < (T.size : Int)) := by omega
        have hx0 : T.data.toList.getD 0 0 = T[0] := data_getD T 0 (by omega)
        obtain ⟨x, hx⟩ : ∃ x, T[0] = x := ⟨_, rfl⟩
        rw [hx0, hx, decide_eq_true h8, decide_eq_true h15]
        have hx2 := ne_int x 48 48 rfl
        generalize (x != 48) = p1 at hx2 ⊢
        clear hx0
        cases p1 with
        | false =>
          clear HO HC
          go_enter Tryz.func78, Tryz.ntmps78
          go_wp2_with fail
          refine HP.out.mono ?_
          rintro e w1 ⟨rfl, hb⟩
          have HB := Lib.hid hb
          clear hb
          go_wp2_with fail
          go_ret
          exact ⟨rfl, HB.out⟩
        | true =>
          go_enter Tryz.func78, Tryz.ntmps78
          go_wp2_with fail
          refine HP.out.mono ?_
          rintro e w1 ⟨rfl, hb⟩
          have HB := Lib.hid hb
          clear hb
          go_wp2_with fail
          refine (HO.out _).mono ?_
          rintro e w2 ⟨b, S, rfl, hc, hS, hb⟩
          have HB2 := Lib.hid (HB.out.trans (hb.mono HB.out.size))
          have HC1 := Lib.hid (HC.out w2 b S hc hS)
          clear hc hS hb HO HC
          go_wp2_with fail
          refine HC1.out.mono ?_
          rintro e w3 ⟨rfl, rfl⟩
          go_wp2_with fail
          go_ret
          exact ⟨by simp, HB2.out⟩
      · have h15n : (15 : Int) < (T.size : Int) := by omega
        rw [decide_eq_false h15]
        clear HO HC
        go_enter Tryz.func78, Tryz.ntmps78
        go_wp2_with fail
        refine HP.out.mono ?_
        rintro e w1 ⟨rfl, hb⟩
        have HB := Lib.hid hb
        clear hb
        go_wp2_with fail
        go_ret
        exact ⟨by simp, HB.out⟩
    · have h8n : (T.size : Int) < 8 := by omega
      rw [decide_eq_false h8]
      clear HO HC
      go_enter Tryz.func78, Tryz.ntmps78
      go_wp2_with fail
      refine HP.out.mono ?_
      rintro e w1 ⟨rfl, hb⟩
      have HB := Lib.hid hb
      clear hb
      go_wp2_with fail
      go_ret
      exact ⟨by simp, HB.out⟩
end Go.Proofs.YtfjdcopndkdbmaaGreatDoor

namespace Go.Proofs.YtfjdcopndkdbmaaGreatDoor
open Go.RowKit

theorem splits_le : ∀ (l acc : List UInt8), (Ad.splits acc l).length ≤ l.length + 1 ∧ ∀ p ∈ Ad.splits acc l, p.length ≤ acc.length + l.length
  | [], acc => by simp [Ad.splits]
  | c :: l, acc => by
    unfold Ad.splits
    split
    · have ⟨h1, h2⟩ := splits_le l []
      refine ⟨by simp; omega, fun p hp => ?_⟩
      rcases List.mem_cons.1 hp with rfl | hp
      · simp
      · have := h2 p hp
        simp at this ⊢
        omega
    · have ⟨h1, h2⟩ := splits_le l (acc ++ [c])
      refine ⟨by simp; omega, fun p hp => ?_⟩
      have := h2 p hp
      simp at this ⊢
      omega
theorem all_take_succ_list (p : List UInt8 → Bool) (l : List (List UInt8)) (k : Nat) (h : k < l.length) : (l.take (k + 1)).all p = ((l.take k).all p && p l[k]) := by
  rw [List.take_succ_eq_append_getElem h, List.all_append]
  simp
set_option maxHeartbeats 4000000 in
set_option maxRecDepth 100000 in
theorem host_any (s : ByteArray) (hs : s.size ≤ 1000000) (w : World) (hm : MaxIs w) :
    Calls Tryz.prog 103 #[.string s] w fun e w' => e = .returned (.bool (Ad.host s.data.toList)) ∧ Below w.heap.size w w' := by
  have HO := Lib.hid (one_host w)
  have HS := Lib.hid (fun W (h : MaxIs W) => split_any s W (by omega) h)
  have hle := splits_le s.data.toList []
  rw [show s.data.toList.length = s.size by simp] at hle
  obtain ⟨D, hD⟩ : ∃ D, Ad.splits [] s.data.toList = D := ⟨_, rfl⟩
  rw [hD] at HS hle
  have HD := Lib.hid hD
  have HM := Lib.hid hm
  obtain ⟨n, hn⟩ : ∃ n, D.length = n := ⟨_, rfl⟩
  rw [hn] at HS hle
  have hn6 := hle.1
  have HP := Lib.hid hle.2
  obtain ⟨H, hH⟩ : ∃ H, Ad.host s.data.toList = H := ⟨_, rfl⟩
  have HHF := Lib.hid (fun (p : List UInt8) (h1 : p ∈ D) (h2 : Ad.label p = false) => hH.symm.trans (Ad.host_false (hD ▸ h1) h2))
  have HHE := Lib.hid (fun (h1 : D.all Ad.label = true) => hH.symm.trans (Ad.host_end hD h1))
  rw [hH]
  clear hle hD hm hH
  go_enter Tryz.func103, Tryz.ntmps103
  go_wp2_with fail
  go_step3
  go_wp2_with fail
  refine HO.out.mono ?_
  rintro e w1 ⟨b, S, rfl, hc, hS, hb⟩
  have HB := Lib.hid hb
  have hM1 := HM.out.below hb
  have HS1 := Lib.hid (HS.out w1 hM1)
  have hblk := Blk.new w1 9 (cs (D.map ba)).toArray
  have hc2 := ((Below.refl _ w1).alloc (Nat.le_refl _) (.cells (cs (D.map ba)).toArray 9)).cell (p := ⟨b, 0, none⟩) (World.block_lt_of_cell? _ _ hc)
  have HBX := Lib.hid (hc2.trans hc)
  have HB2 := Lib.hid (HB.out.trans (((Below.refl _ w1).alloc (Nat.le_refl _) (.cells (cs (D.map ba)).toArray 9)).mono HB.out.size))
  have hcell : ∀ k (hk : k < D.length), (w1.alloc (.cells (cs (D.map ba)).toArray 9)).cell? ⟨w1.heap.size, k, none⟩ = some (.string (ba D[k])) := fun k hk => by
    rw [hblk.cell]
    simp [cs, hk]
  have HCL := Lib.hid hcell
  have HI := Lib.hid hS
  clear hc hS hb hM1 hblk hc2 hcell HO HS HB HM
  unfold isIn
  go_wp2_with fail
  refine HS1.out.mono ?_
  rintro e w2 ⟨rfl, hw2⟩
  rw [← hw2] at HBX HB2 HCL
  generalize w1.heap.size = g at HCL ⊢
  clear hw2 HS1
  have HIN := Lib.hid (fun c => in_any b S c w2 HBX.out)
  go_wp2_with fail
  go_step3
  go_wp2_with fail
  go_loopw [5, 7, 8, 15] (fun good _ _ i wr => wr = w2 ∧ ∃ k : Nat, i = .int .i64 (k : Int) ∧ good = .int .i64 (k : Int) ∧ k ≤ n ∧ (D.take k).all Ad.label = true) (fun _ _ _ i _ => n - (intOf i).toNat)
  case atStart => exact ⟨rfl, 0, rfl, rfl, by omega, rfl⟩
  case round =>
    obtain ⟨hwr, k, rfl, rfl, hk, hall⟩ := hrel
    obtain rfl : w2 = wr := hwr.symm
    clear hwr
    by_cases hlt : k < n
    · have hki : (k : Int) < (n : Int) := by omega
      have hkD : k < D.length := by omega
      have hcell := HCL.out k hkD
      have hmem := List.getElem_mem hkD
      have HALL := Lib.hid (all_take_succ_list Ad.label D k hkD)
      have HAL := Lib.hid hall
      obtain ⟨Pl, hPl⟩ : ∃ Pl, D[k] = Pl := ⟨_, rfl⟩
      rw [hPl] at hcell hmem HALL
      have HF := Lib.hid (HHF.out Pl hmem)
      have hlen := HP.out Pl hmem
      obtain ⟨T, hT⟩ : ∃ T : ByteArray, Pl = T.data.toList := ⟨ba Pl, (ba_list Pl).symm⟩
      subst hT
      rw [ba_back] at hcell
      have hTz : T.data.toList.length = T.size := by simp
      rw [hTz, List.length_nil] at hlen
      have hknB : ((k : Int) == (n : Int)) = false := by simp; omega
      clear hmem hall hPl
      by_cases h0 : T.size = 0
      · obtain rfl : T = ⟨#[]⟩ := nil_of_size h0
        have HX := Lib.hid (HF.out Ad.label_nil)
        by_cases h2 : (2 : Int) ≤ (k : Int)
        · go_wp2_with fail
          try rw [Exit.noGoto_ret]
          go_ret
          exact ⟨by rw [HX.out]; rfl, HB2.out⟩
        · go_wp2_with fail
          try rw [Exit.noGoto_ret]
          go_ret
          exact ⟨by rw [HX.out]; rfl, HB2.out⟩
      · obtain ⟨hne3, hne4⟩ := not_empty h0
        by_cases h20 : 20 < T.size
        · have h20i : (20 : Int) < (T.size : Int) := by omega
          have HX := Lib.hid (HF.out (Ad.label_long _ (by rw [hTz]; exact h20)))
          by_cases h2 : (2 : Int) ≤ (k : Int)
          · go_wp2_with fail
            try rw [Exit.noGoto_ret]
            go_ret
            exact ⟨by rw [HX.out]; rfl, HB2.out⟩
          · go_wp2_with fail
            try rw [Exit.noGoto_ret]
            go_ret
            exact ⟨by rw [HX.out]; rfl, HB2.out⟩
        · have h20i : ¬ (20 : Int) < (T.size : Int) := by omega
          obtain ⟨m, hm⟩ : ∃ m, T.size - 1 = m := ⟨_, rfl⟩
          have hmi : (T.size : Int) - 1 = (m : Int) := by omega
          have hmT : m < T.size := by omega
          have hg0 := data_getD T 0 (by omega)
          have hgm := data_getD T m hmT
          obtain ⟨x, hx⟩ : ∃ x, T[0] = x := ⟨_, rfl⟩
          obtain ⟨y, hy⟩ : ∃ y, T[m] = y := ⟨_, rfl⟩
          rw [hx] at hg0
          rw [hy, ← hm, ← hTz] at hgm
          have hx2 := eq_int x 45 45 rfl
          have hy2 := eq_int y 45 45 rfl
          cases hxb : (x == 45) with
          | true =>
            rw [hxb] at hx2
            have hx3 : (x.toNat : Int) = 45 := by simpa using hx2
            have HX := Lib.hid (HF.out (Ad.label_no_first _ (by rw [hTz]; omega) (by rw [hg0]; simpa using hxb)))
            clear hxb hg0 hgm hy2
            by_cases h2 : (2 : Int) ≤ (k : Int)
            · go_wp2_with fail
              try rw [Exit.noGoto_ret]
              go_ret
              exact ⟨by rw [HX.out]; rfl, HB2.out⟩
            · go_wp2_with fail
              try rw [Exit.noGoto_ret]
              go_ret
              exact ⟨by rw [HX.out]; rfl, HB2.out⟩
          | false =>
            rw [hxb] at hx2
            have hx3 : ¬ (x.toNat : Int) = 45 := by simpa using hx2
            cases hyb : (y == 45) with
            | true =>
              rw [hyb] at hy2
              have hy3 : (y.toNat : Int) = 45 := by simpa using hy2
              have HX := Lib.hid (HF.out (Ad.label_no_last _ (by rw [hTz]; omega) (by rw [hgm]; simpa using hyb)))
              clear hxb hyb hg0 hgm
              by_cases h2 : (2 : Int) ≤ (k : Int)
              · go_wp2_with fail
                try rw [Exit.noGoto_ret]
                go_ret
                exact ⟨by rw [HX.out]; rfl, HB2.out⟩
              · go_wp2_with fail
                try rw [Exit.noGoto_ret]
                go_ret
                exact ⟨by rw [HX.out]; rfl, HB2.out⟩
            | false =>
              rw [hyb] at hy2
              have hy3 : ¬ (y.toNat : Int) = 45 := by simpa using hy2
              have HLC := Lib.hid (Ad.label_cons T.data.toList (by rw [hTz]; omega) (by rw [hTz]; omega) (by rw [hg0]; simpa using hxb) (by rw [hgm]; simpa using hyb))
              have HNB := Lib.hid (fun j (hj : j < T.size) (h : Ad.hostByte T[j] = false) => HF.out (Ad.label_no_byte T.data.toList (i := j) (by rw [hTz]; exact hj) (by rw [data_getD T j hj]; exact h)))
              clear hxb hyb hg0 hgm
              go_wp2_with fail
              go_loopw [8, 41] (fun _ i wr => wr = w2 ∧ ∃ j : Nat, i = .int .i64 (j : Int) ∧ j ≤ T.size ∧ (T.data.toList.take j).all Ad.hostByte = true) (fun _ i _ => T.size - (intOf i).toNat)
              case atStart => exact ⟨rfl, 0, rfl, by omega, rfl⟩
              case round =>
                obtain ⟨hwr, j, rfl, hj, hja⟩ := hrel
                obtain rfl : w2 = wr := hwr.symm
                clear hwr
                by_cases hjl : j < T.size
                · have hji : (j : Int) < (T.size : Int) := by omega
                  have HA := Lib.hid (all_take_more Ad.hostByte T.data.toList j (by rw [hTz]; exact hjl))
                  have hgj : T.data.toList[j]'(by rw [hTz]; exact hjl) = T[j] := rfl
                  rw [hgj, hja] at HA
                  have HNJ := Lib.hid (HNB.out j hjl)
                  obtain ⟨z, hz⟩ : ∃ z, T[j] = z := ⟨_, rfl⟩
                  rw [hz] at HA HNJ
                  have HC := Lib.hid (HIN.out z)
                  rw [HI.out z] at HC
                  clear hgj hja
                  cases hzb : Ad.hostByte z with
                  | false =>
                    rw [hzb] at HC HNJ
                    have HX := Lib.hid (HNJ.out rfl)
                    clear hzb HNJ HA
                    by_cases h2 : (2 : Int) ≤ (k : Int)
                    · go_wp2_with fail
                      refine HC.out.mono ?_
                      rintro e w3 ⟨rfl, rfl⟩
                      go_wp2_with fail
                      try rw [Exit.noGoto_ret]
                      go_ret
                      exact ⟨by rw [HX.out]; rfl, HB2.out⟩
                    · go_wp2_with fail
                      refine HC.out.mono ?_
                      rintro e w3 ⟨rfl, rfl⟩
                      go_wp2_with fail
                      try rw [Exit.noGoto_ret]
                      go_ret
                      exact ⟨by rw [HX.out]; rfl, HB2.out⟩
                  | true =>
                    rw [hzb] at HC HA
                    clear hzb HNJ
                    go_wp2_with fail
                    refine HC.out.mono ?_
                    rintro e w3 ⟨rfl, rfl⟩
                    clear HC
                    go_wp2_with fail
                    go_roundw
                    case rel => exact ⟨trivial, j + 1, by go_num, by omega, by rw [HA.out]; rfl⟩
                    case measure => simp [intOf]; omega
                · obtain rfl : j = T.size := by omega
                  rw [List.take_of_length_le (by omega)] at hja
                  have HL2 := Lib.hid (HALL.out.trans (by rw [HAL.out, HLC.out, hja]; rfl : _ = true))
                  clear hja
                  go_wp2_with fail
                  go_roundw
                  case rel => exact ⟨trivial, k + 1, by go_num, by go_num, by omega, HL2.out⟩
                  case measure => simp [intOf]; omega
    · obtain rfl : k = n := by omega
      rw [List.take_of_length_le (by omega)] at hall
      have hH := HHE.out hall
      rw [hn] at hH
      have HH := Lib.hid hH
      clear hH hall
      by_cases h2 : 2 ≤ k
      · have h2i : (2 : Int) ≤ (k : Int) := by omega
        go_wp2_with fail
        try rw [Exit.noGoto_ret]
        go_ret
        exact ⟨by rw [HH.out]; simp [h2], HB2.out⟩
      · have h2i : ¬ (2 : Int) ≤ (k : Int) := by omega
        go_wp2_with fail
        try rw [Exit.noGoto_ret]
        go_ret
        exact ⟨by rw [HH.out]; simp [h2], HB2.out⟩
end Go.Proofs.YtfjdcopndkdbmaaGreatDoor

namespace Go.Proofs.YtfjdcopndkdbmaaGreatDoor
open Go.RowKit

/-- What the calls tell. -/
def splN (L : List UInt8) : ByteArray := if Ad.mailOk L = true then ba (Ad.bef L 64) else ⟨#[]⟩
def splH (L : List UInt8) : ByteArray := if Ad.mailOk L = true then ba (Ad.aft L 64) else ⟨#[]⟩

set_option maxRecDepth 100000 in
set_option maxHeartbeats 4000000 in
theorem spl_any (s : ByteArray) (hs : s.size ≤ 1000000) (w : World) (hm : MaxIs w) :
    Calls Tryz.prog 87 #[.string s] w fun e w' => e = .returned (.tuple #[.string (splN s.data.toList), .string (splH s.data.toList), .bool (Ad.mailOk s.data.toList)]) ∧ Below w.heap.size w w' := by
  obtain ⟨L, hL⟩ : ∃ L, s.data.toList = L := ⟨_, rfl⟩
  have hLl : L.length = s.size := by rw [← hL]; simp
  have HC := Lib.hid (cut_any s 64 w (by omega) hm)
  rw [hL] at HC ⊢
  have he := Ad.mailOk_eq L
  have h1 := Ad.bef_length_le L 64
  have h2 := Ad.aft_length L 64
  unfold splN splH
  by_cases h40 : 40 < s.size
  · have h40i : (s.size : Int) > 40 := by omega
    rw [hLl, decide_eq_false (by omega)] at he
    have hf : Ad.mailOk L = false := by rw [he]; rfl
    rw [hf]
    clear HC he hf hL hm
    go_enter Tryz.func87, Tryz.ntmps87
    go_wp2_with fail
    go_ret3
    exact ⟨rfl, Below.refl _ _⟩
  · have h40i : ¬ ((s.size : Int) > 40) := by omega
    rw [hLl, decide_eq_true (by omega), Bool.true_and] at he
    rw [he]
    generalize L.contains 64 = fnd at HC
    generalize Ad.bef L 64 = N at HC h1 ⊢
    generalize Ad.aft L 64 = A at HC h2 ⊢
    have HN := Lib.hid (fun W (h : MaxIs W) => name_any (ba N) (by rw [ba_size]; omega) W h)
    have HA := Lib.hid (fun W (h : MaxIs W) => host_any (ba A) (by rw [ba_size]; omega) W h)
    rw [ba_list] at HN HA
    generalize Ad.name N = bn at HN ⊢
    generalize Ad.host A = bh at HA ⊢
    have HM := Lib.hid hm
    generalize ba N = NN at HC HN ⊢
    generalize ba A = AA at HC HA ⊢
    clear he hL hm h1 h2
    cases bn with
    | false =>
      clear HA
      go_enter Tryz.func87, Tryz.ntmps87
      go_wp2_with fail
      refine HC.out.mono ?_
      rintro e w1 ⟨rfl, hb⟩
      have HB := Lib.hid hb
      have HM1 := Lib.hid (HM.out.below hb)
      clear hb HC HM
      go_wp2_with fail
      refine (HN.out _ HM1.out).mono ?_
      rintro e w2 ⟨rfl, hb⟩
      have HB2 := Lib.hid (HB.out.trans (hb.mono HB.out.size))
      clear hb HN HM1
      go_wp2_with fail
      go_ret3
      exact ⟨rfl, HB2.out⟩
    | true =>
      go_enter Tryz.func87, Tryz.ntmps87
      go_wp2_with fail
      refine HC.out.mono ?_
      rintro e w1 ⟨rfl, hb⟩
      have HB := Lib.hid hb
      have HM1 := Lib.hid (HM.out.below hb)
      clear hb HC HM
      go_wp2_with fail
      refine (HN.out _ HM1.out).mono ?_
      rintro e w2 ⟨rfl, hb⟩
      have HB2 := Lib.hid (HB.out.trans (hb.mono HB.out.size))
      have HM2 := Lib.hid (HM1.out.below hb)
      clear hb HN HM1
      go_wp2_with fail
      refine (HA.out _ HM2.out).mono ?_
      rintro e w3 ⟨rfl, hb⟩
      have HB3 := Lib.hid (HB2.out.trans (hb.mono HB2.out.size))
      clear hb HA HM2
      cases bh with
      | false =>
        go_wp2_with fail
        go_ret3
        exact ⟨rfl, HB3.out⟩
      | true =>
        go_wp2_with fail
        go_ret3
        exact ⟨rfl, HB3.out⟩
theorem ismail_any (s : ByteArray) (hs : s.size ≤ 1000000) (w : World) (hm : MaxIs w) :
    Calls Tryz.prog 77 #[.string s] w fun e w' => e = .returned (.bool (Ad.mailOk s.data.toList)) ∧ Below w.heap.size w w' := by
  have HC := Lib.hid (spl_any s hs w hm)
  generalize Ad.mailOk s.data.toList = b at HC ⊢
  generalize splN s.data.toList = N at HC
  generalize splH s.data.toList = A at HC
  clear hm
  go_enter Tryz.func77, Tryz.ntmps77
  go_wp2_with fail
  refine HC.out.mono ?_
  rintro e w1 ⟨rfl, hb⟩
  have HB := Lib.hid hb
  clear hb HC
  go_wp2_with fail
  go_ret
  exact ⟨rfl, HB.out⟩

theorem kind_any (s : ByteArray) (hs : s.size ≤ 1000000) (w : World) (hm : MaxIs w) :
    Calls Tryz.prog 59 #[.string s] w fun e w' => e = .returned (.int .i64 (Ad.kind s.data.toList : Int)) ∧ Below w.heap.size w w' := by
  unfold Ad.kind
  have HT := Lib.hid (ismail_any s hs w hm)
  have HP := Lib.hid (fun W => phone_any s hs W)
  generalize Ad.mailOk s.data.toList = b at HT ⊢
  generalize Ad.phoneOk s.data.toList = b2 at HP ⊢
  clear hm
  go_enter Tryz.func59, Tryz.ntmps59
  go_wp2_with fail
  refine HT.out.mono ?_
  rintro e w1 ⟨rfl, hb⟩
  have HB1 := Lib.hid hb
  clear hb HT
  cases b with
  | false =>
    go_wp2_with fail
    refine (HP.out _).mono ?_
    rintro e w2 ⟨rfl, hb⟩
    have HB2 := Lib.hid (HB1.out.trans (hb.mono HB1.out.size))
    clear hb HP
    cases b2 with
    | false =>
      go_wp2_with fail
      go_ret
      exact ⟨rfl, HB2.out⟩
    | true =>
      go_wp2_with fail
      go_ret
      exact ⟨rfl, HB2.out⟩
  | true =>
    go_wp2_with fail
    go_ret
    exact ⟨rfl, HB1.out⟩
end Go.Proofs.YtfjdcopndkdbmaaGreatDoor
