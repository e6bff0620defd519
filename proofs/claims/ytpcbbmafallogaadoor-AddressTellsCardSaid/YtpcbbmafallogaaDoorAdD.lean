/-
  Contract of address.isHost. Condition: texts of at most 1000000 bytes; one variable of the library's holds some number.
-/
import Derived.Test.YtpcbbmafallogaaDoorAdC
namespace Go.Proofs.YtpcbbmafallogaaDoor
open Go.RowKit

theorem splits_le : ∀ (l acc : List UInt8), (Ad.splits acc l).length ≤ l.length + 1 ∧ ∀ p ∈ Ad.splits acc l, p.length ≤ acc.length + l.length
  | [], acc => by simp [Ad.splits]
  | c :: l, acc => by
    unfold Ad.splits
    split
    · have ⟨h1, h2⟩ := splits_le l []
      refine ⟨by simp; omega, fun p hp => ?_⟩
      rcases List.mem_cons.1 hp with rfl | hp
      · simp
      · have := h2 p hp
        simp at this ⊢
        omega
    · have ⟨h1, h2⟩ := splits_le l (acc ++ [c])
      refine ⟨by simp; omega, fun p hp => ?_⟩
      have := h2 p hp
      simp at this ⊢
      omega
theorem all_take_succ_list (p : List UInt8 → Bool) (l : List (List UInt8)) (k : Nat) (h : k < l.length) : (l.take (k + 1)).all p = ((l.take k).all p && p l[k]) := by
  rw [List.take_succ_eq_append_getElem h, List.all_append]
  simp
set_option maxHeartbeats 4000000 in
set_option maxRecDepth 100000 in
theorem host_any (s : ByteArray) (hs : s.size ≤ 1000000) (w : World) (hm : MaxIs w) :
    Calls Tryd.prog 43 #[.string s] w fun e w' => e = .returned (.bool (Ad.host s.data.toList)) ∧ Below w.heap.size w w' := by
  have HO := Lib.hid (one_host w)
  have HS := Lib.hid (fun W (h : MaxIs W) => split_any s W (by omega) h)
  have hle := splits_le s.data.toList []
  rw [show s.data.toList.length = s.size by simp] at hle
  obtain ⟨D, hD⟩ : ∃ D, Ad.splits [] s.data.toList = D := ⟨_, rfl⟩
  rw [hD] at HS hle
  have HD := Lib.hid hD
  have HM := Lib.hid hm
  obtain ⟨n, hn⟩ : ∃ n, D.length = n := ⟨_, rfl⟩
  rw [hn] at HS hle
  have hn6 := hle.1
  have HP := Lib.hid hle.2
  obtain ⟨H, hH⟩ : ∃ H, Ad.host s.data.toList = H := ⟨_, rfl⟩
  have HHF := Lib.hid (fun (p : List UInt8) (h1 : p ∈ D) (h2 : Ad.label p = false) => hH.symm.trans (Ad.host_false (hD ▸ h1) h2))
  have HHE := Lib.hid (fun (h1 : D.all Ad.label = true) => hH.symm.trans (Ad.host_end hD h1))
  rw [hH]
  clear hle hD hm hH
  go_enter Tryd.func43, Tryd.ntmps43
  go_wp2_with fail
  go_step3
  go_wp2_with fail
  refine HO.out.mono ?_
  rintro e w1 ⟨b, S, rfl, hc, hS, hb⟩
  have HB := Lib.hid hb
  have hM1 := HM.out.below hb
  have HS1 := Lib.hid (HS.out w1 hM1)
  have hblk := Blk.new w1 9 (cs (D.map ba)).toArray
  have hc2 := ((Below.refl _ w1).alloc (Nat.le_refl _) (.cells (cs (D.map ba)).toArray 9)).cell (p := ⟨b, 0, none⟩) (World.block_lt_of_cell? _ _ hc)
  have HBX := Lib.hid (hc2.trans hc)
  have HB2 := Lib.hid (HB.out.trans (((Below.refl _ w1).alloc (Nat.le_refl _) (.cells (cs (D.map ba)).toArray 9)).mono HB.out.size))
  have hcell : ∀ k (hk : k < D.length), (w1.alloc (.cells (cs (D.map ba)).toArray 9)).cell? ⟨w1.heap.size, k, none⟩ = some (.string (ba D[k])) := fun k hk => by
    rw [hblk.cell]
    simp [cs, hk]
  have HCL := Lib.hid hcell
  have HI := Lib.hid hS
  clear hc hS hb hM1 hblk hc2 hcell HO HS HB HM
  unfold isIn
  go_wp2_with fail
  refine HS1.out.mono ?_
  rintro e w2 ⟨rfl, hw2⟩
  rw [← hw2] at HBX HB2 HCL
  generalize w1.heap.size = g at HCL ⊢
  clear hw2 HS1
  have HIN := Lib.hid (fun c => in_any b S c w2 HBX.out)
  go_wp2_with fail
  go_step3
  go_wp2_with fail
  go_loopw [5, 7, 8, 15] (fun good _ _ i wr => wr = w2 ∧ ∃ k : Nat, i = .int .i64 (k : Int) ∧ good = .int .i64 (k : Int) ∧ k ≤ n ∧ (D.take k).all Ad.label = true) (fun _ _ _ i _ => n - (intOf i).toNat)
  case atStart => exact ⟨rfl, 0, rfl, rfl, by omega, rfl⟩
  case round =>
    obtain ⟨hwr, k, rfl, rfl, hk, hall⟩ := hrel
    obtain rfl : w2 = wr := hwr.symm
    clear hwr
    by_cases hlt : k < n
    · have hki : (k : Int) < (n : Int) := by omega
      have hkD : k < D.length := by omega
      have hcell := HCL.out k hkD
      have hmem := List.getElem_mem hkD
      have HALL := Lib.hid (all_take_succ_list Ad.label D k hkD)
      have HAL := Lib.hid hall
      obtain ⟨Pl, hPl⟩ : ∃ Pl, D[k] = Pl := ⟨_, rfl⟩
      rw [hPl] at hcell hmem HALL
      have HF := Lib.hid (HHF.out Pl hmem)
      have hlen := HP.out Pl hmem
      obtain ⟨T, hT⟩ : ∃ T : ByteArray, Pl = T.data.toList := ⟨ba Pl, (ba_list Pl).symm⟩
      subst hT
      rw [ba_back] at hcell
      have hTz : T.data.toList.length = T.size := by simp
      rw [hTz, List.length_nil] at hlen
      have hknB : ((k : Int) == (n : Int)) = false := by simp; omega
      clear hmem hall hPl
      by_cases h0 : T.size = 0
      · obtain rfl : T = ⟨#[]⟩ := nil_of_size h0
        have HX := Lib.hid (HF.out Ad.label_nil)
        by_cases h2 : (2 : Int) ≤ (k : Int)
        · go_wp2_with fail
          try rw [Exit.noGoto_ret]
          go_ret
          exact ⟨by rw [HX.out]; rfl, HB2.out⟩
        · go_wp2_with fail
          try rw [Exit.noGoto_ret]
          go_ret
          exact ⟨by rw [HX.out]; rfl, HB2.out⟩
      · obtain ⟨hne3, hne4⟩ := not_empty h0
        by_cases h20 : 20 < T.size
        · have h20i : (20 : Int) < (T.size : Int) := by omega
          have HX := Lib.hid (HF.out (Ad.label_long _ (by rw [hTz]; exact h20)))
          by_cases h2 : (2 : Int) ≤ (k : Int)
          · go_wp2_with fail
            try rw [Exit.noGoto_ret]
            go_ret
            exact ⟨by rw [HX.out]; rfl, HB2.out⟩
          · go_wp2_with fail
            try rw [Exit.noGoto_ret]
            go_ret
            exact ⟨by rw [HX.out]; rfl, HB2.out⟩
        · have h20i : ¬ (20 : Int) < (T.size : Int) := by omega
          obtain ⟨m, hm⟩ : ∃ m, T.size - 1 = m := ⟨_, rfl⟩
          have hmi : (T.size : Int) - 1 = (m : Int) := by omega
          have hmT : m < T.size := by omega
          have hg0 := data_getD T 0 (by omega)
          have hgm := data_getD T m hmT
          obtain ⟨x, hx⟩ : ∃ x, T[0] = x := ⟨_, rfl⟩
          obtain ⟨y, hy⟩ : ∃ y, T[m] = y := ⟨_, rfl⟩
          rw [hx] at hg0
          rw [hy, ← hm, ← hTz] at hgm
          have hx2 := eq_int x 45 45 rfl
          have hy2 := eq_int y 45 45 rfl
          cases hxb : (x == 45) with
          | true =>
            rw [hxb] at hx2
            have hx3 : (x.toNat : Int) = 45 := by simpa using hx2
            have HX := Lib.hid (HF.out (Ad.label_no_first _ (by rw [hTz]; omega) (by rw [hg0]; simpa using hxb)))
            clear hxb hg0 hgm hy2
            by_cases h2 : (2 : Int) ≤ (k : Int)
            · go_wp2_with fail
              try rw [Exit.noGoto_ret]
              go_ret
              exact ⟨by rw [HX.out]; rfl, HB2.out⟩
            · go_wp2_with fail
              try rw [Exit.noGoto_ret]
              go_ret
              exact ⟨by rw [HX.out]; rfl, HB2.out⟩
          | false =>
            rw [hxb] at hx2
            have hx3 : ¬ (x.toNat : Int) = 45 := by simpa using hx2
            cases hyb : (y == 45) with
            | true =>
              rw [hyb] at hy2
              have hy3 : (y.toNat : Int) = 45 := by simpa using hy2
              have HX := Lib.hid (HF.out (Ad.label_no_last _ (by rw [hTz]; omega) (by rw [hgm]; simpa using hyb)))
              clear hxb hyb hg0 hgm
              by_cases h2 : (2 : Int) ≤ (k : Int)
              · go_wp2_with fail
                try rw [Exit.noGoto_ret]
                go_ret
                exact ⟨by rw [HX.out]; rfl, HB2.out⟩
              · go_wp2_with fail
                try rw [Exit.noGoto_ret]
                go_ret
                exact ⟨by rw [HX.out]; rfl, HB2.out⟩
            | false =>
              rw [hyb] at hy2
              have hy3 : ¬ (y.toNat : Int) = 45 := by simpa using hy2
              have HLC := Lib.hid (Ad.label_cons T.data.toList (by rw [hTz]; omega) (by rw [hTz]; omega) (by rw [hg0]; simpa using hxb) (by rw [hgm]; simpa using hyb))
              have HNB := Lib.hid (fun j (hj : j < T.size) (h : Ad.hostByte T[j] = false) => HF.out (Ad.label_no_byte T.data.toList (i := j) (by rw [hTz]; exact hj) (by rw [data_getD T j hj]; exact h)))
              clear hxb hyb hg0 hgm
              go_wp2_with fail
              go_loopw [8, 41] (fun _ i wr => wr = w2 ∧ ∃ j : Nat, i = .int .i64 (j : Int) ∧ j ≤ T.size ∧ (T.data.toList.take j).all Ad.hostByte = true) (fun _ i _ => T.size - (intOf i).toNat)
              case atStart => exact ⟨rfl, 0, rfl, by omega, rfl⟩
              case round =>
                obtain ⟨hwr, j, rfl, hj, hja⟩ := hrel
                obtain rfl : w2 = wr := hwr.symm
                clear hwr
                by_cases hjl : j < T.size
                · have hji : (j : Int) < (T.size : Int) := by omega
                  have HA := Lib.hid (all_take_succ Ad.hostByte T.data.toList j (by rw [hTz]; exact hjl))
                  have hgj : T.data.toList[j]'(by rw [hTz]; exact hjl) = T[j] := rfl
                  rw [hgj, hja] at HA
                  have HNJ := Lib.hid (HNB.out j hjl)
                  obtain ⟨z, hz⟩ : ∃ z, T[j] = z := ⟨_, rfl⟩
                  rw [hz] at HA HNJ
                  have HC := Lib.hid (HIN.out z)
                  rw [HI.out z] at HC
                  clear hgj hja
                  cases hzb : Ad.hostByte z with
                  | false =>
                    rw [hzb] at HC HNJ
                    have HX := Lib.hid (HNJ.out rfl)
                    clear hzb HNJ HA
                    by_cases h2 : (2 : Int) ≤ (k : Int)
                    · go_wp2_with fail
                      refine HC.out.mono ?_
                      rintro e w3 ⟨rfl, rfl⟩
                      go_wp2_with fail
                      try rw [Exit.noGoto_ret]
                      go_ret
                      exact ⟨by rw [HX.out]; rfl, HB2.out⟩
                    · go_wp2_with fail
                      refine HC.out.mono ?_
                      rintro e w3 ⟨rfl, rfl⟩
                      go_wp2_with fail
                      try rw [Exit.noGoto_ret]
                      go_ret
                      exact ⟨by rw [HX.out]; rfl, HB2.out⟩
                  | true =>
                    rw [hzb] at HC HA
                    clear hzb HNJ
                    go_wp2_with fail
                    refine HC.out.mono ?_
                    rintro e w3 ⟨rfl, rfl⟩
                    clear HC
                    go_wp2_with fail
                    go_roundw
                    case rel => exact ⟨trivial, j + 1, by go_num, by omega, by rw [HA.out]; rfl⟩
                    case measure => simp [intOf]; omega
                · obtain rfl : j = T.size := by omega
                  rw [List.take_of_length_le (by omega)] at hja
                  have HL2 := Lib.hid (HALL.out.trans (by rw [HAL.out, HLC.out, hja]; rfl : _ = true))
                  clear hja
                  go_wp2_with fail
                  go_roundw
                  case rel => exact ⟨trivial, k + 1, by go_num, by go_num, by omega, HL2.out⟩
                  case measure => simp [intOf]; omega
    · obtain rfl : k = n := by omega
      rw [List.take_of_length_le (by omega)] at hall
      have hH := HHE.out hall
      rw [hn] at hH
      have HH := Lib.hid hH
      clear hH hall
      by_cases h2 : 2 ≤ k
      · have h2i : (2 : Int) ≤ (k : Int) := by omega
        go_wp2_with fail
        try rw [Exit.noGoto_ret]
        go_ret
        exact ⟨by rw [HH.out]; simp [h2], HB2.out⟩
      · have h2i : ¬ (2 : Int) ≤ (k : Int) := by omega
        go_wp2_with fail
        try rw [Exit.noGoto_ret]
        go_ret
        exact ⟨by rw [HH.out]; simp [h2], HB2.out⟩
end Go.Proofs.YtpcbbmafallogaaDoor
