/-
  Contracts of the document's own letter, name, label, host. Condition: texts of at most 1000000 bytes.
-/
import Derived.Test.YtpcbbmafallogaaDoorAdC
namespace Go.Proofs.YtpcbbmafallogaaDoor
open Go.RowKit

theorem letter_any (c : UInt8) (w : World) :
    Calls Tryd.prog 60 #[.int .u8 (c.toNat : Int)] w fun e w' => e = .returned (.bool (Ad.isLet c)) ∧ w' = w := by
  have hl := c.toNat_lt
  unfold Ad.isLet
  by_cases h1 : 97 ≤ c.toNat
  · have g1 : (97 : Int) ≤ (c.toNat : Int) := by omega
    have k1 : decide (97 ≤ c.toNat) = true := decide_eq_true h1
    have k3 : decide (48 ≤ c.toNat) = true := decide_eq_true (by omega)
    have k4 : decide (c.toNat ≤ 57) = false := decide_eq_false (by omega)
    rw [k1, k3, k4]
    by_cases h2 : c.toNat ≤ 122
    · have g2 : (c.toNat : Int) ≤ 122 := by omega
      rw [decide_eq_true h2]
      clear k1 k3 k4 h1 h2
      go_enter Tryd.func60, Tryd.ntmps60
      go_wp2_with fail
      go_ret
      exact ⟨rfl, rfl⟩
    · have g2 : ¬ (c.toNat : Int) ≤ 122 := by omega
      have g3 : (48 : Int) ≤ (c.toNat : Int) := by omega
      have g4 : ¬ (c.toNat : Int) ≤ 57 := by omega
      rw [decide_eq_false h2]
      clear k1 k3 k4 h1 h2
      go_enter Tryd.func60, Tryd.ntmps60
      go_wp2_with fail
      go_ret
      exact ⟨rfl, rfl⟩
  · have g1 : ¬ (97 : Int) ≤ (c.toNat : Int) := by omega
    rw [decide_eq_false h1]
    by_cases h3 : 48 ≤ c.toNat
    · have g3 : (48 : Int) ≤ (c.toNat : Int) := by omega
      rw [decide_eq_true h3]
      by_cases h4 : c.toNat ≤ 57
      · have g4 : (c.toNat : Int) ≤ 57 := by omega
        rw [decide_eq_true h4]
        clear h1 h3 h4
        go_enter Tryd.func60, Tryd.ntmps60
        go_wp2_with fail
        go_ret
        exact ⟨rfl, rfl⟩
      · have g4 : ¬ (c.toNat : Int) ≤ 57 := by omega
        rw [decide_eq_false h4]
        clear h1 h3 h4
        go_enter Tryd.func60, Tryd.ntmps60
        go_wp2_with fail
        go_ret
        exact ⟨rfl, rfl⟩
    · have g3 : ¬ (48 : Int) ≤ (c.toNat : Int) := by omega
      rw [decide_eq_false h3]
      clear h1 h3
      go_enter Tryd.func60, Tryd.ntmps60
      go_wp2_with fail
      go_ret
      exact ⟨rfl, rfl⟩

theorem range_all (f : Nat → Bool) (k : Nat) (h : (List.range k).all f = true) (hf : f k = true) : (List.range (k + 1)).all f = true := Ad.range_all_succ f k h hf
theorem nameAt_eq (s : ByteArray) (k : Nat) (hk : k < s.size) : Ad.nameAt s.data.toList k = (Ad.nameByte s[k] && (s[k] != 46 || (k != 0 && k + 1 != s.size && s.data.toList.getD (k - 1) 0 != 46))) := by
  unfold Ad.nameAt
  rw [data_getD s k hk, show s.data.toList.length = s.size by simp]
theorem labelAt_eq (s : ByteArray) (k : Nat) (hk : k < s.size) : Ad.labelAt s.data.toList k = (Ad.isLet s[k] || (s[k] == 45 && k != 0 && k + 1 != s.size)) := by
  unfold Ad.labelAt
  rw [data_getD s k hk, show s.data.toList.length = s.size by simp]

set_option maxRecDepth 100000 in
set_option maxHeartbeats 4000000 in
theorem rname_any (s : ByteArray) (hs : s.size ≤ 1000000) (w : World) :
    Calls Tryd.prog 47 #[.string s] w fun e w' => e = .returned (.bool (Ad.name s.data.toList)) ∧ w' = w := by
  have hl : s.data.toList.length = s.size := by simp
  obtain ⟨R, hR⟩ : ∃ R, Ad.name s.data.toList = R := ⟨_, rfl⟩
  have HF := Lib.hid (fun k (hk : k < s.size) (h : Ad.nameAt s.data.toList k = false) => hR.symm.trans (Ad.name_false (i := k) (by rw [hl]; exact hk) h))
  have HE := Lib.hid (fun (h : (List.range s.size).all (Ad.nameAt s.data.toList) = true) => hR.symm.trans (Ad.name_end (by rw [hl]; exact h)))
  rw [hl] at HE
  rw [hR]
  clear hR hl
  go_enter Tryd.func47, Tryd.ntmps47
  go_wp2_with fail
  go_loopw [3, 4, 5] (fun i _ _ wr => wr = w ∧ ∃ k : Nat, i = .int .i64 (k : Int) ∧ k ≤ s.size ∧ (List.range k).all (Ad.nameAt s.data.toList) = true) (fun i _ _ _ => s.size - (intOf i).toNat)
  case atStart => exact ⟨rfl, 0, rfl, by omega, rfl⟩
  case round =>
    obtain ⟨hwr, k, rfl, hk, hall⟩ := hrel
    obtain rfl : w = wr := hwr.symm
    clear hwr
    by_cases hlt : k < s.size
    · have hki : (k : Int) < (s.size : Int) := by omega
      have hat := nameAt_eq s k hlt
      have HBX := Lib.hid (HF.out k hlt)
      have HNX := Lib.hid (range_all _ k hall)
      rw [hat] at HBX HNX
      obtain ⟨x, hx⟩ : ∃ x, s[k] = x := ⟨_, rfl⟩
      rw [hx] at HBX HNX
      have hxl := x.toNat_lt
      have HLX := Lib.hid (letter_any x w)
      clear hat hall
      cases hlet : Ad.isLet x with
      | true =>
        have hnb : Ad.nameByte x = true := by unfold Ad.nameByte; rw [hlet]; rfl
        have h46 : (x == 46) = false := by
          cases he : (x == 46) with
          | false => rfl
          | true => rw [beq_iff_eq.1 he] at hlet; exact absurd hlet (by decide)
        have h46n : (x != 46) = true := by unfold bne; rw [h46]; rfl
        have g46 : ((x.toNat : Int) == 46) = false := (eq_int x 46 46 rfl).trans h46
        have g46n : ¬ (x.toNat : Int) = 46 := by simpa using g46
        rw [hlet] at HLX
        have HOK := Lib.hid (HNX.out (by rw [hnb, h46n]; rfl))
        clear hnb h46 h46n hlet
        go_wp2_with fail
        refine HLX.out.mono ?_
        rintro e w1 ⟨rfl, hw1⟩
        obtain rfl : w = w1 := hw1.symm
        clear hw1
        go_wp2_with fail
        go_roundw
        case rel => exact ⟨trivial, k + 1, by go_num, by omega, HOK.out⟩
        case measure => simp [intOf]; omega
      | false =>
        rw [hlet] at HLX
        by_cases h95 : x = 95
        · have g95 : (x.toNat : Int) = 95 := by rw [h95]; rfl
          rw [g95] at HLX
          have HOK := Lib.hid (HNX.out (by rw [h95]; rfl))
          clear h95 hlet
          go_wp2_with fail
          refine HLX.out.mono ?_
          rintro e w1 ⟨rfl, hw1⟩
          obtain rfl : w = w1 := hw1.symm
          clear hw1
          go_wp2_with fail
          go_roundw
          case rel => exact ⟨trivial, k + 1, by go_num, by omega, HOK.out⟩
          case measure => simp [intOf]; omega
        · have g95 : ¬ (x.toNat : Int) = 95 := fun e => h95 (UInt8.toNat_inj.1 (by simpa using (by omega : x.toNat = 95)))
          by_cases h45 : x = 45
          · have g45 : (x.toNat : Int) = 45 := by rw [h45]; rfl
            rw [g45] at HLX
            have HOK := Lib.hid (HNX.out (by rw [h45]; rfl))
            clear h45 h95 hlet
            go_wp2_with fail
            refine HLX.out.mono ?_
            rintro e w1 ⟨rfl, hw1⟩
            obtain rfl : w = w1 := hw1.symm
            clear hw1
            go_wp2_with fail
            go_roundw
            case rel => exact ⟨trivial, k + 1, by go_num, by omega, HOK.out⟩
            case measure => simp [intOf]; omega
          · have g45 : ¬ (x.toNat : Int) = 45 := fun e => h45 (UInt8.toNat_inj.1 (by simpa using (by omega : x.toNat = 45)))
            by_cases h46 : x = 46
            · have g46 : (x.toNat : Int) = 46 := by rw [h46]; rfl
              rw [g46] at HLX
              rw [h46] at HBX HNX
              clear h46 h45 h95 hlet
              by_cases hk0 : k = 0
              · have HBAD := Lib.hid (HBX.out (by simp [hk0]))
                obtain rfl : k = 0 := hk0
                have hki0 : (0 : Int) < (s.size : Int) := by omega
                clear HBX HNX hki
                go_wp2_with fail
                refine HLX.out.mono ?_
                rintro e w1 ⟨rfl, hw1⟩
                obtain rfl : w = w1 := hw1.symm
                clear hw1
                go_wp2_with fail
                go_ret
                exact ⟨by rw [HBAD.out]; rfl, rfl⟩
              · have gk0 : ¬ (k : Int) = 0 := by omega
                obtain ⟨q, hq⟩ : ∃ q, s.size - 1 = q := ⟨_, rfl⟩
                have hqi : (s.size : Int) - 1 = (q : Int) := by omega
                by_cases hk1 : k + 1 = s.size
                · have HBAD := Lib.hid (HBX.out (by simp [hk1]))
                  obtain rfl : k = q := by omega
                  clear HBX HNX hk1 hq
                  go_wp2_with fail
                  refine HLX.out.mono ?_
                  rintro e w1 ⟨rfl, hw1⟩
                  obtain rfl : w = w1 := hw1.symm
                  clear hw1
                  go_wp2_with fail
                  go_ret
                  exact ⟨by rw [HBAD.out]; rfl, rfl⟩
                · have gk1 : ¬ (k : Int) = (q : Int) := by omega
                  obtain ⟨m, hm⟩ : ∃ m, k - 1 = m := ⟨_, rfl⟩
                  have hmk : (k : Int) - 1 = (m : Int) := by omega
                  have hms : m < s.size := by omega
                  rw [hm, data_getD s m hms] at HBX HNX
                  obtain ⟨y, hy⟩ : ∃ y, s[m] = y := ⟨_, rfl⟩
                  rw [hy] at HBX HNX
                  by_cases hy46 : y = 46
                  · have gy : (y.toNat : Int) = 46 := by rw [hy46]; rfl
                    have HBAD := Lib.hid (HBX.out (by rw [hy46]; simp))
                    clear hy46
                    go_wp2_with fail
                    refine HLX.out.mono ?_
                    rintro e w1 ⟨rfl, hw1⟩
                    obtain rfl : w = w1 := hw1.symm
                    clear hw1
                    go_wp2_with fail
                    go_ret
                    exact ⟨by rw [HBAD.out]; rfl, rfl⟩
                  · have gy : ¬ (y.toNat : Int) = 46 := fun e => hy46 (UInt8.toNat_inj.1 (by simpa using (by omega : y.toNat = 46)))
                    have HOK := Lib.hid (HNX.out (by
                      have e1 : Ad.nameByte 46 = true := rfl
                      rw [e1]
                      simp [hy46, hk0, hk1]))
                    clear hy46
                    have bk0 : ((k : Int) == 0) = false := by simpa using gk0
                    have bk1 : ((k : Int) == (q : Int)) = false := by simpa using gk1
                    have by46 : ((y.toNat : Int) == 46) = false := by simpa using gy
                    clear gk0 gk1 gy
                    go_wp2_with fail
                    refine HLX.out.mono ?_
                    rintro e w1 ⟨rfl, hw1⟩
                    obtain rfl : w = w1 := hw1.symm
                    clear hw1
                    go_wp2_with fail
                    go_roundw
                    case rel => exact ⟨trivial, k + 1, by go_num, by omega, HOK.out⟩
                    case measure => simp [intOf]; omega
            · have g46 : ¬ (x.toNat : Int) = 46 := fun e => h46 (UInt8.toNat_inj.1 (by simpa using (by omega : x.toNat = 46)))
              have HBAD := Lib.hid (HBX.out (by
                have e1 : Ad.nameByte x = false := by unfold Ad.nameByte; simp [hlet, h95, h45, h46]
                rw [e1]
                rfl))
              clear h46 h45 h95 hlet
              go_wp2_with fail
              refine HLX.out.mono ?_
              rintro e w1 ⟨rfl, hw1⟩
              obtain rfl : w = w1 := hw1.symm
              clear hw1
              go_wp2_with fail
              go_ret
              exact ⟨by rw [HBAD.out]; rfl, rfl⟩
    · obtain rfl : k = s.size := by omega
      have HEX := Lib.hid (HE.out hall)
      clear hall
      by_cases h1 : 1 ≤ s.size
      · have g1 : (1 : Int) ≤ (s.size : Int) := by omega
        go_wp2_with fail
        go_ret
        exact ⟨by rw [HEX.out, decide_eq_true h1]; rfl, rfl⟩
      · have g1 : ¬ (1 : Int) ≤ (s.size : Int) := by omega
        go_wp2_with fail
        go_ret
        exact ⟨by rw [HEX.out, decide_eq_false h1]; rfl, rfl⟩
end Go.Proofs.YtpcbbmafallogaaDoor
