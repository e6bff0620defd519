/-
  Contracts of the document's own letter, name, label, host. Condition: texts of at most 1000000 bytes.
  Contracts of the document's own label and host. Condition: texts of at most 1000000 bytes.
  Contracts of the document's own isMail, isPhone, Kind. Condition: texts of at most 1000000 bytes.
-/
import Derived.Test.YtfjdcopndkdbmaaGreatDoorAdb

namespace Go.Proofs.YtfjdcopndkdbmaaGreatDoor
open Go.RowKit

theorem letter_any (c : UInt8) (w : World) :
    Calls Tryz.prog 108 #[.int .u8 (c.toNat : Int)] w fun e w' => e = .returned (.bool (Ad.isLet c)) ∧ w' = w := by
  have hl := c.toNat_lt
  unfold Ad.isLet
  by_cases h1 : 97 ≤ c.toNat
  · have g1 : (97 : Int) ≤ (c.toNat : Int) := by omega
    have k1 : decide (97 ≤ c.toNat) = true := decide_eq_true h1
    have k3 : decide (48 ≤ c.toNat) = true := decide_eq_true (by omega)
    have k4 : decide (c.toNat ≤ 57) = false := decide_eq_false (by omega)
    rw [k1, k3, k4]
    by_cases h2 : c.toNat ≤ 122
    · have g2 : (c.toNat : Int) ≤ 122 := by omega
      rw [decide_eq_true h2]
      clear k1 k3 k4 h1 h2
      go_enter Tryz.func108, Tryz.ntmps108
      go_wp2_with fail
      go_ret
      exact ⟨rfl, rfl⟩
    · have g2 : ¬ (c.toNat : Int) ≤ 122 := by omega
      have g3 : (48 : Int) ≤ (c.toNat : Int) := by omega
      have g4 : ¬ (c.toNat : Int) ≤ 57 := by omega
      rw [decide_eq_false h2]
      clear k1 k3 k4 h1 h2
      go_enter Tryz.func108, Tryz.ntmps108
      go_wp2_with fail
      go_ret
      exact ⟨rfl, rfl⟩
  · have g1 : ¬ (97 : Int) ≤ (c.toNat : Int) := by omega
    rw [decide_eq_false h1]
    by_cases h3 : 48 ≤ c.toNat
    · have g3 : (48 : Int) ≤ (c.toNat : Int) := by omega
      rw [decide_eq_true h3]
      by_cases h4 : c.toNat ≤ 57
      · have g4 : (c.toNat : Int) ≤ 57 := by omega
        rw [decide_eq_true h4]
        clear h1 h3 h4
        go_enter Tryz.func108, Tryz.ntmps108
        go_wp2_with fail
        go_ret
        exact ⟨rfl, rfl⟩
      · have g4 : ¬ (c.toNat : Int) ≤ 57 := by omega
        rw [decide_eq_false h4]
        clear h1 h3 h4
        go_enter Tryz.func108, Tryz.ntmps108
        go_wp2_with fail
        go_ret
        exact ⟨rfl, rfl⟩
    · have g3 : ¬ (48 : Int) ≤ (c.toNat : Int) := by omega
      rw [decide_eq_false h3]
      clear h1 h3
      go_enter Tryz.func108, Tryz.ntmps108
      go_wp2_with fail
      go_ret
      exact ⟨rfl, rfl⟩

theorem range_all (f : Nat → Bool) (k : Nat) (h : (List.range k).all f = true) (hf : f k = true) : (List.range (k + 1)).all f = true := Ad.range_all_succ f k h hf
theorem nameAt_eq (s : ByteArray) (k : Nat) (hk : k < s.size) : Ad.nameAt s.data.toList k = (Ad.nameByte s[k] && (s[k] != 46 || (k != 0 && k + 1 != s.size && s.data.toList.getD (k - 1) 0 != 46))) := by
  unfold Ad.nameAt
  rw [data_getD s k hk, show s.data.toList.length = s.size by simp]
theorem labelAt_eq (s : ByteArray) (k : Nat) (hk : k < s.size) : Ad.labelAt s.data.toList k = (Ad.isLet s[k] || (s[k] == 45 && k != 0 && k + 1 != s.size)) := by
  unfold Ad.labelAt
  rw [data_getD s k hk, show s.data.toList.length = s.size by simp]

set_option maxRecDepth 100000 in
set_option maxHeartbeats 4000000 in
theorem rname_any (s : ByteArray) (hs : s.size ≤ 1000000) (w : World) :
    Calls Tryz.prog 91 #[.string s] w fun e w' => e = .returned (.bool (Ad.name s.data.toList)) ∧ w' = w := by
  have hl : s.data.toList.length = s.size := by simp
  obtain ⟨R, hR⟩ : ∃ R, Ad.name s.data.toList = R := ⟨_, rfl⟩
  have HF := Lib.hid (fun k (hk : k < s.size) (h : Ad.nameAt s.data.toList k = false) => hR.symm.trans (Ad.name_false (i := k) (by rw [hl]; exact hk) h))
  have HE := Lib.hid (fun (h : (List.range s.size).all (Ad.nameAt s.data.toList) = true) => hR.symm.trans (Ad.name_end (by rw [hl]; exact h)))
  rw [hl] at HE
  rw [hR]
  clear hR hl
  go_enter Tryz.func91, Tryz.ntmps91
  go_wp2_with fail
  go_loopw [3, 4, 5] (fun i _ _ wr => wr = w ∧ ∃ k : Nat, i = .int .i64 (k : Int) ∧ k ≤ s.size ∧ (List.range k).all (Ad.nameAt s.data.toList) = true) (fun i _ _ _ => s.size - (intOf i).toNat)
  case atStart => exact ⟨rfl, 0, rfl, by omega, rfl⟩
  case round =>
    obtain ⟨hwr, k, rfl, hk, hall⟩ := hrel
    obtain rfl : w = wr := hwr.symm
    clear hwr
    by_cases hlt : k < s.size
    · have hki : (k : Int) < (s.size : Int) := by omega
      have hat := nameAt_eq s k hlt
      have HBX := Lib.hid (HF.out k hlt)
      have HNX := Lib.hid (range_all _ k hall)
      rw [hat] at HBX HNX
      obtain ⟨x, hx⟩ : ∃ x, s[k] = x := ⟨_, rfl⟩
      rw [hx] at HBX HNX
      have hxl := x.toNat_lt
      have HLX := Lib.hid (letter_any x w)
      clear hat hall
      cases hlet : Ad.isLet x with
      | true =>
        have hnb : Ad.nameByte x = true := by unfold Ad.nameByte; rw [hlet]; rfl
        have h46 : (x == 46) = false := by
          cases he : (x == 46) with
          | false => rfl
          | true => rw [beq_iff_eq.1 he] at hlet; exact absurd hlet (by decide)
        have h46n : (x != 46) = true := by unfold bne; rw [h46]; rfl
        have g46 : ((x.toNat : Int) == 46) = false := (eq_int x 46 46 rfl).trans h46
        have g46n : ¬ (x.toNat : Int) = 46 := by simpa using g46
        rw [hlet] at HLX
        have HOK := Lib.hid (HNX.out (by rw [hnb, h46n]; rfl))
        clear hnb h46 h46n hlet
        go_wp2_with fail
        refine HLX.out.mono ?_
        rintro e w1 ⟨rfl, hw1⟩
        obtain rfl : w = w1 := hw1.symm
        clear hw1
        go_wp2_with fail
        go_roundw
        case rel => exact ⟨trivial, k + 1, by go_num, by omega, HOK.out⟩
        case measure => simp [intOf]; omega
      | false =>
        rw [hlet] at HLX
        by_cases h95 : x = 95
        · have g95 : (x.toNat : Int) = 95 := by rw [h95]; rfl
          rw [g95] at HLX
          have HOK := Lib.hid (HNX.out (by rw [h95]; rfl))
          clear h95 hlet
          go_wp2_with fail
          refine HLX.out.mono ?_
          rintro e w1 ⟨rfl, hw1⟩
          obtain rfl : w = w1 := hw1.symm
          clear hw1
          go_wp2_with fail
          go_roundw
          case rel => exact ⟨trivial, k + 1, by go_num, by omega, HOK.out⟩
          case measure => simp [intOf]; omega
        · have g95 : ¬ (x.toNat : Int) = 95 := fun e => h95 (UInt8.toNat_inj.1 (by simpa using (by omega : x.toNat = 95)))
          by_cases h45 : x = 45
          · have g45 : (x.toNat : Int) = 45 := by rw [h45]; rfl
            rw [g45] at HLX
            have HOK := Lib.hid (HNX.out (by rw [h45]; rfl))
            clear h45 h95 hlet
            go_wp2_with fail
            refine HLX.out.mono ?_
            rintro e w1 ⟨rfl, hw1⟩
            obtain rfl : w = w1 := hw1.symm
            clear hw1
            go_wp2_with fail
            go_roundw
            case rel => exact ⟨trivial, k + 1, by go_num, by omega, HOK.out⟩
            case measure => simp [intOf]; omega
          · have g45 : ¬ (x.toNat : Int) = 45 := fun e => h45 (UInt8.toNat_inj.1 (by simpa using (by omega : x.toNat = 45)))
            by_cases h46 : x = 46
            · have g46 : (x.toNat : Int) = 46 := by rw [h46]; rfl
              rw [g46] at HLX
              rw [h46] at HBX HNX
              clear h46 h45 h95 hlet
              by_cases hk0 : k = 0
              · have HBAD := Lib.hid (HBX.out (by simp [hk0]))
                obtain rfl : k = 0 := hk0
                have hki0 : (0 : Int) < (s.size : Int) := by omega
                clear HBX HNX hki
                go_wp2_with fail
                refine HLX.out.mono ?_
                rintro e w1 ⟨rfl, hw1⟩
                obtain rfl : w = w1 := hw1.symm
                clear hw1
                go_wp2_with fail
                go_ret
                exact ⟨by rw [HBAD.out]; rfl, rfl⟩
              · have gk0 : ¬ (k : Int) = 0 := by omega
                obtain ⟨q, hq⟩ : ∃ q, s.size - 1 = q := ⟨_, rfl⟩
                have hqi : (s.size : Int) - 1 = (q : Int) := by omega
                by_cases hk1 : k + 1 = s.size
                · have HBAD := Lib.hid (HBX.out (by simp [hk1]))
                  obtain rfl : k = q := by omega
                  clear HBX HNX hk1 hq
                  go_wp2_with fail
                  refine HLX.out.mono ?_
                  rintro e w1 ⟨rfl, hw1⟩
                  obtain rfl : w = w1 := hw1.symm
                  clear hw1
                  go_wp2_with fail
                  go_ret
                  exact ⟨by rw [HBAD.out]; rfl, rfl⟩
                · have gk1 : ¬ (k : Int) = (q : Int) := by omega
                  obtain ⟨m, hm⟩ : ∃ m, k - 1 = m := ⟨_, rfl⟩
                  have hmk : (k : Int) - 1 = (m : Int) := by omega
                  have hms : m < s.size := by omega
                  rw [hm, data_getD s m hms] at HBX HNX
                  obtain ⟨y, hy⟩ : ∃ y, s[m] = y := ⟨_, rfl⟩
                  rw [hy] at HBX HNX
                  by_cases hy46 : y = 46
                  · have gy : (y.toNat : Int) = 46 := by rw [hy46]; rfl
                    have HBAD := Lib.hid (HBX.out (by rw [hy46]; simp))
                    clear hy46
                    go_wp2_with fail
                    refine HLX.out.mono ?_
                    rintro e w1 ⟨rfl, hw1⟩
                    obtain rfl : w = w1 := hw1.symm
                    clear hw1
                    go_wp2_with fail
                    go_ret
                    exact ⟨by rw [HBAD.out]; rfl, rfl⟩
                  · have gy : ¬ (y.toNat : Int) = 46 := fun e => hy46 (UInt8.toNat_inj.1 (by simpa using (by omega : y.toNat = 46)))
                    have HOK := Lib.hid (HNX.out (by
                      have e1 : Ad.nameByte 46 = true := rfl
                      rw [e1]
                      simp [hy46, hk0, hk1]))
                    clear hy46
                    have bk0 : ((k : Int) == 0) = false := by simpa using gk0
                    have bk1 : ((k : Int) == (q : Int)) = false := by simpa using gk1
                    have by46 : ((y.toNat : Int) == 46) = false := by simpa using gy
                    clear gk0 gk1 gy
                    go_wp2_with fail
                    refine HLX.out.mono ?_
                    rintro e w1 ⟨rfl, hw1⟩
                    obtain rfl : w = w1 := hw1.symm
                    clear hw1
                    go_wp2_with fail
                    go_roundw
                    case rel => exact ⟨trivial, k + 1, by go_num, by omega, HOK.out⟩
                    case measure => simp [intOf]; omega
            · have g46 : ¬ (x.toNat : Int) = 46 := fun e => h46 (UInt8.toNat_inj.1 (by simpa using (by omega : x.toNat = 46)))
              have HBAD := Lib.hid (HBX.out (by
                have e1 : Ad.nameByte x = false := by unfold Ad.nameByte; simp [hlet, h95, h45, h46]
                rw [e1]
                rfl))
              clear h46 h45 h95 hlet
              go_wp2_with fail
              refine HLX.out.mono ?_
              rintro e w1 ⟨rfl, hw1⟩
              obtain rfl : w = w1 := hw1.symm
              clear hw1
              go_wp2_with fail
              go_ret
              exact ⟨by rw [HBAD.out]; rfl, rfl⟩
    · obtain rfl : k = s.size := by omega
      have HEX := Lib.hid (HE.out hall)
      clear hall
      by_cases h1 : 1 ≤ s.size
      · have g1 : (1 : Int) ≤ (s.size : Int) := by omega
        go_wp2_with fail
        go_ret
        exact ⟨by rw [HEX.out, decide_eq_true h1]; rfl, rfl⟩
      · have g1 : ¬ (1 : Int) ≤ (s.size : Int) := by omega
        go_wp2_with fail
        go_ret
        exact ⟨by rw [HEX.out, decide_eq_false h1]; rfl, rfl⟩
end Go.Proofs.YtfjdcopndkdbmaaGreatDoor

namespace Go.Proofs.YtfjdcopndkdbmaaGreatDoor
open Go.RowKit

set_option maxRecDepth 100000 in
set_option maxHeartbeats 4000000 in
theorem rlabel_any (s : ByteArray) (hs : s.size ≤ 1000000) (w : World) :
    Calls Tryz.prog 109 #[.string s] w fun e w' => e = .returned (.bool (Ad.label s.data.toList)) ∧ w' = w := by
  have hl : s.data.toList.length = s.size := by simp
  obtain ⟨R, hR⟩ : ∃ R, Ad.label s.data.toList = R := ⟨_, rfl⟩
  have HF := Lib.hid (fun k (hk : k < s.size) (h : Ad.labelAt s.data.toList k = false) => hR.symm.trans (Ad.label_false (i := k) (by rw [hl]; exact hk) h))
  have HE := Lib.hid (fun (h : (List.range s.size).all (Ad.labelAt s.data.toList) = true) => hR.symm.trans (Ad.label_end (by rw [hl]; exact h)))
  rw [hl] at HE
  rw [hR]
  clear hR hl
  go_enter Tryz.func109, Tryz.ntmps109
  go_wp2_with fail
  go_loopw [3, 4] (fun i _ wr => wr = w ∧ ∃ k : Nat, i = .int .i64 (k : Int) ∧ k ≤ s.size ∧ (List.range k).all (Ad.labelAt s.data.toList) = true) (fun i _ _ => s.size - (intOf i).toNat)
  case atStart => exact ⟨rfl, 0, rfl, by omega, rfl⟩
  case round =>
    obtain ⟨hwr, k, rfl, hk, hall⟩ := hrel
    obtain rfl : w = wr := hwr.symm
    clear hwr
    by_cases hlt : k < s.size
    · have hki : (k : Int) < (s.size : Int) := by omega
      have hat := labelAt_eq s k hlt
      have HBX := Lib.hid (HF.out k hlt)
      have HNX := Lib.hid (range_all _ k hall)
      rw [hat] at HBX HNX
      obtain ⟨x, hx⟩ : ∃ x, s[k] = x := ⟨_, rfl⟩
      rw [hx] at HBX HNX
      have hxl := x.toNat_lt
      have HLX := Lib.hid (letter_any x w)
      clear hat hall
      cases hlet : Ad.isLet x with
      | true =>
        rw [hlet] at HLX HNX
        have HOK := Lib.hid (HNX.out rfl)
        clear hlet
        go_wp2_with fail
        refine HLX.out.mono ?_
        rintro e w1 ⟨rfl, hw1⟩
        obtain rfl : w = w1 := hw1.symm
        clear hw1
        go_wp2_with fail
        go_roundw
        case rel => exact ⟨trivial, k + 1, by go_num, by omega, HOK.out⟩
        case measure => simp [intOf]; omega
      | false =>
        rw [hlet] at HLX HBX HNX
        by_cases h45 : x = 45
        · have g45 : (x.toNat : Int) = 45 := by rw [h45]; rfl
          rw [g45] at HLX
          rw [h45] at HBX HNX
          clear h45 hlet
          by_cases hk0 : k = 0
          · have HBAD := Lib.hid (HBX.out (by simp [hk0]))
            obtain rfl : k = 0 := hk0
            have hki0 : (0 : Int) < (s.size : Int) := by omega
            clear HBX HNX hki
            go_wp2_with fail
            refine HLX.out.mono ?_
            rintro e w1 ⟨rfl, hw1⟩
            obtain rfl : w = w1 := hw1.symm
            clear hw1
            go_wp2_with fail
            go_ret
            exact ⟨by rw [HBAD.out]; rfl, rfl⟩
          · obtain ⟨q, hq⟩ : ∃ q, s.size - 1 = q := ⟨_, rfl⟩
            have hqi : (s.size : Int) - 1 = (q : Int) := by omega
            have gk0 : ¬ (k : Int) = 0 := by omega
            have bk0 : ((k : Int) == 0) = false := by simpa using gk0
            clear gk0
            by_cases hk1 : k + 1 = s.size
            · have HBAD := Lib.hid (HBX.out (by simp [hk1]))
              obtain rfl : k = q := by omega
              clear HBX HNX hk1 hq
              go_wp2_with fail
              refine HLX.out.mono ?_
              rintro e w1 ⟨rfl, hw1⟩
              obtain rfl : w = w1 := hw1.symm
              clear hw1
              go_wp2_with fail
              go_ret
              exact ⟨by rw [HBAD.out]; rfl, rfl⟩
            · have gk1 : ¬ (k : Int) = (q : Int) := by omega
              have bk1 : ((k : Int) == (q : Int)) = false := by simpa using gk1
              have HOK := Lib.hid (HNX.out (by simp [hk0, hk1]))
              clear gk1
              go_wp2_with fail
              refine HLX.out.mono ?_
              rintro e w1 ⟨rfl, hw1⟩
              obtain rfl : w = w1 := hw1.symm
              clear hw1
              go_wp2_with fail
              go_roundw
              case rel => exact ⟨trivial, k + 1, by go_num, by omega, HOK.out⟩
              case measure => simp [intOf]; omega
        · have g45 : ¬ (x.toNat : Int) = 45 := fun e => h45 (UInt8.toNat_inj.1 (by simpa using (by omega : x.toNat = 45)))
          have HBAD := Lib.hid (HBX.out (by simp [h45]))
          clear h45 hlet
          go_wp2_with fail
          refine HLX.out.mono ?_
          rintro e w1 ⟨rfl, hw1⟩
          obtain rfl : w = w1 := hw1.symm
          clear hw1
          go_wp2_with fail
          go_ret
          exact ⟨by rw [HBAD.out]; rfl, rfl⟩
    · obtain rfl : k = s.size := by omega
      have HEX := Lib.hid (HE.out hall)
      clear hall
      by_cases h1 : 1 ≤ s.size
      · have g1 : (1 : Int) ≤ (s.size : Int) := by omega
        by_cases h20 : s.size ≤ 20
        · have g20 : (s.size : Int) ≤ 20 := by omega
          go_wp2_with fail
          go_ret
          exact ⟨by rw [HEX.out, decide_eq_true h1, decide_eq_true h20]; rfl, rfl⟩
        · have g20 : ¬ (s.size : Int) ≤ 20 := by omega
          go_wp2_with fail
          go_ret
          exact ⟨by rw [HEX.out, decide_eq_true h1, decide_eq_false h20]; rfl, rfl⟩
      · have g1 : ¬ (1 : Int) ≤ (s.size : Int) := by omega
        go_wp2_with fail
        go_ret
        exact ⟨by rw [HEX.out, decide_eq_false h1]; rfl, rfl⟩

/-- Where the loop of host stands. -/
def HostRel (L : List UInt8) (n frm i : Value) : Prop :=
  ∃ (k f : Nat) (done : List (List UInt8)), i = .int .i64 (k : Int) ∧ frm = .int .i64 (f : Int) ∧ n = .int .i64 (done.length : Int) ∧ done.all Ad.label = true ∧ done.length ≤ k ∧ f ≤ k ∧
    ((k ≤ L.length ∧ Ad.splits [] L = done ++ Ad.splits ((L.drop f).take (k - f)) (L.drop k)) ∨ (k = L.length + 1 ∧ Ad.splits [] L = done))
theorem host_mem {L : List UInt8} {done : List (List UInt8)} {p r : List UInt8} {rest : List (List UInt8)} (h : Ad.splits [] L = (done ++ [p]) ++ rest) (_hr : r = p) : p ∈ Ad.splits [] L := by
  rw [h]
  simp
set_option maxRecDepth 100000 in
set_option maxHeartbeats 4000000 in
theorem rhost_any (s : ByteArray) (hs : s.size ≤ 1000000) (w : World) :
    Calls Tryz.prog 92 #[.string s] w fun e w' => e = .returned (.bool (Ad.host s.data.toList)) ∧ w' = w := by
  obtain ⟨L, rfl⟩ : ∃ L, s = ba L := ⟨s.data.toList, (ba_back s).symm⟩
  rw [ba_list]
  have hl : L.length = (ba L).size := (ba_size L).symm
  obtain ⟨R, hR⟩ : ∃ R, Ad.host L = R := ⟨_, rfl⟩
  have HF := Lib.hid (fun p (h1 : p ∈ Ad.splits [] L) (h2 : Ad.label p = false) => hR.symm.trans (Ad.host_false h1 h2))
  have HE := Lib.hid (fun done (h1 : Ad.splits [] L = done) (h2 : done.all Ad.label = true) => hR.symm.trans (Ad.host_end h1 h2))
  rw [hR]
  clear hR
  obtain ⟨S, hS⟩ : ∃ S, ba L = S := ⟨_, rfl⟩
  have HR := Lib.hid (fun a b h1 h2 W => run_sub L a b h1 h2 W)
  rw [hS] at hl hs HR ⊢
  have HS := Lib.hid hS
  clear hS
  go_enter Tryz.func92, Tryz.ntmps92
  go_wp2_with fail
  go_loopw [3, 4, 5, 6] (fun n frm i _ wr => wr = w ∧ HostRel L n frm i) (fun _ _ i _ _ => S.size + 2 - (intOf i).toNat)
  case atStart => exact ⟨rfl, 0, 0, [], rfl, rfl, rfl, rfl, by simp, by omega, .inl ⟨by omega, by simp⟩⟩
  case round =>
    obtain ⟨hwr, k, f, done, rfl, rfl, rfl, hall, hdk, hfk, hcase⟩ := hrel
    obtain rfl : w = wr := hwr.symm
    have hdk2 : done.length ≤ 1000002 := by rcases hcase with h | h <;> omega
    have hnw : (done.length : Int) ≤ 1000002 := by omega
    clear hwr
    rcases hcase with ⟨hkl, hsp⟩ | ⟨hkl, hsp⟩
    · have hki : (k : Int) ≤ (S.size : Int) := by omega
      have hfrom := Ad.splits_from L done f k hfk hkl hsp
      by_cases hlt : k < S.size
      · have hki2 : (k : Int) < (S.size : Int) := by omega
        have hkL : k < L.length := by omega
        have hxk : S[k] = L[k] := by have h1 := HS.out; subst h1; rfl
        obtain ⟨x, hx⟩ : ∃ x, S[k] = x := ⟨_, rfl⟩
        have hLx : L[k] = x := by rw [← hxk, hx]
        by_cases h46 : x = 46
        · have g46 : (x.toNat : Int) = 46 := by rw [h46]; rfl
          have hn2 := hfrom.2.1 hkL (by rw [hLx, h46])
          obtain ⟨p, hp⟩ : ∃ p, (L.drop f).take (k - f) = p := ⟨_, rfl⟩
          have hsl := HR.out f k hfk (by omega)
          rw [hp] at hn2 hsl
          have hpz : p.length ≤ 1000000 := by rw [← hp, List.length_take, List.length_drop]; omega
          have HL := Lib.hid (rlabel_any (ba p) (by rw [ba_size]; exact hpz) w)
          rw [ba_list] at HL
          generalize ba p = P at hsl HL
          have HMEM := Lib.hid (HF.out p (host_mem hn2 rfl))
          have HN2 := Lib.hid hn2
          have HALL := Lib.hid hall
          clear hfrom hsp hall hn2 hp hpz hxk hLx h46
          go_wp2_with fail
          refine HL.out.mono ?_
          rintro e w1 ⟨rfl, hw1⟩
          obtain rfl : w = w1 := hw1.symm
          clear hw1
          cases hb : Ad.label p with
          | false =>
            have HX := Lib.hid (HMEM.out hb)
            clear hb
            go_wp2_with fail
            go_ret
            exact ⟨by rw [HX.out]; rfl, rfl⟩
          | true =>
            have HA2 : Hid ((done ++ [p]).all Ad.label = true) := Lib.hid (by rw [List.all_append, HALL.out]; simp [hb])
            clear hb
            go_wp2_with fail
            go_roundw
            case rel => exact ⟨trivial, k + 1, k + 1, done ++ [p], by go_num, by go_num, by rw [List.length_append]; go_num, HA2.out, by rw [List.length_append]; simp; omega, by omega, .inl ⟨by omega, HN2.out⟩⟩
            case measure => simp [intOf] <;> omega
        · have g46 : ¬ (x.toNat : Int) = 46 := fun e => h46 (UInt8.toNat_inj.1 (by simpa using (by omega : x.toNat = 46)))
          have hn2 := Lib.hid (hfrom.1 hkL (by rw [hLx]; exact h46))
          have HALL := Lib.hid hall
          clear h46 hfrom hsp hall hxk hLx
          go_wp2_with fail
          go_roundw
          case rel => exact ⟨trivial, k + 1, f, done, by go_num, rfl, rfl, HALL.out, by omega, by omega, .inl ⟨by omega, hn2.out⟩⟩
          case measure => simp [intOf]; omega
      · obtain rfl : k = S.size := by omega
        have hn2 : Ad.splits [] L = (done ++ [(L.drop f).take (S.size - f)]) ++ [] := by
          rw [List.append_nil]
          exact hfrom.2.2 (by omega)
        obtain ⟨p, hp⟩ : ∃ p, (L.drop f).take (S.size - f) = p := ⟨_, rfl⟩
        have hsl := HR.out f S.size hfk (by omega)
        rw [hp] at hn2 hsl
        have hpz : p.length ≤ 1000000 := by rw [← hp, List.length_take, List.length_drop]; omega
        have HL := Lib.hid (rlabel_any (ba p) (by rw [ba_size]; exact hpz) w)
        rw [ba_list] at HL
        generalize ba p = P at hsl HL
        have HMEM := Lib.hid (HF.out p (host_mem hn2 rfl))
        have HN2 := Lib.hid hn2
        have HALL := Lib.hid hall
        clear hfrom hsp hall hn2 hp hpz
        go_wp2_with fail
        refine HL.out.mono ?_
        rintro e w1 ⟨rfl, hw1⟩
        obtain rfl : w = w1 := hw1.symm
        clear hw1
        cases hb : Ad.label p with
        | false =>
          have HX := Lib.hid (HMEM.out hb)
          clear hb
          go_wp2_with fail
          go_ret
          exact ⟨by rw [HX.out]; rfl, rfl⟩
        | true =>
          have HA2 : Hid ((done ++ [p]).all Ad.label = true) := Lib.hid (by rw [List.all_append, HALL.out]; simp [hb])
          clear hb
          go_wp2_with fail
          go_roundw
          case rel => exact ⟨trivial, S.size + 1, S.size + 1, done ++ [p], by go_num, by go_num, by rw [List.length_append]; go_num, HA2.out, by rw [List.length_append]; simp; omega, by omega, .inr ⟨by omega, by have := HN2.out; rwa [List.append_nil] at this⟩⟩
          case measure => simp [intOf] <;> omega
    · obtain rfl : k = S.size + 1 := by omega
      have hki : ¬ ((S.size + 1 : Nat) : Int) ≤ (S.size : Int) := by omega
      obtain ⟨m, hm⟩ : ∃ m, S.size + 1 = m := ⟨_, rfl⟩
      rw [hm] at hki ⊢
      have HEX := Lib.hid (HE.out done hsp hall)
      obtain ⟨d, hd⟩ : ∃ d, done.length = d := ⟨_, rfl⟩
      rw [hd] at HEX hnw hdk2 ⊢
      clear hsp hall hd
      by_cases h2 : 2 ≤ d
      · have g2 : (2 : Int) ≤ (d : Int) := by omega
        go_wp2_with fail
        go_ret
        exact ⟨by rw [HEX.out, decide_eq_true h2]; rfl, rfl⟩
      · have g2 : ¬ (2 : Int) ≤ (d : Int) := by omega
        go_wp2_with fail
        go_ret
        exact ⟨by rw [HEX.out, decide_eq_false h2]; rfl, rfl⟩
end Go.Proofs.YtfjdcopndkdbmaaGreatDoor

namespace Go.Proofs.YtfjdcopndkdbmaaGreatDoor
open Go.RowKit

theorem bef_at {l : List UInt8} {c : UInt8} {k : Nat} (h : ∀ x ∈ l.take k, x ≠ c) (hk : k < l.length) (hx : l[k] = c) : Ad.bef l c = l.take k ∧ Ad.aft l c = l.drop (k + 1) := by
  have hl : l = l.take k ++ c :: l.drop (k + 1) := by
    conv => lhs; rw [← List.take_append_drop k l, List.drop_eq_getElem_cons hk, hx]
  have e : Ad.bef l c = l.take k := by
    unfold Ad.bef
    conv => lhs; rw [hl]
    exact Ad.takeWhile_to _ _ c _ (fun x hx => by simpa using h x hx) (by simp)
  refine ⟨e, ?_⟩
  unfold Ad.aft
  rw [e, List.length_take, Nat.min_eq_left (by omega)]
set_option maxRecDepth 100000 in
set_option maxHeartbeats 4000000 in
theorem rismail_any (s : ByteArray) (hs : s.size ≤ 1000000) (w : World) :
    Calls Tryz.prog 80 #[.string s] w fun e w' => e = .returned (.bool (Ad.mailOk s.data.toList)) ∧ w' = w := by
  obtain ⟨L, rfl⟩ : ∃ L, s = ba L := ⟨s.data.toList, (ba_back s).symm⟩
  rw [ba_list]
  have hl : L.length = (ba L).size := (ba_size L).symm
  have hm := Ad.mailOk_eq L
  have HNO : Hid (L.contains 64 = false → Ad.mailOk L = false) := Lib.hid (fun h => by rw [hm, Ad.aft_none h, Ad.host_nil, Bool.and_false])
  have HYES := Lib.hid hm
  generalize Ad.mailOk L = R at HNO HYES ⊢
  have HT := Lib.hid (fun n h W => run_to L n h W)
  have HO := Lib.hid (fun n h W => run_onw L n h W)
  obtain ⟨S, hS⟩ : ∃ S, ba L = S := ⟨_, rfl⟩
  rw [hS] at hl hs HT HO ⊢
  have HBY := Lib.hid (fun k (h : k < S.size) (h2 : k < L.length) => (by subst hS; rfl : S[k] = L[k]))
  clear hS hm
  go_enter Tryz.func80, Tryz.ntmps80
  go_wp2_with fail
  go_loopw [3, 4, 5] (fun i _ _ wr => wr = w ∧ ∃ k : Nat, i = .int .i64 (k : Int) ∧ k ≤ S.size ∧ ∀ x ∈ L.take k, x ≠ 64) (fun i _ _ _ => S.size - (intOf i).toNat)
  case atStart => exact ⟨rfl, 0, rfl, by omega, by simp⟩
  case round =>
    obtain ⟨hwr, k, rfl, hk, hall⟩ := hrel
    obtain rfl : w = wr := hwr.symm
    clear hwr
    by_cases hlt : k < S.size
    · have hki : (k : Int) < (S.size : Int) := by omega
      have hkL : k < L.length := by omega
      have hb := HBY.out k hlt hkL
      obtain ⟨x, hx⟩ : ∃ x, S[k] = x := ⟨_, rfl⟩
      rw [hx] at hb
      by_cases h64 : x = 64
      · have g64 : (x.toNat : Int) = 64 := by rw [h64]; rfl
        obtain ⟨e1, e2⟩ := bef_at hall hkL (by rw [← hb, h64])
        have hY := HYES.out
        rw [e1, e2] at hY
        have ht := HT.out k (by omega)
        have ho := HO.out (k + 1) (by omega)
        have hcast : ((k + 1 : Nat) : Int) = (k : Int) + 1 := by omega
        rw [hcast] at ho
        have hz1 : (ba (L.take k)).size ≤ 1000000 := by rw [ba_size, List.length_take]; omega
        have hz2 : (ba (L.drop (k + 1))).size ≤ 1000000 := by rw [ba_size, List.length_drop]; omega
        have HN := Lib.hid (rname_any (ba (L.take k)) hz1 w)
        have HH := Lib.hid (rhost_any (ba (L.drop (k + 1))) hz2 w)
        rw [ba_list] at HN HH
        generalize Ad.name (L.take k) = r1 at HN hY
        generalize Ad.host (L.drop (k + 1)) = r2 at HH hY
        generalize ba (L.take k) = P1 at ht HN
        generalize ba (L.drop (k + 1)) = P2 at ho HH
        have HY2 := Lib.hid hY
        clear hY e1 e2 hb h64 hall hz1 hz2 hcast
        go_wp2_with fail
        refine HN.out.mono ?_
        rintro e w1 ⟨rfl, hw1⟩
        obtain rfl : w = w1 := hw1.symm
        clear hw1
        go_wp2_with fail
        refine HH.out.mono ?_
        rintro e w1 ⟨rfl, hw1⟩
        obtain rfl : w = w1 := hw1.symm
        clear hw1
        cases r1 with
        | false =>
          go_wp2_with fail
          go_ret
          exact ⟨by rw [HY2.out]; simp, rfl⟩
        | true =>
          cases r2 with
          | false =>
            go_wp2_with fail
            go_ret
            exact ⟨by rw [HY2.out]; simp, rfl⟩
          | true =>
            by_cases h40 : S.size ≤ 40
            · have g40 : (S.size : Int) ≤ 40 := by omega
              have hd : decide (L.length ≤ 40) = true := decide_eq_true (by omega)
              go_wp2_with fail
              go_ret
              exact ⟨by rw [HY2.out, hd]; rfl, rfl⟩
            · have g40 : ¬ (S.size : Int) ≤ 40 := by omega
              have hd : decide (L.length ≤ 40) = false := decide_eq_false (by omega)
              have hdi : decide ((S.size : Int) ≤ 40) = false := decide_eq_false g40
              go_wp2_with fail
              go_ret
              exact ⟨by rw [HY2.out, hd]; rfl, rfl⟩
      · have g64 : ¬ (x.toNat : Int) = 64 := fun e => h64 (UInt8.toNat_inj.1 (by simpa using (by omega : x.toNat = 64)))
        have HA := Lib.hid (take_ne_succ hall hkL (by rw [← hb]; exact h64))
        clear hall hb h64
        go_wp2_with fail
        go_roundw
        case rel => exact ⟨trivial, k + 1, by go_num, by omega, HA.out⟩
        case measure => simp [intOf]; omega
    · obtain rfl : k = S.size := by omega
      rw [List.take_of_length_le (by omega)] at hall
      have HX := Lib.hid (HNO.out (none_in hall))
      clear hall
      go_wp2_with fail
      go_ret
      exact ⟨by rw [HX.out]; rfl, rfl⟩

theorem digit_iff (x : UInt8) : Ad.digit x = true ↔ 48 ≤ x.toNat ∧ x.toNat ≤ 57 := by
  unfold Ad.digit
  simp
theorem phone_bad {L : List UInt8} {k : Nat} (hk : 1 ≤ k) (hkL : k < L.length) (h : Ad.digit L[k] = false) : Ad.phoneOk L = false := by
  unfold Ad.phoneOk
  have : (L.drop 1).all Ad.digit = false := by
    rw [List.all_eq_false]
    refine ⟨L[k], ?_, by rw [h]; decide⟩
    have : (L.drop 1)[k - 1]? = some L[k] := by
      rw [List.getElem?_drop, show 1 + (k - 1) = k by omega, List.getElem?_eq_getElem hkL]
    exact List.mem_of_getElem? this
  rw [this, Bool.and_false]
set_option maxRecDepth 100000 in
set_option maxHeartbeats 4000000 in
theorem risphone_any (s : ByteArray) (hs : s.size ≤ 1000000) (w : World) :
    Calls Tryz.prog 81 #[.string s] w fun e w' => e = .returned (.bool (Ad.phoneOk s.data.toList)) ∧ w' = w := by
  obtain ⟨L, rfl⟩ : ∃ L, s = ba L := ⟨s.data.toList, (ba_back s).symm⟩
  rw [ba_list]
  have hl : L.length = (ba L).size := (ba_size L).symm
  have HBAD := Lib.hid (fun k h1 h2 h3 => @phone_bad L k h1 h2 h3)
  have HDEF : Hid (Ad.phoneOk L = (decide (9 ≤ L.length) && decide (L.length ≤ 16) && L.getD 0 0 == 43 && L.getD 1 0 != 48 && (L.drop 1).all Ad.digit)) := Lib.hid rfl
  generalize Ad.phoneOk L = R at HBAD HDEF ⊢
  obtain ⟨S, hS⟩ : ∃ S, ba L = S := ⟨_, rfl⟩
  rw [hS] at hl hs ⊢
  have HBY := Lib.hid (fun k (h : k < S.size) (h2 : k < L.length) => (by subst hS; rfl : S[k] = L[k]))
  clear hS
  by_cases h9 : 9 ≤ S.size
  · have g9 : ¬ (S.size : Int) < 9 := by omega
    by_cases h16 : S.size ≤ 16
    · have g16 : ¬ (S.size : Int) > 16 := by omega
      obtain ⟨x, hx⟩ : ∃ x, S[0] = x := ⟨_, rfl⟩
      obtain ⟨y, hy⟩ : ∃ y, S[1] = y := ⟨_, rfl⟩
      have e0 : L.getD 0 0 = x := by rw [List.getD_eq_getElem?_getD, List.getElem?_eq_getElem (by omega), ← HBY.out 0 (by omega) (by omega), hx]; rfl
      have e1 : L.getD 1 0 = y := by rw [List.getD_eq_getElem?_getD, List.getElem?_eq_getElem (by omega), ← HBY.out 1 (by omega) (by omega), hy]; rfl
      have hD := HDEF.out
      rw [e0, e1, decide_eq_true (by omega), decide_eq_true (by omega)] at hD
      have hx2 := ne_int x 43 43 rfl
      have hy2 := eq_int y 48 48 rfl
      have hxe : (x == 43) = !(x != 43) := by unfold bne; simp
      have hye : (y != 48) = !(y == 48) := rfl
      rw [hxe, hye] at hD
      generalize (x != 43) = b1 at hx2 hD
      generalize (y == 48) = b2 at hy2 hD
      have HD := Lib.hid hD
      clear hD hxe hye e0 e1
      cases b1 with
      | true =>
        go_enter Tryz.func81, Tryz.ntmps81
        go_wp2_with fail
        go_ret
        exact ⟨by rw [HD.out]; rfl, rfl⟩
      | false =>
        cases b2 with
        | true =>
          go_enter Tryz.func81, Tryz.ntmps81
          go_wp2_with fail
          go_ret
          exact ⟨by rw [HD.out]; rfl, rfl⟩
        | false =>
          go_enter Tryz.func81, Tryz.ntmps81
          go_wp2_with fail
          go_loopw [3] (fun i wr => wr = w ∧ ∃ k : Nat, i = .int .i64 (k : Int) ∧ 1 ≤ k ∧ k ≤ S.size ∧ ((L.drop 1).take (k - 1)).all Ad.digit = true) (fun i _ => S.size - (intOf i).toNat)
          case atStart => exact ⟨rfl, 1, rfl, by omega, by omega, rfl⟩
          case round =>
            obtain ⟨hwr, k, rfl, hk1, hk, hall⟩ := hrel
            obtain rfl : w = wr := hwr.symm
            clear hwr
            by_cases hlt : k < S.size
            · have hki : (k : Int) < (S.size : Int) := by omega
              have hkL : k < L.length := by omega
              have hb := HBY.out k hlt hkL
              obtain ⟨z, hz⟩ : ∃ z, S[k] = z := ⟨_, rfl⟩
              rw [hz] at hb
              have hzl := z.toNat_lt
              have HBK := Lib.hid (fun h => HBAD.out k hk1 hkL h)
              rw [← hb] at HBK
              have hk2 : k - 1 < (L.drop 1).length := by rw [List.length_drop]; omega
              have hgz : (L.drop 1)[k - 1]'hk2 = z := by
                rw [List.getElem_drop, hb]
                congr 1
                omega
              have HALL := Lib.hid (all_take_more Ad.digit (L.drop 1) (k - 1) hk2)
              rw [hgz, show k - 1 + 1 = k by omega, hall] at HALL
              clear hgz hk2 hall hb
              by_cases h48 : 48 ≤ z.toNat
              · have g48 : ¬ (z.toNat : Int) < 48 := by omega
                by_cases h57 : z.toNat ≤ 57
                · have g57 : ¬ (z.toNat : Int) > 57 := by omega
                  have HOK : Hid (((L.drop 1).take (k + 1 - 1)).all Ad.digit = true) := Lib.hid (by rw [show k + 1 - 1 = k by omega, HALL.out, (digit_iff z).2 ⟨h48, h57⟩]; rfl)
                  clear h48 h57
                  go_wp2_with fail
                  go_roundw
                  case rel => exact ⟨trivial, k + 1, by go_num, by omega, by omega, HOK.out⟩
                  case measure => simp [intOf]; omega
                · have g57 : (z.toNat : Int) > 57 := by omega
                  have HX := Lib.hid (HBK.out (by cases hd : Ad.digit z with
                    | false => rfl
                    | true => exact absurd ((digit_iff z).1 hd).2 h57))
                  clear h48 h57
                  go_wp2_with fail
                  go_ret
                  exact ⟨by rw [HX.out]; rfl, rfl⟩
              · have g48 : (z.toNat : Int) < 48 := by omega
                have HX := Lib.hid (HBK.out (by cases hd : Ad.digit z with
                  | false => rfl
                  | true => exact absurd ((digit_iff z).1 hd).1 h48))
                clear h48
                go_wp2_with fail
                go_ret
                exact ⟨by rw [HX.out]; rfl, rfl⟩
            · obtain rfl : k = S.size := by omega
              rw [List.take_of_length_le (by rw [List.length_drop]; omega)] at hall
              have HX := Lib.hid HD.out
              rw [hall] at HX
              clear hall
              go_wp2_with fail
              go_ret
              exact ⟨by rw [HX.out]; rfl, rfl⟩
    · have g16 : (S.size : Int) > 16 := by omega
      have HX := Lib.hid HDEF.out
      rw [decide_eq_false (p := L.length ≤ 16) (by omega)] at HX
      go_enter Tryz.func81, Tryz.ntmps81
      go_wp2_with fail
      go_ret
      exact ⟨by rw [HX.out]; simp, rfl⟩
  · have g9 : (S.size : Int) < 9 := by omega
    have HX := Lib.hid HDEF.out
    rw [decide_eq_false (p := 9 ≤ L.length) (by omega)] at HX
    go_enter Tryz.func81, Tryz.ntmps81
    go_wp2_with fail
    go_ret
    exact ⟨by rw [HX.out]; simp, rfl⟩
theorem rkind_any (s : ByteArray) (hs : s.size ≤ 1000000) (w : World) :
    Calls Tryz.prog 66 #[.string s] w fun e w' => e = .returned (.int .i64 (Ad.kind s.data.toList : Int)) ∧ w' = w := by
  unfold Ad.kind
  have HT := Lib.hid (rismail_any s hs w)
  have HP := Lib.hid (risphone_any s hs w)
  generalize Ad.mailOk s.data.toList = b at HT ⊢
  generalize Ad.phoneOk s.data.toList = b2 at HP ⊢
  go_enter Tryz.func66, Tryz.ntmps66
  go_wp2_with fail
  refine HT.out.mono ?_
  rintro e w1 ⟨rfl, hw1⟩
  obtain rfl : w = w1 := hw1.symm
  clear hw1
  go_wp2_with fail
  refine HP.out.mono ?_
  rintro e w1 ⟨rfl, hw1⟩
  obtain rfl : w = w1 := hw1.symm
  clear hw1
  cases b with
  | false =>
    cases b2 with
    | false =>
      go_wp2_with fail
      go_ret
      exact ⟨rfl, rfl⟩
    | true =>
      go_wp2_with fail
      go_ret
      exact ⟨rfl, rfl⟩
  | true =>
    go_wp2_with fail
    go_ret
    exact ⟨rfl, rfl⟩
end Go.Proofs.YtfjdcopndkdbmaaGreatDoor
