/-
  Proves the statement of AddressMasks: for every two rows of integers and every number the law returns true (a mask tells of a name, or a number, but a byte, or two digits), and its arguments read as they did. Condition: the package-level tables first and acceptRanges of the library hold what their texts lay (they are read by no call of this law's).
-/
import Derived.Test.YtpcbbmafallogaaDoorAdK
import Derived.Test.YtpcbbmafallogaaDoorAdS
import Derived.Test.YtpcbbmafallogaaDoorCards
import Derived.Test.YtpcbbmafallogaaDoorTie
namespace Go.Proofs.YtpcbbmafallogaaDoor.addressMasks
open Go.ChangeShapes Go.WideShapes Go.ChangeAt Go.RowKit
open Go.ChangeMaps (open_string shut_string)

/-- A letter of the law's row of letters. -/
def letL : List UInt8 := [97, 98, 99, 100, 101, 102, 103, 104, 105, 106, 107, 108, 109, 110, 111, 112]
theorem let_piece : ∀ m, m < 16 → ∃ c, (letL.drop m).take (m + 1 - m) = [c] ∧ Ad.az c = true := by
  have : ∀ m : Fin 16, ((letL.drop m.1).take (m.1 + 1 - m.1)) = [UInt8.ofNat (97 + m.1)] ∧ Ad.az (UInt8.ofNat (97 + m.1)) = true := by decide +kernel
  intro m hm
  exact ⟨_, this ⟨m, hm⟩⟩
def digL : List UInt8 := [48, 49, 50, 51, 52, 53, 54, 55, 56, 57]
theorem dig_piece : ∀ m, m < 10 → ∃ c, (digL.drop m).take (m + 1 - m) = [c] ∧ Ad.digit c = true := by
  have : ∀ m : Fin 10, ((digL.drop m.1).take (m.1 + 1 - m.1)) = [UInt8.ofNat (48 + m.1)] ∧ Ad.digit (UInt8.ofNat (48 + m.1)) = true := by decide +kernel
  intro m hm
  exact ⟨_, this ⟨m, hm⟩⟩
theorem run_piece (T : List UInt8) (m : Nat) (h : m + 1 ≤ T.length) (W : World) : (Instr.slice 9 (.string (ba T)) (some (.int .i64 (m : Int))) (some (.int .i64 ((m : Int) + 1))) none).run Tryd.prog W = .ok (.string (ba ((T.drop m).take (m + 1 - m)))) W := by
  have h2 := run_mid (ba T) m (by rw [ba_size]; exact h) W
  rw [h2]
  have h3 := Lib.extract_eq (ba T) m (m + 1)
  rw [ba_list] at h3
  rw [h3]
  rfl
theorem mask_name (r : List UInt8) (hr : ∀ c ∈ r, Ad.az c = true) (hl : r.length ≤ 10) : Ad.mask (120 :: r ++ [64, 104, 46, 111, 114, 103]) = [120, 42, 42, 42, 64, 104, 46, 111, 114, 103] := by
  have hn : Ad.name (120 :: r) = true := Ad.name_az _ (fun c hc => by
    rcases List.mem_cons.1 hc with rfl | hc
    · rfl
    · exact hr c hc) (by simp)
  have hh : Ad.host [104, 46, 111, 114, 103] = true := by decide +kernel
  have hok := Ad.mailOk_of hn hh (by simp; omega)
  have e := Ad.mask_mail hok
  have hno := Ad.name_no hn
  have e1 : Ad.bef (120 :: r ++ 64 :: [104, 46, 111, 114, 103]) 64 = 120 :: r := Ad.nm_of _ _ hno
  have e2 : Ad.aft (120 :: r ++ 64 :: [104, 46, 111, 114, 103]) 64 = [104, 46, 111, 114, 103] := Ad.hs_of _ _ hno
  rw [e1, e2] at e
  exact e
theorem not_at (c : UInt8) (h : Ad.digit c = true) : c ≠ 64 := by
  rintro rfl
  exact absurd h (by decide)
theorem mask_good (p q : UInt8) (hp : Ad.digit p = true) (hq : Ad.digit q = true) : Ad.mask ([43, 52, 57, 49, 50, 51, 52, 53] ++ [p, q]) = [43, 42, 42, 42] ++ [p, q] := by
  have h1 : Ad.phoneOk ([43, 52, 57, 49, 50, 51, 52, 53] ++ [p, q]) = true := by
    have hd : ([52, 57, 49, 50, 51, 52, 53] : List UInt8).all Ad.digit = true := by decide
    unfold Ad.phoneOk
    show (([52, 57, 49, 50, 51, 52, 53] : List UInt8) ++ [p, q]).all Ad.digit = true
    rw [List.all_append, hd]
    simp [hp, hq]
  have h2 : Ad.mailOk ([43, 52, 57, 49, 50, 51, 52, 53] ++ [p, q]) = false := by
    cases h : Ad.mailOk ([43, 52, 57, 49, 50, 51, 52, 53] ++ [p, q]) with
    | false => rfl
    | true => rw [Ad.not_both _ h] at h1; cases h1
  unfold Ad.mask
  rw [if_neg (by rw [h2]; decide), if_pos h1]
  rfl
theorem mask_bad (p q : UInt8) (hp : Ad.digit p = true) (hq : Ad.digit q = true) : Ad.mask ([43, 48, 57, 49, 50, 51, 52, 53] ++ [p, q]) = [42, 42, 42] := by
  have h1 : Ad.phoneOk ([43, 48, 57, 49, 50, 51, 52, 53] ++ [p, q]) = false := by
    unfold Ad.phoneOk
    simp
  have h2 : Ad.mailOk ([43, 48, 57, 49, 50, 51, 52, 53] ++ [p, q]) = false := by
    have hc : ([43, 48, 57, 49, 50, 51, 52, 53] ++ [p, q] : List UInt8).contains 64 = false := none_in (fun x hx => by
      simp only [List.cons_append, List.nil_append, List.mem_cons, List.mem_nil_iff, or_false] at hx
      rcases hx with rfl | rfl | rfl | rfl | rfl | rfl | rfl | rfl | rfl | rfl
      all_goals first | decide | exact not_at _ ‹_›)
    unfold Ad.mailOk
    rw [hc]
    rfl
  unfold Ad.mask
  rw [if_neg (by rw [h2]; decide), if_neg (by rw [h1]; decide)]
theorem mask_text (V : ByteArray) (r : List UInt8) (hV : ba (120 :: r) = V) (hr : ∀ c ∈ r, Ad.az c = true) (hl : r.length ≤ 10) (W : World) (hm : MaxIs W) :
    Calls Tryd.prog 14 #[.string (V ++ ⟨#[64, 104, 46, 111, 114, 103]⟩)] W fun e w' => e = .returned (.string ⟨#[120, 42, 42, 42, 64, 104, 46, 111, 114, 103]⟩) ∧ Below W.heap.size W w' := by
  subst hV
  have e1 : ba (120 :: r) ++ (⟨#[64, 104, 46, 111, 114, 103]⟩ : ByteArray) = ba (120 :: r ++ [64, 104, 46, 111, 114, 103]) := ba_append (120 :: r) [64, 104, 46, 111, 114, 103]
  have h := mask_any (ba (120 :: r ++ [64, 104, 46, 111, 114, 103])) (by rw [ba_size]; simp; omega) W hm
  rw [ba_list, mask_name r hr hl] at h
  rw [e1]
  exact h
theorem mask_yes (p q : UInt8) (hp : Ad.digit p = true) (hq : Ad.digit q = true) (E : ByteArray) (hE : ba [p, q] = E) (W : World) (hm : MaxIs W) :
    Calls Tryd.prog 14 #[.string (⟨#[43, 52, 57, 49, 50, 51, 52, 53]⟩ ++ E)] W fun e w' => e = .returned (.string (⟨#[43, 42, 42, 42]⟩ ++ E)) ∧ Below W.heap.size W w' := by
  subst hE
  have e1 : (⟨#[43, 52, 57, 49, 50, 51, 52, 53]⟩ : ByteArray) ++ ba [p, q] = ba ([43, 52, 57, 49, 50, 51, 52, 53] ++ [p, q]) := ba_append [43, 52, 57, 49, 50, 51, 52, 53] [p, q]
  have e2 : (⟨#[43, 42, 42, 42]⟩ : ByteArray) ++ ba [p, q] = ba ([43, 42, 42, 42] ++ [p, q]) := ba_append [43, 42, 42, 42] [p, q]
  have h := mask_any (ba ([43, 52, 57, 49, 50, 51, 52, 53] ++ [p, q])) (by rw [ba_size]; simp) W hm
  rw [ba_list, mask_good p q hp hq] at h
  rw [e1, e2]
  exact h
theorem mask_no (p q : UInt8) (hp : Ad.digit p = true) (hq : Ad.digit q = true) (E : ByteArray) (hE : ba [p, q] = E) (W : World) (hm : MaxIs W) :
    Calls Tryd.prog 14 #[.string (⟨#[43, 48, 57, 49, 50, 51, 52, 53]⟩ ++ E)] W fun e w' => e = .returned (.string ⟨#[42, 42, 42]⟩) ∧ Below W.heap.size W w' := by
  subst hE
  have e1 : (⟨#[43, 48, 57, 49, 50, 51, 52, 53]⟩ : ByteArray) ++ ba [p, q] = ba ([43, 48, 57, 49, 50, 51, 52, 53] ++ [p, q]) := ba_append [43, 48, 57, 49, 50, 51, 52, 53] [p, q]
  have h := mask_any (ba ([43, 48, 57, 49, 50, 51, 52, 53] ++ [p, q])) (by rw [ba_size]; simp) W hm
  rw [ba_list, mask_bad p q hp hq] at h
  rw [e1]
  exact h
set_option maxRecDepth 100000 in
set_option maxHeartbeats 8000000 in
theorem walk (A0 : Option Addr) (c0 : Nat) (l : List Int) (hl : l.length ≤ maxLen) (A1 : Option Addr) (c1 : Nat) (l1 : List Int) (hl1 : l1.length ≤ maxLen) (n : Nat) (hn : n ≤ 18446744073709551615) (w : World) (hA : Lies (fun _ => False) w A0 (ci l)) (hA1 : Lies (fun _ => False) w A1 (ci l1)) (hm : MaxIs w) :
    Calls Tryd.prog 6 #[.slice A0 l.length c0, .slice A1 l1.length c1, .int .u64 (n : Int)] w fun e w' => e = .returned (.bool true) ∧ Below w.heap.size w w' := by
  unfold maxLen at hl hl1
  have HA := Lib.hid hA
  have HA1 := Lib.hid hA1
  have HM := Lib.hid hm
  have HK := Lib.hid (fun s hs W h => mask_any s hs W h)
  have HMN := Lib.hid mask_name
  clear hA hA1 hm
  go_enter Tryd.func6, Tryd.ntmps6
  go_wp2_with fail
  refine (awake_any w HM.out).mono ?_
  rintro e w1 ⟨rfl, hb⟩
  have HB1 := Lib.hid hb
  have HM1 := Lib.hid (HM.out.below hb)
  have HLA := Lib.hid (HA.out.below hb)
  have HLB := Lib.hid (HA1.out.below hb)
  clear hb HA HA1 HM
  go_wp2_with fail
  go_loopw [9, 11, 12] (fun v i _ wr => wr = w1 ∧ ∃ (k : Nat) (r : List UInt8), i = .int .i64 (k : Int) ∧ v = .string (ba (120 :: r)) ∧ (∀ c ∈ r, Ad.az c = true) ∧ r.length = k ∧ k ≤ 10 ∧ k ≤ l.length) (fun _ i _ _ => 11 - (intOf i).toNat)
  case atStart => exact ⟨rfl, 0, [], rfl, rfl, by simp, rfl, by omega, by omega⟩
  case round =>
    obtain ⟨hwr, k, ra, rfl, rfl, hr, hrk, hk, hkl⟩ := hrel
    obtain rfl : w1 = wr := hwr.symm
    clear hwr
    have Hra := Lib.hid hr
    clear hr
    by_cases hgo : k < l.length ∧ k < 10
    · obtain ⟨hlt, h10⟩ := hgo
      have hki : (k : Int) < (l.length : Int) := by omega
      have h10i : (k : Int) < 10 := by omega
      obtain ⟨a, rfl, _, _, hcell⟩ := HLA.out k _ (ci_get l k hlt)
      obtain ⟨z, hz⟩ : ∃ z, l[k] = z := ⟨_, rfl⟩
      rw [hz] at hcell
      obtain ⟨m, hm, hmz⟩ := and15 z
      obtain ⟨c, hc, haz⟩ := let_piece m hm
      have hs1 : ∀ W, (Instr.slice 9 (.string ⟨#[97, 98, 99, 100, 101, 102, 103, 104, 105, 106, 107, 108, 109, 110, 111, 112]⟩) (some (.int .i64 (m : Int))) (some (.int .i64 ((m : Int) + 1))) none).run Tryd.prog W = .ok (.string (ba [c])) W := fun W => by
        have h := run_piece letL m (by show m + 1 ≤ 16; omega) W
        rw [hc] at h
        exact h
      have HAZ : Hid (∀ x ∈ ra ++ [c], Ad.az x = true) := Lib.hid (fun x hx => by
        rcases List.mem_append.1 hx with h | h
        · exact Hra.out x h
        · rw [List.mem_singleton.1 h]; exact haz)
      have HBA : Hid (ba (120 :: ra) ++ ba [c] = ba (120 :: (ra ++ [c]))) := Lib.hid (by rw [ba_append]; rfl)
      have hz1 : (ba (120 :: ra)).size ≤ 11 := by rw [ba_size, List.length_cons]; omega
      have hz2 : (ba [c]).size ≤ 1 := by rw [ba_size]; simp
      generalize ba [c] = C1 at hs1 HBA hz2
      generalize ba (120 :: ra) = V at HBA hz1 ⊢
      clear hc haz hz
      go_wp2_with fail
      go_roundw
      case rel => exact ⟨trivial, k + 1, ra ++ [c], by go_num, by rw [HBA.out], HAZ.out, by rw [List.length_append, hrk]; rfl, by omega, by omega⟩
      case measure => simp [intOf]; omega
    · have hzv : (ba (120 :: ra)).size ≤ 11 := by rw [ba_size, List.length_cons]; omega
      obtain ⟨VA, hVA⟩ : ∃ VA, ba (120 :: ra) = VA := ⟨_, rfl⟩
      rw [hVA] at hzv ⊢
      have HVA := Lib.hid hVA
      have hra : ra.length ≤ 10 := by omega
      clear hVA
      by_cases hlt : k < l.length
      · have hki : (k : Int) < (l.length : Int) := by omega
        have h10i : ¬ (k : Int) < 10 := by omega
        clear hgo hrk hk hkl
        go_wp2_with fail
        go_loopw [10, 13, 14] (fun v i _ wr => wr = w1 ∧ ∃ (k : Nat) (r : List UInt8), i = .int .i64 (k : Int) ∧ v = .string (ba (120 :: r)) ∧ (∀ c ∈ r, Ad.az c = true) ∧ r.length = k ∧ k ≤ 10 ∧ k ≤ l1.length) (fun _ i _ _ => 11 - (intOf i).toNat)
        case atStart => exact ⟨rfl, 0, [], rfl, rfl, by simp, rfl, by omega, by omega⟩
        case round =>
          obtain ⟨hwr, k, rb, rfl, rfl, hr, hrk, hk, hkl⟩ := hrel
          obtain rfl : w1 = wr := hwr.symm
          clear hwr
          have Hrb := Lib.hid hr
          clear hr
          by_cases hgo : k < l1.length ∧ k < 10
          · obtain ⟨hlt, h10⟩ := hgo
            have hki : (k : Int) < (l1.length : Int) := by omega
            have h10i : (k : Int) < 10 := by omega
            obtain ⟨a, rfl, _, _, hcell⟩ := HLB.out k _ (ci_get l1 k hlt)
            obtain ⟨z, hz⟩ : ∃ z, l1[k] = z := ⟨_, rfl⟩
            rw [hz] at hcell
            obtain ⟨m, hm, hmz⟩ := and15 z
            obtain ⟨c, hc, haz⟩ := let_piece m hm
            have hs1 : ∀ W, (Instr.slice 9 (.string ⟨#[97, 98, 99, 100, 101, 102, 103, 104, 105, 106, 107, 108, 109, 110, 111, 112]⟩) (some (.int .i64 (m : Int))) (some (.int .i64 ((m : Int) + 1))) none).run Tryd.prog W = .ok (.string (ba [c])) W := fun W => by
              have h := run_piece letL m (by show m + 1 ≤ 16; omega) W
              rw [hc] at h
              exact h
            have HAZ : Hid (∀ x ∈ rb ++ [c], Ad.az x = true) := Lib.hid (fun x hx => by
              rcases List.mem_append.1 hx with h | h
              · exact Hrb.out x h
              · rw [List.mem_singleton.1 h]; exact haz)
            have HBA : Hid (ba (120 :: rb) ++ ba [c] = ba (120 :: (rb ++ [c]))) := Lib.hid (by rw [ba_append]; rfl)
            have hz1 : (ba (120 :: rb)).size ≤ 11 := by rw [ba_size, List.length_cons]; omega
            have hz2 : (ba [c]).size ≤ 1 := by rw [ba_size]; simp
            generalize ba [c] = C1 at hs1 HBA hz2
            generalize ba (120 :: rb) = V at HBA hz1 ⊢
            clear hc haz hz
            go_wp2_with fail
            go_roundw
            case rel => exact ⟨trivial, k + 1, rb ++ [c], by go_num, by rw [HBA.out], HAZ.out, by rw [List.length_append, hrk]; rfl, by omega, by omega⟩
            case measure => simp [intOf]; omega
          · have hzv : (ba (120 :: rb)).size ≤ 11 := by rw [ba_size, List.length_cons]; omega
            obtain ⟨VB, hVB⟩ : ∃ VB, ba (120 :: rb) = VB := ⟨_, rfl⟩
            rw [hVB] at hzv ⊢
            have HVB := Lib.hid hVB
            have hrb : rb.length ≤ 10 := by omega
            clear hVB
            by_cases hlt : k < l1.length
            · have hki : (k : Int) < (l1.length : Int) := by omega
              have h10i : ¬ (k : Int) < 10 := by omega
              obtain ⟨x, hx⟩ : ∃ x, n % 10 = x := ⟨_, rfl⟩
              obtain ⟨y, hy⟩ : ∃ y, n / 10 % 10 = y := ⟨_, rfl⟩
              have hxi : (n : Int) % 10 = (x : Int) := by omega
              have hyi : (n : Int) / 10 % 10 = (y : Int) := by omega
              have hx10 : x < 10 := by omega
              have hy10 : y < 10 := by omega
              obtain ⟨p, hp, hpd⟩ := dig_piece x hx10
              obtain ⟨q, hq, hqd⟩ := dig_piece y hy10
              have hs1 : ∀ W, (Instr.slice 9 (.string ⟨#[48, 49, 50, 51, 52, 53, 54, 55, 56, 57]⟩) (some (.int .i64 (x : Int))) (some (.int .i64 ((x : Int) + 1))) none).run Tryd.prog W = .ok (.string (ba [p])) W := fun W => by
                have h := run_piece digL x (by show x + 1 ≤ 10; omega) W
                rw [hp] at h
                exact h
              have hs2 : ∀ W, (Instr.slice 9 (.string ⟨#[48, 49, 50, 51, 52, 53, 54, 55, 56, 57]⟩) (some (.int .i64 (y : Int))) (some (.int .i64 ((y : Int) + 1))) none).run Tryd.prog W = .ok (.string (ba [q])) W := fun W => by
                have h := run_piece digL y (by show y + 1 ≤ 10; omega) W
                rw [hq] at h
                exact h
              have HPQ : Hid (ba [p] ++ ba [q] = ba [p, q]) := Lib.hid (ba_append [p] [q])
              have HKA := Lib.hid (mask_text VA ra HVA.out Hra.out hra)
              have HKB := Lib.hid (mask_text VB rb HVB.out Hrb.out hrb)
              obtain ⟨E, hE⟩ : ∃ E, ba [p, q] = E := ⟨_, rfl⟩
              have hEz : E.size = 2 := by rw [← hE, ba_size]; rfl
              have HKC := Lib.hid (mask_yes p q hpd hqd E hE)
              have HKD := Lib.hid (mask_no p q hpd hqd E hE)
              rw [hE] at HPQ
              have hz1 : (ba [p]).size ≤ 1 := by rw [ba_size]; simp
              have hz2 : (ba [q]).size ≤ 1 := by rw [ba_size]; simp
              generalize ba [p] = P1 at hs1 HPQ hz1
              generalize ba [q] = P2 at hs2 HPQ hz2
              have hself : ((⟨#[43, 42, 42, 42]⟩ ++ E : ByteArray).toList == (⟨#[43, 42, 42, 42]⟩ ++ E : ByteArray).toList) = true := by simp
              clear hgo hrk hk hkl hp hq hpd hqd hE HK HMN
              go_wp2_with fail
              go_big_region
              rw [HPQ.out]
              have HMD : Hid (MaxIs w1.drew) := Lib.hid (HM1.out.below (below_drewN (Below.refl _ _) 1))
              have HBD : Hid (Below w.heap.size w w1.drew) := Lib.hid (below_drewN HB1.out 1)
              go_wp2_with fail
              refine (HKA.out _ HMD.out).mono ?_
              rintro e w2 ⟨rfl, hb⟩
              have HB2 := Lib.hid (HBD.out.trans (hb.mono HBD.out.size))
              have HM2 := Lib.hid (HMD.out.below hb)
              clear hb
              go_wp2_with fail
              refine (HKB.out _ HM2.out).mono ?_
              rintro e w3 ⟨rfl, hb⟩
              have HB3 := Lib.hid (HB2.out.trans (hb.mono HB2.out.size))
              have HM3 := Lib.hid (HM2.out.below hb)
              clear hb
              go_wp2_with fail
              refine (HKC.out _ HM3.out).mono ?_
              rintro e w4 ⟨rfl, hb⟩
              have HB4 := Lib.hid (HB3.out.trans (hb.mono HB3.out.size))
              have HM4 := Lib.hid (HM3.out.below hb)
              clear hb
              go_wp2_with fail
              refine (HKD.out _ HM4.out).mono ?_
              rintro e w5 ⟨rfl, hb⟩
              have HB5 := Lib.hid (HB4.out.trans (hb.mono HB4.out.size))
              clear hb
              go_wp2_with fail
              go_ret
              exact ⟨rfl, HB5.out⟩
            · have hki : ¬ (k : Int) < (l1.length : Int) := by omega
              obtain ⟨x, hx⟩ : ∃ x, n % 10 = x := ⟨_, rfl⟩
              obtain ⟨y, hy⟩ : ∃ y, n / 10 % 10 = y := ⟨_, rfl⟩
              have hxi : (n : Int) % 10 = (x : Int) := by omega
              have hyi : (n : Int) / 10 % 10 = (y : Int) := by omega
              have hx10 : x < 10 := by omega
              have hy10 : y < 10 := by omega
              obtain ⟨p, hp, hpd⟩ := dig_piece x hx10
              obtain ⟨q, hq, hqd⟩ := dig_piece y hy10
              have hs1 : ∀ W, (Instr.slice 9 (.string ⟨#[48, 49, 50, 51, 52, 53, 54, 55, 56, 57]⟩) (some (.int .i64 (x : Int))) (some (.int .i64 ((x : Int) + 1))) none).run Tryd.prog W = .ok (.string (ba [p])) W := fun W => by
                have h := run_piece digL x (by show x + 1 ≤ 10; omega) W
                rw [hp] at h
                exact h
              have hs2 : ∀ W, (Instr.slice 9 (.string ⟨#[48, 49, 50, 51, 52, 53, 54, 55, 56, 57]⟩) (some (.int .i64 (y : Int))) (some (.int .i64 ((y : Int) + 1))) none).run Tryd.prog W = .ok (.string (ba [q])) W := fun W => by
                have h := run_piece digL y (by show y + 1 ≤ 10; omega) W
                rw [hq] at h
                exact h
              have HPQ : Hid (ba [p] ++ ba [q] = ba [p, q]) := Lib.hid (ba_append [p] [q])
              have HKA := Lib.hid (mask_text VA ra HVA.out Hra.out hra)
              have HKB := Lib.hid (mask_text VB rb HVB.out Hrb.out hrb)
              obtain ⟨E, hE⟩ : ∃ E, ba [p, q] = E := ⟨_, rfl⟩
              have hEz : E.size = 2 := by rw [← hE, ba_size]; rfl
              have HKC := Lib.hid (mask_yes p q hpd hqd E hE)
              have HKD := Lib.hid (mask_no p q hpd hqd E hE)
              rw [hE] at HPQ
              have hz1 : (ba [p]).size ≤ 1 := by rw [ba_size]; simp
              have hz2 : (ba [q]).size ≤ 1 := by rw [ba_size]; simp
              generalize ba [p] = P1 at hs1 HPQ hz1
              generalize ba [q] = P2 at hs2 HPQ hz2
              have hself : ((⟨#[43, 42, 42, 42]⟩ ++ E : ByteArray).toList == (⟨#[43, 42, 42, 42]⟩ ++ E : ByteArray).toList) = true := by simp
              clear hgo hrk hk hkl hp hq hpd hqd hE HK HMN
              go_wp2_with fail
              go_big_region
              rw [HPQ.out]
              have HMD : Hid (MaxIs w1.drew) := Lib.hid (HM1.out.below (below_drewN (Below.refl _ _) 1))
              have HBD : Hid (Below w.heap.size w w1.drew) := Lib.hid (below_drewN HB1.out 1)
              go_wp2_with fail
              refine (HKA.out _ HMD.out).mono ?_
              rintro e w2 ⟨rfl, hb⟩
              have HB2 := Lib.hid (HBD.out.trans (hb.mono HBD.out.size))
              have HM2 := Lib.hid (HMD.out.below hb)
              clear hb
              go_wp2_with fail
              refine (HKB.out _ HM2.out).mono ?_
              rintro e w3 ⟨rfl, hb⟩
              have HB3 := Lib.hid (HB2.out.trans (hb.mono HB2.out.size))
              have HM3 := Lib.hid (HM2.out.below hb)
              clear hb
              go_wp2_with fail
              refine (HKC.out _ HM3.out).mono ?_
              rintro e w4 ⟨rfl, hb⟩
              have HB4 := Lib.hid (HB3.out.trans (hb.mono HB3.out.size))
              have HM4 := Lib.hid (HM3.out.below hb)
              clear hb
              go_wp2_with fail
              refine (HKD.out _ HM4.out).mono ?_
              rintro e w5 ⟨rfl, hb⟩
              have HB5 := Lib.hid (HB4.out.trans (hb.mono HB4.out.size))
              clear hb
              go_wp2_with fail
              go_ret
              exact ⟨rfl, HB5.out⟩
      · have hki : ¬ (k : Int) < (l.length : Int) := by omega
        clear hgo hrk hk hkl
        go_wp2_with fail
        go_loopw [10, 13, 14] (fun v i _ wr => wr = w1 ∧ ∃ (k : Nat) (r : List UInt8), i = .int .i64 (k : Int) ∧ v = .string (ba (120 :: r)) ∧ (∀ c ∈ r, Ad.az c = true) ∧ r.length = k ∧ k ≤ 10 ∧ k ≤ l1.length) (fun _ i _ _ => 11 - (intOf i).toNat)
        case atStart => exact ⟨rfl, 0, [], rfl, rfl, by simp, rfl, by omega, by omega⟩
        case round =>
          obtain ⟨hwr, k, rb, rfl, rfl, hr, hrk, hk, hkl⟩ := hrel
          obtain rfl : w1 = wr := hwr.symm
          clear hwr
          have Hrb := Lib.hid hr
          clear hr
          by_cases hgo : k < l1.length ∧ k < 10
          · obtain ⟨hlt, h10⟩ := hgo
            have hki : (k : Int) < (l1.length : Int) := by omega
            have h10i : (k : Int) < 10 := by omega
            obtain ⟨a, rfl, _, _, hcell⟩ := HLB.out k _ (ci_get l1 k hlt)
            obtain ⟨z, hz⟩ : ∃ z, l1[k] = z := ⟨_, rfl⟩
            rw [hz] at hcell
            obtain ⟨m, hm, hmz⟩ := and15 z
            obtain ⟨c, hc, haz⟩ := let_piece m hm
            have hs1 : ∀ W, (Instr.slice 9 (.string ⟨#[97, 98, 99, 100, 101, 102, 103, 104, 105, 106, 107, 108, 109, 110, 111, 112]⟩) (some (.int .i64 (m : Int))) (some (.int .i64 ((m : Int) + 1))) none).run Tryd.prog W = .ok (.string (ba [c])) W := fun W => by
              have h := run_piece letL m (by show m + 1 ≤ 16; omega) W
              rw [hc] at h
              exact h
            have HAZ : Hid (∀ x ∈ rb ++ [c], Ad.az x = true) := Lib.hid (fun x hx => by
              rcases List.mem_append.1 hx with h | h
              · exact Hrb.out x h
              · rw [List.mem_singleton.1 h]; exact haz)
            have HBA : Hid (ba (120 :: rb) ++ ba [c] = ba (120 :: (rb ++ [c]))) := Lib.hid (by rw [ba_append]; rfl)
            have hz1 : (ba (120 :: rb)).size ≤ 11 := by rw [ba_size, List.length_cons]; omega
            have hz2 : (ba [c]).size ≤ 1 := by rw [ba_size]; simp
            generalize ba [c] = C1 at hs1 HBA hz2
            generalize ba (120 :: rb) = V at HBA hz1 ⊢
            clear hc haz hz
            go_wp2_with fail
            go_roundw
            case rel => exact ⟨trivial, k + 1, rb ++ [c], by go_num, by rw [HBA.out], HAZ.out, by rw [List.length_append, hrk]; rfl, by omega, by omega⟩
            case measure => simp [intOf]; omega
          · have hzv : (ba (120 :: rb)).size ≤ 11 := by rw [ba_size, List.length_cons]; omega
            obtain ⟨VB, hVB⟩ : ∃ VB, ba (120 :: rb) = VB := ⟨_, rfl⟩
            rw [hVB] at hzv ⊢
            have HVB := Lib.hid hVB
            have hrb : rb.length ≤ 10 := by omega
            clear hVB
            by_cases hlt : k < l1.length
            · have hki : (k : Int) < (l1.length : Int) := by omega
              have h10i : ¬ (k : Int) < 10 := by omega
              obtain ⟨x, hx⟩ : ∃ x, n % 10 = x := ⟨_, rfl⟩
              obtain ⟨y, hy⟩ : ∃ y, n / 10 % 10 = y := ⟨_, rfl⟩
              have hxi : (n : Int) % 10 = (x : Int) := by omega
              have hyi : (n : Int) / 10 % 10 = (y : Int) := by omega
              have hx10 : x < 10 := by omega
              have hy10 : y < 10 := by omega
              obtain ⟨p, hp, hpd⟩ := dig_piece x hx10
              obtain ⟨q, hq, hqd⟩ := dig_piece y hy10
              have hs1 : ∀ W, (Instr.slice 9 (.string ⟨#[48, 49, 50, 51, 52, 53, 54, 55, 56, 57]⟩) (some (.int .i64 (x : Int))) (some (.int .i64 ((x : Int) + 1))) none).run Tryd.prog W = .ok (.string (ba [p])) W := fun W => by
                have h := run_piece digL x (by show x + 1 ≤ 10; omega) W
                rw [hp] at h
                exact h
              have hs2 : ∀ W, (Instr.slice 9 (.string ⟨#[48, 49, 50, 51, 52, 53, 54, 55, 56, 57]⟩) (some (.int .i64 (y : Int))) (some (.int .i64 ((y : Int) + 1))) none).run Tryd.prog W = .ok (.string (ba [q])) W := fun W => by
                have h := run_piece digL y (by show y + 1 ≤ 10; omega) W
                rw [hq] at h
                exact h
              have HPQ : Hid (ba [p] ++ ba [q] = ba [p, q]) := Lib.hid (ba_append [p] [q])
              have HKA := Lib.hid (mask_text VA ra HVA.out Hra.out hra)
              have HKB := Lib.hid (mask_text VB rb HVB.out Hrb.out hrb)
              obtain ⟨E, hE⟩ : ∃ E, ba [p, q] = E := ⟨_, rfl⟩
              have hEz : E.size = 2 := by rw [← hE, ba_size]; rfl
              have HKC := Lib.hid (mask_yes p q hpd hqd E hE)
              have HKD := Lib.hid (mask_no p q hpd hqd E hE)
              rw [hE] at HPQ
              have hz1 : (ba [p]).size ≤ 1 := by rw [ba_size]; simp
              have hz2 : (ba [q]).size ≤ 1 := by rw [ba_size]; simp
              generalize ba [p] = P1 at hs1 HPQ hz1
              generalize ba [q] = P2 at hs2 HPQ hz2
              have hself : ((⟨#[43, 42, 42, 42]⟩ ++ E : ByteArray).toList == (⟨#[43, 42, 42, 42]⟩ ++ E : ByteArray).toList) = true := by simp
              clear hgo hrk hk hkl hp hq hpd hqd hE HK HMN
              go_wp2_with fail
              go_big_region
              rw [HPQ.out]
              have HMD : Hid (MaxIs w1.drew) := Lib.hid (HM1.out.below (below_drewN (Below.refl _ _) 1))
              have HBD : Hid (Below w.heap.size w w1.drew) := Lib.hid (below_drewN HB1.out 1)
              go_wp2_with fail
              refine (HKA.out _ HMD.out).mono ?_
              rintro e w2 ⟨rfl, hb⟩
              have HB2 := Lib.hid (HBD.out.trans (hb.mono HBD.out.size))
              have HM2 := Lib.hid (HMD.out.below hb)
              clear hb
              go_wp2_with fail
              refine (HKB.out _ HM2.out).mono ?_
              rintro e w3 ⟨rfl, hb⟩
              have HB3 := Lib.hid (HB2.out.trans (hb.mono HB2.out.size))
              have HM3 := Lib.hid (HM2.out.below hb)
              clear hb
              go_wp2_with fail
              refine (HKC.out _ HM3.out).mono ?_
              rintro e w4 ⟨rfl, hb⟩
              have HB4 := Lib.hid (HB3.out.trans (hb.mono HB3.out.size))
              have HM4 := Lib.hid (HM3.out.below hb)
              clear hb
              go_wp2_with fail
              refine (HKD.out _ HM4.out).mono ?_
              rintro e w5 ⟨rfl, hb⟩
              have HB5 := Lib.hid (HB4.out.trans (hb.mono HB4.out.size))
              clear hb
              go_wp2_with fail
              go_ret
              exact ⟨rfl, HB5.out⟩
            · have hki : ¬ (k : Int) < (l1.length : Int) := by omega
              obtain ⟨x, hx⟩ : ∃ x, n % 10 = x := ⟨_, rfl⟩
              obtain ⟨y, hy⟩ : ∃ y, n / 10 % 10 = y := ⟨_, rfl⟩
              have hxi : (n : Int) % 10 = (x : Int) := by omega
              have hyi : (n : Int) / 10 % 10 = (y : Int) := by omega
              have hx10 : x < 10 := by omega
              have hy10 : y < 10 := by omega
              obtain ⟨p, hp, hpd⟩ := dig_piece x hx10
              obtain ⟨q, hq, hqd⟩ := dig_piece y hy10
              have hs1 : ∀ W, (Instr.slice 9 (.string ⟨#[48, 49, 50, 51, 52, 53, 54, 55, 56, 57]⟩) (some (.int .i64 (x : Int))) (some (.int .i64 ((x : Int) + 1))) none).run Tryd.prog W = .ok (.string (ba [p])) W := fun W => by
                have h := run_piece digL x (by show x + 1 ≤ 10; omega) W
                rw [hp] at h
                exact h
              have hs2 : ∀ W, (Instr.slice 9 (.string ⟨#[48, 49, 50, 51, 52, 53, 54, 55, 56, 57]⟩) (some (.int .i64 (y : Int))) (some (.int .i64 ((y : Int) + 1))) none).run Tryd.prog W = .ok (.string (ba [q])) W := fun W => by
                have h := run_piece digL y (by show y + 1 ≤ 10; omega) W
                rw [hq] at h
                exact h
              have HPQ : Hid (ba [p] ++ ba [q] = ba [p, q]) := Lib.hid (ba_append [p] [q])
              have HKA := Lib.hid (mask_text VA ra HVA.out Hra.out hra)
              have HKB := Lib.hid (mask_text VB rb HVB.out Hrb.out hrb)
              obtain ⟨E, hE⟩ : ∃ E, ba [p, q] = E := ⟨_, rfl⟩
              have hEz : E.size = 2 := by rw [← hE, ba_size]; rfl
              have HKC := Lib.hid (mask_yes p q hpd hqd E hE)
              have HKD := Lib.hid (mask_no p q hpd hqd E hE)
              rw [hE] at HPQ
              have hz1 : (ba [p]).size ≤ 1 := by rw [ba_size]; simp
              have hz2 : (ba [q]).size ≤ 1 := by rw [ba_size]; simp
              generalize ba [p] = P1 at hs1 HPQ hz1
              generalize ba [q] = P2 at hs2 HPQ hz2
              have hself : ((⟨#[43, 42, 42, 42]⟩ ++ E : ByteArray).toList == (⟨#[43, 42, 42, 42]⟩ ++ E : ByteArray).toList) = true := by simp
              clear hgo hrk hk hkl hp hq hpd hqd hE HK HMN
              go_wp2_with fail
              go_big_region
              rw [HPQ.out]
              have HMD : Hid (MaxIs w1.drew) := Lib.hid (HM1.out.below (below_drewN (Below.refl _ _) 1))
              have HBD : Hid (Below w.heap.size w w1.drew) := Lib.hid (below_drewN HB1.out 1)
              go_wp2_with fail
              refine (HKA.out _ HMD.out).mono ?_
              rintro e w2 ⟨rfl, hb⟩
              have HB2 := Lib.hid (HBD.out.trans (hb.mono HBD.out.size))
              have HM2 := Lib.hid (HMD.out.below hb)
              clear hb
              go_wp2_with fail
              refine (HKB.out _ HM2.out).mono ?_
              rintro e w3 ⟨rfl, hb⟩
              have HB3 := Lib.hid (HB2.out.trans (hb.mono HB2.out.size))
              have HM3 := Lib.hid (HM2.out.below hb)
              clear hb
              go_wp2_with fail
              refine (HKC.out _ HM3.out).mono ?_
              rintro e w4 ⟨rfl, hb⟩
              have HB4 := Lib.hid (HB3.out.trans (hb.mono HB3.out.size))
              have HM4 := Lib.hid (HM3.out.below hb)
              clear hb
              go_wp2_with fail
              refine (HKD.out _ HM4.out).mono ?_
              rintro e w5 ⟨rfl, hb⟩
              have HB5 := Lib.hid (HB4.out.trans (hb.mono HB4.out.size))
              clear hb
              go_wp2_with fail
              go_ret
              exact ⟨rfl, HB5.out⟩

/-! ### The row -/
set_option maxRecDepth 100000 in
theorem contract (H : Type) (enc : TypeId × Value → H) (W : World) (base : Nat) (args : Array Value) (ds gs : List (DataW H)) (before : List MemPlace)
    (hval : ∀ (j : Nat) t v, Tryd.f6.params[j]? = some t → args[j]? = some v → Value.okWide Tryd.prog W .any base t v)
    (hW : DataW.Whole enc Tryd.prog Tryd.f6.params.toList Rows.addressMasksSpec.vars false W args.toList ds gs before) (hS : W.ShapedOpen Tryd.prog) :
    Calls Tryd.prog 6 args W fun e W' => ∃ v, e = .returned v ∧ Rows.addressMasksSpec.post enc Tryd.prog Tryd.f6 false true false false W args v W' := by
  have hW' := hW
  obtain ⟨p, q, hA0, hV, rfl, hfz, hnd⟩ := hW
  have hA : DataW.TrodAll enc Tryd.prog W 0 (fun _ => true) true Tryd.f6.params.toList args.toList ds p := hA0
  rw [Tryd.params6] at hA hval
  obtain ⟨v0, vs0, d0, ds0, p0, q0, hargs, rfl, rfl, h0, r0⟩ := trodAll_cons hA
  obtain ⟨v1, vs1, d1, ds1, p1, q1, rfl, rfl, rfl, h1, r1⟩ := trodAll_cons r0
  obtain ⟨v2, vs2, d2, ds2, p2, q2, rfl, rfl, rfl, h2, r2⟩ := trodAll_cons r1
  obtain ⟨rfl, rfl, rfl⟩ := trodAll_nil r2
  obtain rfl : args = #[v0, v1, v2] := by cases args; simp_all
  obtain ⟨rfl, rfl⟩ := trodVars_none hV
  refine law_contract (tb := 4) laidOut (by kernel_rfl) rfl (by kernel_rfl) Tryd.underlying4 rfl hW' ?_
  clear hA0 hW' hA
  obtain ⟨A0, k0, l0, rfl, z0, s0, g0⟩ := opened_ints (open_rows Tryd.underlying22 cellsInt (by omega) (hval 0 22 v0 rfl rfl) h0) Tryd.underlying3
  obtain ⟨A1, k1, l1, rfl, z1, s1, g1⟩ := opened_ints (open_rows Tryd.underlying22 cellsInt (by omega) (hval 1 22 v1 rfl rfl) h1) Tryd.underlying3
  obtain ⟨a2, rfl, rfl, rfl, w2⟩ := open_int Tryd.underlying29 (hval 2 29 v2 rfl rfl) h2
  obtain ⟨n2, rfl, b2⟩ := bounds_u64 w2
  exact walk A0 k0 l0 z0 A1 k1 l1 z1 n2 b2 W g0 g1 (max_of_shaped hS)

theorem laid_met (os : Os) : laidMet Tryd.prog Rows.addressMasksRow.laid ((laidWorld os).forCall (fun _ _ => 0) ⟨#[], #[.slice none 0 0, .slice none 0 0, .int .u64 0], []⟩).memory :=
  laidMet_of_run' 8 (by kernel_rfl) (by kernel_rfl)
theorem reads (os : Os) {H : Type} (enc : TypeId × Value → H) : ∃ places, DataW.whole enc Tryd.prog ((laidWorld os).forCall (fun _ _ => 0) ⟨#[], #[.slice none 0 0, .slice none 0 0, .int .u64 0], []⟩).memory Tryd.f6.params.toList Rows.addressMasksSpec.vars false (#[.slice none 0 0, .slice none 0 0, .int .u64 0] : Array Value).toList 8 = some ([.nil, .nil, .lit (.int .u64 0)], [], places) :=
  ⟨[], by kernel_rfl⟩

set_option maxRecDepth 100000 in
theorem lifted (os : Os) (started : os.Started) (H : Type) (enc : TypeId × Value → H) (F : Stop.Interp) :
    ReturnsInHanded {} Tryd.checked os 6 .any ((OpenSpec.ofChange Rows.addressMasksSpec).preRow enc Tryd.prog Tryd.f6 Rows.addressMasksRow.domain false Rows.addressMasksRow.laid) (((OpenSpec.ofChange Rows.addressMasksSpec).at F).post enc Tryd.prog Tryd.f6 false true false false) := by
  obtain ⟨places, hx⟩ := reads os enc
  refine returnsInHanded_of_row (C := Tryd.checked) (s := OpenSpec.ofChange Rows.addressMasksSpec) own started (by kernel_rfl) Tryd.func6
    (witness_row_at (enc := enc) (C := Tryd.checked) false (laidWorld os) #[.slice none 0 0, .slice none 0 0, .int .u64 0] rfl (by kernel_rfl) (by kernel_rfl) (by kernel_rfl)
      (OpenSpec.preRow_of_cond 8 hx (by kernel_rfl) (fun k hk => by cases hk) (by kernel_rfl) (laid_met os))) ?_
  intro W base args ds gs before hval hW _ _ _ _ hS _
  exact contract H enc W base args ds gs before hval hW hS

theorem said : Rows.AddressMasksSaid :=
  OpenClaim.holds_of_cond 6 Tryd.f6 rfl rfl rfl rfl rfl rfl rfl ⟨rfl, rfl, rfl, rfl, rfl⟩ rfl rfl rfl rfl rfl (by kernel_rfl) Tryd.func6 (by kernel_rfl)
    (of_decide_eq_true (by kernel_rfl)) (by unfold Func.isWrapper; first | (rw [if_pos (by decide +kernel)]; kernel_rfl) | (rw [if_neg (by decide +kernel)]; exact ⟨rfl, rfl⟩))
    (fun os started H enc _ F => by rw [OpenClaim.pre_eq_preRow]; exact lifted os started H enc F)

theorem plain (f : FuncId) (fn : Func) (hf : Tryd.pinned.checked.prog.funcNamed "homecoming/homecominglaw09.AddressMasks" = some f) (hfn : Tryd.pinned.checked.prog.funcs[f]? = some fn) :
    false = Tryd.pinned.checked.prog.looks [] ∧ ∀ (j : Nat) t, fn.params[j]? = some t → Tryd.pinned.checked.prog.wantsStandIn t = false := by
  obtain rfl : f = 6 := Option.some.inj ((show Tryd.prog.funcNamed "homecoming/homecominglaw09.AddressMasks" = some 6 by kernel_rfl).symm.trans hf) |>.symm
  obtain rfl : fn = Tryd.f6 := (Option.some.inj (Tryd.func6.symm.trans hfn)).symm
  refine ⟨by kernel_rfl, fun j t ht => ?_⟩
  have hall : (Tryd.f6.params.toList.all fun u => !Tryd.prog.wantsStandIn u) = true := by kernel_rfl
  have hm : t ∈ Tryd.f6.params.toList := by simpa using Array.mem_of_getElem? ht
  exact (show Tryd.prog.wantsStandIn t = false by simpa using List.all_eq_true.1 hall t hm)

/-- THE STATEMENT. -/
theorem card : Rows.AddressMasksCardSaid :=
  Claim7.holds_tied_plain_at .later [] _ _ _ _ said (fun _ h => by cases h) (by kernel_rfl) (fun _ h => by cases h) addressMasks_row_tie rfl ⟨rfl, rfl⟩ (by kernel_rfl) rfl plain (by kernel_rfl)
#print axioms card
end Go.Proofs.YtpcbbmafallogaaDoor.addressMasks
