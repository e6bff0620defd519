/-
  Proves the statement of AddressSame: for every two rows of integers and every number the law returns true (capital letters, blanks at the ends, and what stands behind a plus make no difference), and its arguments read as they did. Condition: the package-level tables first and acceptRanges of the library hold what their texts lay (they are read by no call of this law's).
-/
import Derived.Test.YtpcbbmafallogaaDoorAdK
import Derived.Test.YtpcbbmafallogaaDoorAdS
import Derived.Test.YtpcbbmafallogaaDoorCards
import Derived.Test.YtpcbbmafallogaaDoorTie
namespace Go.Proofs.YtpcbbmafallogaaDoor.addressSame
open Go.ChangeShapes Go.WideShapes Go.ChangeAt Go.RowKit
open Go.ChangeMaps (open_string shut_string)

/-- A letter of the law's row of letters. -/
def letL : List UInt8 := [97, 98, 99, 100, 101, 102, 103, 104, 105, 106, 107, 108, 109, 110, 111, 112]
theorem let_piece : ∀ m, m < 16 → ∃ c, (letL.drop m).take (m + 1 - m) = [c] ∧ Ad.az c = true := by
  have : ∀ m : Fin 16, ((letL.drop m.1).take (m.1 + 1 - m.1)) = [UInt8.ofNat (97 + m.1)] ∧ Ad.az (UInt8.ofNat (97 + m.1)) = true := by decide +kernel
  intro m hm
  exact ⟨_, this ⟨m, hm⟩⟩
theorem run_piece (T : List UInt8) (m : Nat) (h : m + 1 ≤ T.length) (W : World) : (Instr.slice 9 (.string (ba T)) (some (.int .i64 (m : Int))) (some (.int .i64 ((m : Int) + 1))) none).run Tryd.prog W = .ok (.string (ba ((T.drop m).take (m + 1 - m)))) W := by
  have h2 := run_mid (ba T) m (by rw [ba_size]; exact h) W
  rw [h2]
  have h3 := Lib.extract_eq (ba T) m (m + 1)
  rw [ba_list] at h3
  rw [h3]
  rfl
theorem az_up (c : UInt8) (h : Ad.az c = true) : 97 ≤ c.toNat ∧ c.toNat ≤ 122 ∧ (c - 32).toNat = c.toNat - 32 := by
  have : ∀ n, n < 256 → Ad.az (UInt8.ofNat n) = true → 97 ≤ (UInt8.ofNat n).toNat ∧ (UInt8.ofNat n).toNat ≤ 122 ∧ (UInt8.ofNat n - 32).toNat = (UInt8.ofNat n).toNat - 32 := by decide +kernel
  have h2 := this c.toNat c.toNat_lt
  rw [UInt8.ofNat_toNat] at h2
  exact h2 h
def atHost : List UInt8 := [104, 111, 115, 116, 46, 111, 114, 103]
theorem name_ok (A : List UInt8) (hA : ∀ c ∈ A, Ad.az c = true) (h1 : 1 ≤ A.length) (hl : A.length ≤ 11) : Ad.mailOk (A ++ 64 :: atHost) = true :=
  Ad.mailOk_of (Ad.name_az A hA h1) (by decide +kernel) (by show A.length + 1 + 8 ≤ 40; omega)
theorem text_same (A B C : List UInt8) (hA : ∀ c ∈ A, Ad.az c = true) (hB : ∀ c ∈ B, Ad.az c = true) (hC : Ad.low C = A) (hw : ∀ c ∈ C, Ad.ws c = false) :
    Ad.mailText ([32, 9] ++ C ++ [43] ++ B ++ [64, 72, 111, 115, 116, 46, 79, 82, 71, 32]) = A ++ 64 :: atHost := by
  have e0 : [32, 9] ++ C ++ [43] ++ B ++ [64, 72, 111, 115, 116, 46, 79, 82, 71, 32] = [32, 9] ++ (C ++ 43 :: (B ++ [64, 72, 111, 115, 116, 46, 79, 82, 71])) ++ [32] := by simp
  have hl : ∀ c ∈ (C ++ 43 :: (B ++ [64, 72, 111, 115, 116, 46, 79, 82, 71])), Ad.ws c = false := by
    intro c hc
    rcases List.mem_append.1 hc with hc | hc
    · exact hw c hc
    · rcases List.mem_cons.1 hc with rfl | hc
      · rfl
      · rcases List.mem_append.1 hc with hc | hc
        · exact (Ad.az_facts c (hB c hc)).2.2.1
        · have : ∀ x ∈ ([64, 72, 111, 115, 116, 46, 79, 82, 71] : List UInt8), Ad.ws x = false := by decide
          exact this c hc
  unfold Ad.mailText
  rw [e0, Ad.trim_ends [32, 9] _ [32] (by decide) (by decide) hl (by simp), Ad.low_append, hC]
  have e1 : Ad.low (43 :: (B ++ [64, 72, 111, 115, 116, 46, 79, 82, 71])) = 43 :: (B ++ 64 :: atHost) := by
    have : Ad.low (43 :: (B ++ [64, 72, 111, 115, 116, 46, 79, 82, 71])) = Ad.low [43] ++ (Ad.low B ++ Ad.low [64, 72, 111, 115, 116, 46, 79, 82, 71]) := by
      rw [← Ad.low_append, ← Ad.low_append]
      rfl
    rw [this, Ad.low_self B (fun c hc => (Ad.az_facts c (hB c hc)).2.2.2.1)]
    rfl
  rw [e1, Ad.untag_of A B atHost (fun c hc => (Ad.az_facts c (hA c hc)).2.2.2.2.1) (fun c hc => (Ad.az_facts c (hB c hc)).2.2.2.2.2.1)]
theorem mail_one (A : List UInt8) (hA : ∀ c ∈ A, Ad.az c = true) (h1 : 1 ≤ A.length) (hl : A.length ≤ 11) (V X : ByteArray) (hV : ba A = V) (hX : V ++ ⟨#[64, 104, 111, 115, 116, 46, 111, 114, 103]⟩ = X) (W : World) (hm : MaxIs W) :
    Calls Tryd.prog 13 #[.string X] W fun e w' => e = .returned (.tuple #[.string X, .bool true]) ∧ Below W.heap.size W w' := by
  subst hV
  have e1 : ba A ++ (⟨#[64, 104, 111, 115, 116, 46, 111, 114, 103]⟩ : ByteArray) = ba (A ++ 64 :: atHost) := ba_append A (64 :: atHost)
  rw [e1] at hX
  subst hX
  have hok := name_ok A hA h1 hl
  have h := mail_any (ba (A ++ 64 :: atHost)) (by rw [ba_size]; simp [atHost]; omega) W hm
  rw [ba_list] at h
  unfold mailS mailB at h
  rw [Ad.mailText_self hok, hok] at h
  exact h
theorem mail_two (A B C : List UInt8) (hA : ∀ c ∈ A, Ad.az c = true) (h1 : 1 ≤ A.length) (hl : A.length ≤ 11) (hB : ∀ c ∈ B, Ad.az c = true) (hbl : B.length ≤ 10) (hC : Ad.low C = A) (hw : ∀ c ∈ C, Ad.ws c = false) (V X U T : ByteArray) (hV : ba A = V) (hX : V ++ ⟨#[64, 104, 111, 115, 116, 46, 111, 114, 103]⟩ = X) (hU : ba B = U) (hT : ba C = T) (W : World) (hm : MaxIs W) :
    Calls Tryd.prog 13 #[.string (⟨#[32, 9]⟩ ++ T ++ ⟨#[43]⟩ ++ U ++ ⟨#[64, 72, 111, 115, 116, 46, 79, 82, 71, 32]⟩)] W fun e w' => e = .returned (.tuple #[.string X, .bool true]) ∧ Below W.heap.size W w' := by
  subst hV hU hT
  have e1 : ba A ++ (⟨#[64, 104, 111, 115, 116, 46, 111, 114, 103]⟩ : ByteArray) = ba (A ++ 64 :: atHost) := ba_append A (64 :: atHost)
  rw [e1] at hX
  subst hX
  have e2 : (⟨#[32, 9]⟩ : ByteArray) ++ ba C ++ ⟨#[43]⟩ ++ ba B ++ ⟨#[64, 72, 111, 115, 116, 46, 79, 82, 71, 32]⟩ = ba ([32, 9] ++ C ++ [43] ++ B ++ [64, 72, 111, 115, 116, 46, 79, 82, 71, 32]) := by
    have a1 : (⟨#[32, 9]⟩ : ByteArray) = ba [32, 9] := rfl
    have a2 : (⟨#[43]⟩ : ByteArray) = ba [43] := rfl
    have a3 : (⟨#[64, 72, 111, 115, 116, 46, 79, 82, 71, 32]⟩ : ByteArray) = ba [64, 72, 111, 115, 116, 46, 79, 82, 71, 32] := rfl
    rw [a1, a2, a3, ba_append, ba_append, ba_append, ba_append]
  have hcl : C.length = A.length := by rw [← hC]; simp [Ad.low]
  have hok := name_ok A hA h1 hl
  have h := mail_any (ba ([32, 9] ++ C ++ [43] ++ B ++ [64, 72, 111, 115, 116, 46, 79, 82, 71, 32])) (by rw [ba_size]; simp; omega) W hm
  rw [ba_list] at h
  unfold mailS mailB at h
  rw [text_same A B C hA hB hC hw, hok] at h
  rw [e2]
  exact h
theorem low_snoc (C A : List UInt8) (k : Nat) (c : UInt8) (hk : k < A.length) (h : Ad.low C = A.take k) (hc : Ad.low1 c = A[k]) : Ad.low (C ++ [c]) = A.take (k + 1) := by
  rw [Ad.low_append, h, List.take_succ_eq_append_getElem hk, ← hc]
  rfl
set_option maxRecDepth 100000 in
set_option maxHeartbeats 8000000 in
theorem walk (A0 : Option Addr) (c0 : Nat) (l : List Int) (hl : l.length ≤ maxLen) (A1 : Option Addr) (c1 : Nat) (l1 : List Int) (hl1 : l1.length ≤ maxLen) (n : Nat) (_hn : n ≤ 18446744073709551615) (w : World) (hA : Lies (fun _ => False) w A0 (ci l)) (hA1 : Lies (fun _ => False) w A1 (ci l1)) (hm : MaxIs w) :
    Calls Tryd.prog 5 #[.slice A0 l.length c0, .slice A1 l1.length c1, .int .u64 (n : Int)] w fun e w' => e = .returned (.bool true) ∧ Below w.heap.size w w' := by
  unfold maxLen at hl hl1
  have HA := Lib.hid hA
  have HA1 := Lib.hid hA1
  have HM := Lib.hid hm
  clear hA hA1 hm
  go_enter Tryd.func5, Tryd.ntmps5
  go_wp2_with fail
  refine (awake_any w HM.out).mono ?_
  rintro e w1 ⟨rfl, hb⟩
  have HB1 := Lib.hid hb
  have HM1 := Lib.hid (HM.out.below hb)
  have HLA := Lib.hid (HA.out.below hb)
  have HLB := Lib.hid (HA1.out.below hb)
  clear hb HA HA1 HM
  go_wp2_with fail
  go_loopw [9, 10, 11] (fun v i _ wr => wr = w1 ∧ ∃ (k : Nat) (r : List UInt8), i = .int .i64 (k : Int) ∧ v = .string (ba (120 :: r)) ∧ (∀ c ∈ r, Ad.az c = true) ∧ r.length = k ∧ k ≤ 10 ∧ k ≤ l.length) (fun _ i _ _ => 11 - (intOf i).toNat)
  case atStart => exact ⟨rfl, 0, [], rfl, rfl, by simp, rfl, by omega, by omega⟩
  case round =>
    obtain ⟨hwr, k, ra, rfl, rfl, hr, hrk, hk, hkl⟩ := hrel
    obtain rfl : w1 = wr := hwr.symm
    clear hwr
    have Hra := Lib.hid hr
    clear hr
    by_cases hgo : k < l.length ∧ k < 10
    · obtain ⟨hlt, h10⟩ := hgo
      have hki : (k : Int) < (l.length : Int) := by omega
      have h10i : (k : Int) < 10 := by omega
      obtain ⟨a, rfl, _, _, hcell⟩ := HLA.out k _ (ci_get l k hlt)
      obtain ⟨z, hz⟩ : ∃ z, l[k] = z := ⟨_, rfl⟩
      rw [hz] at hcell
      obtain ⟨m, hm, hmz⟩ := and15 z
      obtain ⟨c, hc, haz⟩ := let_piece m hm
      have hs1 : ∀ W, (Instr.slice 9 (.string ⟨#[97, 98, 99, 100, 101, 102, 103, 104, 105, 106, 107, 108, 109, 110, 111, 112]⟩) (some (.int .i64 (m : Int))) (some (.int .i64 ((m : Int) + 1))) none).run Tryd.prog W = .ok (.string (ba [c])) W := fun W => by
        have h := run_piece letL m (by show m + 1 ≤ 16; omega) W
        rw [hc] at h
        exact h
      have HAZ : Hid (∀ x ∈ ra ++ [c], Ad.az x = true) := Lib.hid (fun x hx => by
        rcases List.mem_append.1 hx with h | h
        · exact Hra.out x h
        · rw [List.mem_singleton.1 h]; exact haz)
      have HBA : Hid (ba (120 :: ra) ++ ba [c] = ba (120 :: (ra ++ [c]))) := Lib.hid (by rw [ba_append]; rfl)
      have hz1 : (ba (120 :: ra)).size ≤ 11 := by rw [ba_size, List.length_cons]; omega
      have hz2 : (ba [c]).size ≤ 1 := by rw [ba_size]; simp
      generalize ba [c] = C1 at hs1 HBA hz2
      generalize ba (120 :: ra) = V at HBA hz1 ⊢
      clear hc haz hz
      go_wp2_with fail
      go_roundw
      case rel => exact ⟨trivial, k + 1, ra ++ [c], by go_num, by rw [HBA.out], HAZ.out, by rw [List.length_append, hrk]; rfl, by omega, by omega⟩
      case measure => simp [intOf]; omega
    · have hzv : (ba (120 :: ra)).size ≤ 11 := by rw [ba_size, List.length_cons]; omega
      obtain ⟨VA, hVA⟩ : ∃ VA, ba (120 :: ra) = VA := ⟨_, rfl⟩
      rw [hVA] at hzv ⊢
      have HVA := Lib.hid hVA
      have hra : ra.length ≤ 10 := by omega
      clear hVA
      by_cases hlt : k < l.length
      · have hki : (k : Int) < (l.length : Int) := by omega
        have h10i : ¬ (k : Int) < 10 := by omega
        clear hgo hrk hk hkl
        go_wp2_with fail
        go_loopw [12, 13, 14] (fun v i _ wr => wr = w1 ∧ ∃ (k : Nat) (r : List UInt8), i = .int .i64 (k : Int) ∧ v = .string (ba r) ∧ (∀ c ∈ r, Ad.az c = true) ∧ r.length = k ∧ k ≤ 10 ∧ k ≤ l1.length) (fun _ i _ _ => 11 - (intOf i).toNat)
        case atStart => exact ⟨rfl, 0, [], rfl, rfl, by simp, rfl, by omega, by omega⟩
        case round =>
          obtain ⟨hwr, k, rb, rfl, rfl, hr, hrk, hk, hkl⟩ := hrel
          obtain rfl : w1 = wr := hwr.symm
          clear hwr
          have Hrb := Lib.hid hr
          clear hr
          by_cases hgo : k < l1.length ∧ k < 10
          · obtain ⟨hlt, h10⟩ := hgo
            have hki : (k : Int) < (l1.length : Int) := by omega
            have h10i : (k : Int) < 10 := by omega
            obtain ⟨a, rfl, _, _, hcell⟩ := HLB.out k _ (ci_get l1 k hlt)
            obtain ⟨z, hz⟩ : ∃ z, l1[k] = z := ⟨_, rfl⟩
            rw [hz] at hcell
            obtain ⟨m, hm, hmz⟩ := and15 z
            obtain ⟨c, hc, haz⟩ := let_piece m hm
            have hs1 : ∀ W, (Instr.slice 9 (.string ⟨#[97, 98, 99, 100, 101, 102, 103, 104, 105, 106, 107, 108, 109, 110, 111, 112]⟩) (some (.int .i64 (m : Int))) (some (.int .i64 ((m : Int) + 1))) none).run Tryd.prog W = .ok (.string (ba [c])) W := fun W => by
              have h := run_piece letL m (by show m + 1 ≤ 16; omega) W
              rw [hc] at h
              exact h
            have HAZ : Hid (∀ x ∈ rb ++ [c], Ad.az x = true) := Lib.hid (fun x hx => by
              rcases List.mem_append.1 hx with h | h
              · exact Hrb.out x h
              · rw [List.mem_singleton.1 h]; exact haz)
            have HBA : Hid (ba rb ++ ba [c] = ba (rb ++ [c])) := Lib.hid (by rw [ba_append])
            have hz1 : (ba rb).size ≤ 11 := by rw [ba_size]; omega
            have hz2 : (ba [c]).size ≤ 1 := by rw [ba_size]; simp
            generalize ba [c] = C1 at hs1 HBA hz2
            generalize ba rb = V at HBA hz1 ⊢
            clear hc haz hz
            go_wp2_with fail
            go_roundw
            case rel => exact ⟨trivial, k + 1, rb ++ [c], by go_num, by rw [HBA.out], HAZ.out, by rw [List.length_append, hrk]; rfl, by omega, by omega⟩
            case measure => simp [intOf]; omega
          · have hzv : (ba rb).size ≤ 11 := by rw [ba_size]; omega
            obtain ⟨VB, hVB⟩ : ∃ VB, ba rb = VB := ⟨_, rfl⟩
            rw [hVB] at hzv ⊢
            have HVB := Lib.hid hVB
            have hrb : rb.length ≤ 10 := by omega
            clear hVB
            by_cases hlt : k < l1.length
            · have hki : (k : Int) < (l1.length : Int) := by omega
              have h10i : ¬ (k : Int) < 10 := by omega
              clear hgo hrk hk hkl
              have hVz : VA.size = ra.length + 1 := by rw [← HVA.out, ba_size]; rfl
              have HAZ : Hid (∀ c ∈ 120 :: ra, Ad.az c = true) := Lib.hid (fun c hc => by
                rcases List.mem_cons.1 hc with rfl | hc
                · rfl
                · exact Hra.out c hc)
              have HVG := Lib.hid (fun k (h : k < VA.size) (h2 : k < (120 :: ra).length) => (by have hv := HVA.out; subst hv; rfl : VA[k] = (120 :: ra)[k]))
              go_wp2_with fail
              go_loopw [15, 16, 17] (fun cv i _ wr => ∃ (k : Nat) (C : List UInt8), i = .int .i64 (k : Int) ∧ k ≤ VA.size ∧ cv = .string (ba C) ∧ C.length = k ∧ Ad.low C = (120 :: ra).take k ∧ (∀ c ∈ C, Ad.ws c = false) ∧ Below w1.heap.size w1 wr) (fun _ i _ _ => VA.size - (intOf i).toNat)
              case atStart => exact ⟨0, [], rfl, by omega, rfl, rfl, rfl, by simp, Below.refl _ _⟩
              case round =>
                obtain ⟨k, C, rfl, hk, rfl, hCk, hlow, hws, hB⟩ := hrel
                have HBW := Lib.hid hB
                have HBs := hB.size
                have HLOW := Lib.hid hlow
                have HWS := Lib.hid hws
                have hcz : (ba C).size ≤ 11 := by rw [ba_size]; omega
                clear hB hlow hws
                by_cases hlt3 : k < VA.size
                · have hki3 : (k : Int) < (VA.size : Int) := by omega
                  have hkA : k < (120 :: ra).length := by rw [List.length_cons]; omega
                  have hgk := HVG.out k hlt3 hkA
                  obtain ⟨x, hx⟩ : ∃ x, VA[k] = x := ⟨_, rfl⟩
                  have hAx : (120 :: ra)[k] = x := by rw [← hgk, hx]
                  have hxa : Ad.az x = true := HAZ.out x (by rw [← hAx]; exact List.getElem_mem hkA)
                  obtain ⟨u1, u2, u3⟩ := az_up x hxa
                  have hf := Ad.az_facts x hxa
                  have g97 : (97 : Int) ≤ (x.toNat : Int) := by omega
                  have g122 : (x.toNat : Int) ≤ 122 := by omega
                  obtain ⟨b1, hb1⟩ : ∃ b1, (bits BinOp.and IntKind.u64 ((n : Int) / 2 ^ k) 1 == 1) = b1 := ⟨_, rfl⟩
                  have hmin : min k 64 = k := by omega
                  cases b1 with
                  | true =>
                    have hcv := run_one (wr.alloc (.cells #[.int .u8 ((x.toNat : Int) - 32)] 5)) wr.heap.size ((x.toNat : Int) - 32) (x - 32) (by rw [u3]; omega) (by simp)
                    have HL2 := Lib.hid (low_snoc C (120 :: ra) k (x - 32) hkA HLOW.out (by rw [hAx]; exact hf.2.2.2.2.2.2.1))
                    have HW2 : Hid (∀ c ∈ C ++ [x - 32], Ad.ws c = false) := Lib.hid (fun c hc => by
                      rcases List.mem_append.1 hc with h | h
                      · exact HWS.out c h
                      · rw [List.mem_singleton.1 h]; exact hf.2.2.2.2.2.2.2)
                    have HBA : Hid (ba C ++ ba [x - 32] = ba (C ++ [x - 32])) := Lib.hid (ba_append C [x - 32])
                    have hz2 : (ba [x - 32]).size ≤ 1 := by rw [ba_size]; simp
                    generalize ba [x - 32] = C1 at hcv HBA hz2
                    generalize ba C = CV at HBA hcz ⊢
                    clear hf u1 u2 u3 hxa hAx hgk
                    go_wp2_with fail
                    go_roundw
                    case rel => exact ⟨k + 1, C ++ [x - 32], by go_num, by omega, by rw [HBA.out], by rw [List.length_append, hCk]; rfl, HL2.out, HW2.out, HBW.out.alloc HBs _⟩
                    case measure => simp [intOf]; omega
                  | false =>
                    have hcv := run_one (wr.alloc (.cells #[.int .u8 (x.toNat : Int)] 5)) wr.heap.size (x.toNat : Int) x rfl (by simp)
                    have HL2 := Lib.hid (low_snoc C (120 :: ra) k x hkA HLOW.out (by rw [hAx]; exact hf.2.2.2.1))
                    have HW2 : Hid (∀ c ∈ C ++ [x], Ad.ws c = false) := Lib.hid (fun c hc => by
                      rcases List.mem_append.1 hc with h | h
                      · exact HWS.out c h
                      · rw [List.mem_singleton.1 h]; exact hf.2.2.1)
                    have HBA : Hid (ba C ++ ba [x] = ba (C ++ [x])) := Lib.hid (ba_append C [x])
                    have hz2 : (ba [x]).size ≤ 1 := by rw [ba_size]; simp
                    generalize ba [x] = C1 at hcv HBA hz2
                    generalize ba C = CV at HBA hcz ⊢
                    clear hf u1 u2 u3 hxa hAx hgk
                    go_wp2_with fail
                    go_roundw
                    case rel => exact ⟨k + 1, C ++ [x], by go_num, by omega, by rw [HBA.out], by rw [List.length_append, hCk]; rfl, HL2.out, HW2.out, HBW.out.alloc HBs _⟩
                    case measure => simp [intOf]; omega
                · obtain rfl : k = VA.size := by omega
                  have hlow := HLOW.out
                  rw [List.take_of_length_le (by rw [List.length_cons]; omega)] at hlow
                  obtain ⟨X, hX⟩ : ∃ X, VA ++ ⟨#[64, 104, 111, 115, 116, 46, 111, 114, 103]⟩ = X := ⟨_, rfl⟩
                  obtain ⟨T, hT⟩ : ∃ T, ba C = T := ⟨_, rfl⟩
                  have HMO := Lib.hid (fun W h => mail_one (120 :: ra) HAZ.out (by simp) (by simp; omega) VA X HVA.out hX W h)
                  have HMT := Lib.hid (fun W h => mail_two (120 :: ra) rb C HAZ.out (by simp) (by simp; omega) Hrb.out hrb hlow HWS.out VA X VB T HVA.out hX HVB.out hT W h)
                  rw [hT] at hcz ⊢
                  have HM2 := Lib.hid (HM1.out.below HBW.out)
                  have HB2 := Lib.hid (HB1.out.trans (HBW.out.mono HB1.out.size))
                  have z0 : (⟨#[32, 9]⟩ ++ T : ByteArray).size ≤ 13 := by rw [ByteArray.size_append]; have : (⟨#[32, 9]⟩ : ByteArray).size = 2 := rfl; omega
                  have z1 : (⟨#[32, 9]⟩ ++ T ++ ⟨#[43]⟩ : ByteArray).size ≤ 14 := by rw [ByteArray.size_append]; have : (⟨#[43]⟩ : ByteArray).size = 1 := rfl; omega
                  have z2 : (⟨#[32, 9]⟩ ++ T ++ ⟨#[43]⟩ ++ VB : ByteArray).size ≤ 30 := by rw [ByteArray.size_append]; omega
                  have z3 : X.size ≤ 30 := by rw [← hX, ByteArray.size_append]; have : (⟨#[64, 104, 111, 115, 116, 46, 111, 114, 103]⟩ : ByteArray).size = 9 := rfl; omega
                  have hself : (X.toList == X.toList) = true := by simp
                  clear hlow hT hCk
                  go_wp2_with fail
                  refine (HMO.out _ HM2.out).mono ?_
                  rintro e w3 ⟨rfl, hb⟩
                  have HB3 := Lib.hid (HB2.out.trans (hb.mono HB2.out.size))
                  have HM3 := Lib.hid (HM2.out.below hb)
                  clear hb
                  go_wp2_with fail
                  refine (HMT.out _ HM3.out).mono ?_
                  rintro e w4 ⟨rfl, hb⟩
                  have HB4 := Lib.hid (HB3.out.trans (hb.mono HB3.out.size))
                  clear hb
                  go_wp2_with fail
                  go_ret
                  exact ⟨rfl, HB4.out⟩
            · have hki : ¬ (k : Int) < (l1.length : Int) := by omega
              clear hgo hrk hk hkl
              have hVz : VA.size = ra.length + 1 := by rw [← HVA.out, ba_size]; rfl
              have HAZ : Hid (∀ c ∈ 120 :: ra, Ad.az c = true) := Lib.hid (fun c hc => by
                rcases List.mem_cons.1 hc with rfl | hc
                · rfl
                · exact Hra.out c hc)
              have HVG := Lib.hid (fun k (h : k < VA.size) (h2 : k < (120 :: ra).length) => (by have hv := HVA.out; subst hv; rfl : VA[k] = (120 :: ra)[k]))
              go_wp2_with fail
              go_loopw [15, 16, 17] (fun cv i _ wr => ∃ (k : Nat) (C : List UInt8), i = .int .i64 (k : Int) ∧ k ≤ VA.size ∧ cv = .string (ba C) ∧ C.length = k ∧ Ad.low C = (120 :: ra).take k ∧ (∀ c ∈ C, Ad.ws c = false) ∧ Below w1.heap.size w1 wr) (fun _ i _ _ => VA.size - (intOf i).toNat)
              case atStart => exact ⟨0, [], rfl, by omega, rfl, rfl, rfl, by simp, Below.refl _ _⟩
              case round =>
                obtain ⟨k, C, rfl, hk, rfl, hCk, hlow, hws, hB⟩ := hrel
                have HBW := Lib.hid hB
                have HBs := hB.size
                have HLOW := Lib.hid hlow
                have HWS := Lib.hid hws
                have hcz : (ba C).size ≤ 11 := by rw [ba_size]; omega
                clear hB hlow hws
                by_cases hlt3 : k < VA.size
                · have hki3 : (k : Int) < (VA.size : Int) := by omega
                  have hkA : k < (120 :: ra).length := by rw [List.length_cons]; omega
                  have hgk := HVG.out k hlt3 hkA
                  obtain ⟨x, hx⟩ : ∃ x, VA[k] = x := ⟨_, rfl⟩
                  have hAx : (120 :: ra)[k] = x := by rw [← hgk, hx]
                  have hxa : Ad.az x = true := HAZ.out x (by rw [← hAx]; exact List.getElem_mem hkA)
                  obtain ⟨u1, u2, u3⟩ := az_up x hxa
                  have hf := Ad.az_facts x hxa
                  have g97 : (97 : Int) ≤ (x.toNat : Int) := by omega
                  have g122 : (x.toNat : Int) ≤ 122 := by omega
                  obtain ⟨b1, hb1⟩ : ∃ b1, (bits BinOp.and IntKind.u64 ((n : Int) / 2 ^ k) 1 == 1) = b1 := ⟨_, rfl⟩
                  have hmin : min k 64 = k := by omega
                  cases b1 with
                  | true =>
                    have hcv := run_one (wr.alloc (.cells #[.int .u8 ((x.toNat : Int) - 32)] 5)) wr.heap.size ((x.toNat : Int) - 32) (x - 32) (by rw [u3]; omega) (by simp)
                    have HL2 := Lib.hid (low_snoc C (120 :: ra) k (x - 32) hkA HLOW.out (by rw [hAx]; exact hf.2.2.2.2.2.2.1))
                    have HW2 : Hid (∀ c ∈ C ++ [x - 32], Ad.ws c = false) := Lib.hid (fun c hc => by
                      rcases List.mem_append.1 hc with h | h
                      · exact HWS.out c h
                      · rw [List.mem_singleton.1 h]; exact hf.2.2.2.2.2.2.2)
                    have HBA : Hid (ba C ++ ba [x - 32] = ba (C ++ [x - 32])) := Lib.hid (ba_append C [x - 32])
                    have hz2 : (ba [x - 32]).size ≤ 1 := by rw [ba_size]; simp
                    generalize ba [x - 32] = C1 at hcv HBA hz2
                    generalize ba C = CV at HBA hcz ⊢
                    clear hf u1 u2 u3 hxa hAx hgk
                    go_wp2_with fail
                    go_roundw
                    case rel => exact ⟨k + 1, C ++ [x - 32], by go_num, by omega, by rw [HBA.out], by rw [List.length_append, hCk]; rfl, HL2.out, HW2.out, HBW.out.alloc HBs _⟩
                    case measure => simp [intOf]; omega
                  | false =>
                    have hcv := run_one (wr.alloc (.cells #[.int .u8 (x.toNat : Int)] 5)) wr.heap.size (x.toNat : Int) x rfl (by simp)
                    have HL2 := Lib.hid (low_snoc C (120 :: ra) k x hkA HLOW.out (by rw [hAx]; exact hf.2.2.2.1))
                    have HW2 : Hid (∀ c ∈ C ++ [x], Ad.ws c = false) := Lib.hid (fun c hc => by
                      rcases List.mem_append.1 hc with h | h
                      · exact HWS.out c h
                      · rw [List.mem_singleton.1 h]; exact hf.2.2.1)
                    have HBA : Hid (ba C ++ ba [x] = ba (C ++ [x])) := Lib.hid (ba_append C [x])
                    have hz2 : (ba [x]).size ≤ 1 := by rw [ba_size]; simp
                    generalize ba [x] = C1 at hcv HBA hz2
                    generalize ba C = CV at HBA hcz ⊢
                    clear hf u1 u2 u3 hxa hAx hgk
                    go_wp2_with fail
                    go_roundw
                    case rel => exact ⟨k + 1, C ++ [x], by go_num, by omega, by rw [HBA.out], by rw [List.length_append, hCk]; rfl, HL2.out, HW2.out, HBW.out.alloc HBs _⟩
                    case measure => simp [intOf]; omega
                · obtain rfl : k = VA.size := by omega
                  have hlow := HLOW.out
                  rw [List.take_of_length_le (by rw [List.length_cons]; omega)] at hlow
                  obtain ⟨X, hX⟩ : ∃ X, VA ++ ⟨#[64, 104, 111, 115, 116, 46, 111, 114, 103]⟩ = X := ⟨_, rfl⟩
                  obtain ⟨T, hT⟩ : ∃ T, ba C = T := ⟨_, rfl⟩
                  have HMO := Lib.hid (fun W h => mail_one (120 :: ra) HAZ.out (by simp) (by simp; omega) VA X HVA.out hX W h)
                  have HMT := Lib.hid (fun W h => mail_two (120 :: ra) rb C HAZ.out (by simp) (by simp; omega) Hrb.out hrb hlow HWS.out VA X VB T HVA.out hX HVB.out hT W h)
                  rw [hT] at hcz ⊢
                  have HM2 := Lib.hid (HM1.out.below HBW.out)
                  have HB2 := Lib.hid (HB1.out.trans (HBW.out.mono HB1.out.size))
                  have z0 : (⟨#[32, 9]⟩ ++ T : ByteArray).size ≤ 13 := by rw [ByteArray.size_append]; have : (⟨#[32, 9]⟩ : ByteArray).size = 2 := rfl; omega
                  have z1 : (⟨#[32, 9]⟩ ++ T ++ ⟨#[43]⟩ : ByteArray).size ≤ 14 := by rw [ByteArray.size_append]; have : (⟨#[43]⟩ : ByteArray).size = 1 := rfl; omega
                  have z2 : (⟨#[32, 9]⟩ ++ T ++ ⟨#[43]⟩ ++ VB : ByteArray).size ≤ 30 := by rw [ByteArray.size_append]; omega
                  have z3 : X.size ≤ 30 := by rw [← hX, ByteArray.size_append]; have : (⟨#[64, 104, 111, 115, 116, 46, 111, 114, 103]⟩ : ByteArray).size = 9 := rfl; omega
                  have hself : (X.toList == X.toList) = true := by simp
                  clear hlow hT hCk
                  go_wp2_with fail
                  refine (HMO.out _ HM2.out).mono ?_
                  rintro e w3 ⟨rfl, hb⟩
                  have HB3 := Lib.hid (HB2.out.trans (hb.mono HB2.out.size))
                  have HM3 := Lib.hid (HM2.out.below hb)
                  clear hb
                  go_wp2_with fail
                  refine (HMT.out _ HM3.out).mono ?_
                  rintro e w4 ⟨rfl, hb⟩
                  have HB4 := Lib.hid (HB3.out.trans (hb.mono HB3.out.size))
                  clear hb
                  go_wp2_with fail
                  go_ret
                  exact ⟨rfl, HB4.out⟩
      · have hki : ¬ (k : Int) < (l.length : Int) := by omega
        clear hgo hrk hk hkl
        go_wp2_with fail
        go_loopw [12, 13, 14] (fun v i _ wr => wr = w1 ∧ ∃ (k : Nat) (r : List UInt8), i = .int .i64 (k : Int) ∧ v = .string (ba r) ∧ (∀ c ∈ r, Ad.az c = true) ∧ r.length = k ∧ k ≤ 10 ∧ k ≤ l1.length) (fun _ i _ _ => 11 - (intOf i).toNat)
        case atStart => exact ⟨rfl, 0, [], rfl, rfl, by simp, rfl, by omega, by omega⟩
        case round =>
          obtain ⟨hwr, k, rb, rfl, rfl, hr, hrk, hk, hkl⟩ := hrel
          obtain rfl : w1 = wr := hwr.symm
          clear hwr
          have Hrb := Lib.hid hr
          clear hr
          by_cases hgo : k < l1.length ∧ k < 10
          · obtain ⟨hlt, h10⟩ := hgo
            have hki : (k : Int) < (l1.length : Int) := by omega
            have h10i : (k : Int) < 10 := by omega
            obtain ⟨a, rfl, _, _, hcell⟩ := HLB.out k _ (ci_get l1 k hlt)
            obtain ⟨z, hz⟩ : ∃ z, l1[k] = z := ⟨_, rfl⟩
            rw [hz] at hcell
            obtain ⟨m, hm, hmz⟩ := and15 z
            obtain ⟨c, hc, haz⟩ := let_piece m hm
            have hs1 : ∀ W, (Instr.slice 9 (.string ⟨#[97, 98, 99, 100, 101, 102, 103, 104, 105, 106, 107, 108, 109, 110, 111, 112]⟩) (some (.int .i64 (m : Int))) (some (.int .i64 ((m : Int) + 1))) none).run Tryd.prog W = .ok (.string (ba [c])) W := fun W => by
              have h := run_piece letL m (by show m + 1 ≤ 16; omega) W
              rw [hc] at h
              exact h
            have HAZ : Hid (∀ x ∈ rb ++ [c], Ad.az x = true) := Lib.hid (fun x hx => by
              rcases List.mem_append.1 hx with h | h
              · exact Hrb.out x h
              · rw [List.mem_singleton.1 h]; exact haz)
            have HBA : Hid (ba rb ++ ba [c] = ba (rb ++ [c])) := Lib.hid (by rw [ba_append])
            have hz1 : (ba rb).size ≤ 11 := by rw [ba_size]; omega
            have hz2 : (ba [c]).size ≤ 1 := by rw [ba_size]; simp
            generalize ba [c] = C1 at hs1 HBA hz2
            generalize ba rb = V at HBA hz1 ⊢
            clear hc haz hz
            go_wp2_with fail
            go_roundw
            case rel => exact ⟨trivial, k + 1, rb ++ [c], by go_num, by rw [HBA.out], HAZ.out, by rw [List.length_append, hrk]; rfl, by omega, by omega⟩
            case measure => simp [intOf]; omega
          · have hzv : (ba rb).size ≤ 11 := by rw [ba_size]; omega
            obtain ⟨VB, hVB⟩ : ∃ VB, ba rb = VB := ⟨_, rfl⟩
            rw [hVB] at hzv ⊢
            have HVB := Lib.hid hVB
            have hrb : rb.length ≤ 10 := by omega
            clear hVB
            by_cases hlt : k < l1.length
            · have hki : (k : Int) < (l1.length : Int) := by omega
              have h10i : ¬ (k : Int) < 10 := by omega
              clear hgo hrk hk hkl
              have hVz : VA.size = ra.length + 1 := by rw [← HVA.out, ba_size]; rfl
              have HAZ : Hid (∀ c ∈ 120 :: ra, Ad.az c = true) := Lib.hid (fun c hc => by
                rcases List.mem_cons.1 hc with rfl | hc
                · rfl
                · exact Hra.out c hc)
              have HVG := Lib.hid (fun k (h : k < VA.size) (h2 : k < (120 :: ra).length) => (by have hv := HVA.out; subst hv; rfl : VA[k] = (120 :: ra)[k]))
              go_wp2_with fail
              go_loopw [15, 16, 17] (fun cv i _ wr => ∃ (k : Nat) (C : List UInt8), i = .int .i64 (k : Int) ∧ k ≤ VA.size ∧ cv = .string (ba C) ∧ C.length = k ∧ Ad.low C = (120 :: ra).take k ∧ (∀ c ∈ C, Ad.ws c = false) ∧ Below w1.heap.size w1 wr) (fun _ i _ _ => VA.size - (intOf i).toNat)
              case atStart => exact ⟨0, [], rfl, by omega, rfl, rfl, rfl, by simp, Below.refl _ _⟩
              case round =>
                obtain ⟨k, C, rfl, hk, rfl, hCk, hlow, hws, hB⟩ := hrel
                have HBW := Lib.hid hB
                have HBs := hB.size
                have HLOW := Lib.hid hlow
                have HWS := Lib.hid hws
                have hcz : (ba C).size ≤ 11 := by rw [ba_size]; omega
                clear hB hlow hws
                by_cases hlt3 : k < VA.size
                · have hki3 : (k : Int) < (VA.size : Int) := by omega
                  have hkA : k < (120 :: ra).length := by rw [List.length_cons]; omega
                  have hgk := HVG.out k hlt3 hkA
                  obtain ⟨x, hx⟩ : ∃ x, VA[k] = x := ⟨_, rfl⟩
                  have hAx : (120 :: ra)[k] = x := by rw [← hgk, hx]
                  have hxa : Ad.az x = true := HAZ.out x (by rw [← hAx]; exact List.getElem_mem hkA)
                  obtain ⟨u1, u2, u3⟩ := az_up x hxa
                  have hf := Ad.az_facts x hxa
                  have g97 : (97 : Int) ≤ (x.toNat : Int) := by omega
                  have g122 : (x.toNat : Int) ≤ 122 := by omega
                  obtain ⟨b1, hb1⟩ : ∃ b1, (bits BinOp.and IntKind.u64 ((n : Int) / 2 ^ k) 1 == 1) = b1 := ⟨_, rfl⟩
                  have hmin : min k 64 = k := by omega
                  cases b1 with
                  | true =>
                    have hcv := run_one (wr.alloc (.cells #[.int .u8 ((x.toNat : Int) - 32)] 5)) wr.heap.size ((x.toNat : Int) - 32) (x - 32) (by rw [u3]; omega) (by simp)
                    have HL2 := Lib.hid (low_snoc C (120 :: ra) k (x - 32) hkA HLOW.out (by rw [hAx]; exact hf.2.2.2.2.2.2.1))
                    have HW2 : Hid (∀ c ∈ C ++ [x - 32], Ad.ws c = false) := Lib.hid (fun c hc => by
                      rcases List.mem_append.1 hc with h | h
                      · exact HWS.out c h
                      · rw [List.mem_singleton.1 h]; exact hf.2.2.2.2.2.2.2)
                    have HBA : Hid (ba C ++ ba [x - 32] = ba (C ++ [x - 32])) := Lib.hid (ba_append C [x - 32])
                    have hz2 : (ba [x - 32]).size ≤ 1 := by rw [ba_size]; simp
                    generalize ba [x - 32] = C1 at hcv HBA hz2
                    generalize ba C = CV at HBA hcz ⊢
                    clear hf u1 u2 u3 hxa hAx hgk
                    go_wp2_with fail
                    go_roundw
                    case rel => exact ⟨k + 1, C ++ [x - 32], by go_num, by omega, by rw [HBA.out], by rw [List.length_append, hCk]; rfl, HL2.out, HW2.out, HBW.out.alloc HBs _⟩
                    case measure => simp [intOf]; omega
                  | false =>
                    have hcv := run_one (wr.alloc (.cells #[.int .u8 (x.toNat : Int)] 5)) wr.heap.size (x.toNat : Int) x rfl (by simp)
                    have HL2 := Lib.hid (low_snoc C (120 :: ra) k x hkA HLOW.out (by rw [hAx]; exact hf.2.2.2.1))
                    have HW2 : Hid (∀ c ∈ C ++ [x], Ad.ws c = false) := Lib.hid (fun c hc => by
                      rcases List.mem_append.1 hc with h | h
                      · exact HWS.out c h
                      · rw [List.mem_singleton.1 h]; exact hf.2.2.1)
                    have HBA : Hid (ba C ++ ba [x] = ba (C ++ [x])) := Lib.hid (ba_append C [x])
                    have hz2 : (ba [x]).size ≤ 1 := by rw [ba_size]; simp
                    generalize ba [x] = C1 at hcv HBA hz2
                    generalize ba C = CV at HBA hcz ⊢
                    clear hf u1 u2 u3 hxa hAx hgk
                    go_wp2_with fail
                    go_roundw
                    case rel => exact ⟨k + 1, C ++ [x], by go_num, by omega, by rw [HBA.out], by rw [List.length_append, hCk]; rfl, HL2.out, HW2.out, HBW.out.alloc HBs _⟩
                    case measure => simp [intOf]; omega
                · obtain rfl : k = VA.size := by omega
                  have hlow := HLOW.out
                  rw [List.take_of_length_le (by rw [List.length_cons]; omega)] at hlow
                  obtain ⟨X, hX⟩ : ∃ X, VA ++ ⟨#[64, 104, 111, 115, 116, 46, 111, 114, 103]⟩ = X := ⟨_, rfl⟩
                  obtain ⟨T, hT⟩ : ∃ T, ba C = T := ⟨_, rfl⟩
                  have HMO := Lib.hid (fun W h => mail_one (120 :: ra) HAZ.out (by simp) (by simp; omega) VA X HVA.out hX W h)
                  have HMT := Lib.hid (fun W h => mail_two (120 :: ra) rb C HAZ.out (by simp) (by simp; omega) Hrb.out hrb hlow HWS.out VA X VB T HVA.out hX HVB.out hT W h)
                  rw [hT] at hcz ⊢
                  have HM2 := Lib.hid (HM1.out.below HBW.out)
                  have HB2 := Lib.hid (HB1.out.trans (HBW.out.mono HB1.out.size))
                  have z0 : (⟨#[32, 9]⟩ ++ T : ByteArray).size ≤ 13 := by rw [ByteArray.size_append]; have : (⟨#[32, 9]⟩ : ByteArray).size = 2 := rfl; omega
                  have z1 : (⟨#[32, 9]⟩ ++ T ++ ⟨#[43]⟩ : ByteArray).size ≤ 14 := by rw [ByteArray.size_append]; have : (⟨#[43]⟩ : ByteArray).size = 1 := rfl; omega
                  have z2 : (⟨#[32, 9]⟩ ++ T ++ ⟨#[43]⟩ ++ VB : ByteArray).size ≤ 30 := by rw [ByteArray.size_append]; omega
                  have z3 : X.size ≤ 30 := by rw [← hX, ByteArray.size_append]; have : (⟨#[64, 104, 111, 115, 116, 46, 111, 114, 103]⟩ : ByteArray).size = 9 := rfl; omega
                  have hself : (X.toList == X.toList) = true := by simp
                  clear hlow hT hCk
                  go_wp2_with fail
                  refine (HMO.out _ HM2.out).mono ?_
                  rintro e w3 ⟨rfl, hb⟩
                  have HB3 := Lib.hid (HB2.out.trans (hb.mono HB2.out.size))
                  have HM3 := Lib.hid (HM2.out.below hb)
                  clear hb
                  go_wp2_with fail
                  refine (HMT.out _ HM3.out).mono ?_
                  rintro e w4 ⟨rfl, hb⟩
                  have HB4 := Lib.hid (HB3.out.trans (hb.mono HB3.out.size))
                  clear hb
                  go_wp2_with fail
                  go_ret
                  exact ⟨rfl, HB4.out⟩
            · have hki : ¬ (k : Int) < (l1.length : Int) := by omega
              clear hgo hrk hk hkl
              have hVz : VA.size = ra.length + 1 := by rw [← HVA.out, ba_size]; rfl
              have HAZ : Hid (∀ c ∈ 120 :: ra, Ad.az c = true) := Lib.hid (fun c hc => by
                rcases List.mem_cons.1 hc with rfl | hc
                · rfl
                · exact Hra.out c hc)
              have HVG := Lib.hid (fun k (h : k < VA.size) (h2 : k < (120 :: ra).length) => (by have hv := HVA.out; subst hv; rfl : VA[k] = (120 :: ra)[k]))
              go_wp2_with fail
              go_loopw [15, 16, 17] (fun cv i _ wr => ∃ (k : Nat) (C : List UInt8), i = .int .i64 (k : Int) ∧ k ≤ VA.size ∧ cv = .string (ba C) ∧ C.length = k ∧ Ad.low C = (120 :: ra).take k ∧ (∀ c ∈ C, Ad.ws c = false) ∧ Below w1.heap.size w1 wr) (fun _ i _ _ => VA.size - (intOf i).toNat)
              case atStart => exact ⟨0, [], rfl, by omega, rfl, rfl, rfl, by simp, Below.refl _ _⟩
              case round =>
                obtain ⟨k, C, rfl, hk, rfl, hCk, hlow, hws, hB⟩ := hrel
                have HBW := Lib.hid hB
                have HBs := hB.size
                have HLOW := Lib.hid hlow
                have HWS := Lib.hid hws
                have hcz : (ba C).size ≤ 11 := by rw [ba_size]; omega
                clear hB hlow hws
                by_cases hlt3 : k < VA.size
                · have hki3 : (k : Int) < (VA.size : Int) := by omega
                  have hkA : k < (120 :: ra).length := by rw [List.length_cons]; omega
                  have hgk := HVG.out k hlt3 hkA
                  obtain ⟨x, hx⟩ : ∃ x, VA[k] = x := ⟨_, rfl⟩
                  have hAx : (120 :: ra)[k] = x := by rw [← hgk, hx]
                  have hxa : Ad.az x = true := HAZ.out x (by rw [← hAx]; exact List.getElem_mem hkA)
                  obtain ⟨u1, u2, u3⟩ := az_up x hxa
                  have hf := Ad.az_facts x hxa
                  have g97 : (97 : Int) ≤ (x.toNat : Int) := by omega
                  have g122 : (x.toNat : Int) ≤ 122 := by omega
                  obtain ⟨b1, hb1⟩ : ∃ b1, (bits BinOp.and IntKind.u64 ((n : Int) / 2 ^ k) 1 == 1) = b1 := ⟨_, rfl⟩
                  have hmin : min k 64 = k := by omega
                  cases b1 with
                  | true =>
                    have hcv := run_one (wr.alloc (.cells #[.int .u8 ((x.toNat : Int) - 32)] 5)) wr.heap.size ((x.toNat : Int) - 32) (x - 32) (by rw [u3]; omega) (by simp)
                    have HL2 := Lib.hid (low_snoc C (120 :: ra) k (x - 32) hkA HLOW.out (by rw [hAx]; exact hf.2.2.2.2.2.2.1))
                    have HW2 : Hid (∀ c ∈ C ++ [x - 32], Ad.ws c = false) := Lib.hid (fun c hc => by
                      rcases List.mem_append.1 hc with h | h
                      · exact HWS.out c h
                      · rw [List.mem_singleton.1 h]; exact hf.2.2.2.2.2.2.2)
                    have HBA : Hid (ba C ++ ba [x - 32] = ba (C ++ [x - 32])) := Lib.hid (ba_append C [x - 32])
                    have hz2 : (ba [x - 32]).size ≤ 1 := by rw [ba_size]; simp
                    generalize ba [x - 32] = C1 at hcv HBA hz2
                    generalize ba C = CV at HBA hcz ⊢
                    clear hf u1 u2 u3 hxa hAx hgk
                    go_wp2_with fail
                    go_roundw
                    case rel => exact ⟨k + 1, C ++ [x - 32], by go_num, by omega, by rw [HBA.out], by rw [List.length_append, hCk]; rfl, HL2.out, HW2.out, HBW.out.alloc HBs _⟩
                    case measure => simp [intOf]; omega
                  | false =>
                    have hcv := run_one (wr.alloc (.cells #[.int .u8 (x.toNat : Int)] 5)) wr.heap.size (x.toNat : Int) x rfl (by simp)
                    have HL2 := Lib.hid (low_snoc C (120 :: ra) k x hkA HLOW.out (by rw [hAx]; exact hf.2.2.2.1))
                    have HW2 : Hid (∀ c ∈ C ++ [x], Ad.ws c = false) := Lib.hid (fun c hc => by
                      rcases List.mem_append.1 hc with h | h
                      · exact HWS.out c h
                      · rw [List.mem_singleton.1 h]; exact hf.2.2.1)
                    have HBA : Hid (ba C ++ ba [x] = ba (C ++ [x])) := Lib.hid (ba_append C [x])
                    have hz2 : (ba [x]).size ≤ 1 := by rw [ba_size]; simp
                    generalize ba [x] = C1 at hcv HBA hz2
                    generalize ba C = CV at HBA hcz ⊢
                    clear hf u1 u2 u3 hxa hAx hgk
                    go_wp2_with fail
                    go_roundw
                    case rel => exact ⟨k + 1, C ++ [x], by go_num, by omega, by rw [HBA.out], by rw [List.length_append, hCk]; rfl, HL2.out, HW2.out, HBW.out.alloc HBs _⟩
                    case measure => simp [intOf]; omega
                · obtain rfl : k = VA.size := by omega
                  have hlow := HLOW.out
                  rw [List.take_of_length_le (by rw [List.length_cons]; omega)] at hlow
                  obtain ⟨X, hX⟩ : ∃ X, VA ++ ⟨#[64, 104, 111, 115, 116, 46, 111, 114, 103]⟩ = X := ⟨_, rfl⟩
                  obtain ⟨T, hT⟩ : ∃ T, ba C = T := ⟨_, rfl⟩
                  have HMO := Lib.hid (fun W h => mail_one (120 :: ra) HAZ.out (by simp) (by simp; omega) VA X HVA.out hX W h)
                  have HMT := Lib.hid (fun W h => mail_two (120 :: ra) rb C HAZ.out (by simp) (by simp; omega) Hrb.out hrb hlow HWS.out VA X VB T HVA.out hX HVB.out hT W h)
                  rw [hT] at hcz ⊢
                  have HM2 := Lib.hid (HM1.out.below HBW.out)
                  have HB2 := Lib.hid (HB1.out.trans (HBW.out.mono HB1.out.size))
                  have z0 : (⟨#[32, 9]⟩ ++ T : ByteArray).size ≤ 13 := by rw [ByteArray.size_append]; have : (⟨#[32, 9]⟩ : ByteArray).size = 2 := rfl; omega
                  have z1 : (⟨#[32, 9]⟩ ++ T ++ ⟨#[43]⟩ : ByteArray).size ≤ 14 := by rw [ByteArray.size_append]; have : (⟨#[43]⟩ : ByteArray).size = 1 := rfl; omega
                  have z2 : (⟨#[32, 9]⟩ ++ T ++ ⟨#[43]⟩ ++ VB : ByteArray).size ≤ 30 := by rw [ByteArray.size_append]; omega
                  have z3 : X.size ≤ 30 := by rw [← hX, ByteArray.size_append]; have : (⟨#[64, 104, 111, 115, 116, 46, 111, 114, 103]⟩ : ByteArray).size = 9 := rfl; omega
                  have hself : (X.toList == X.toList) = true := by simp
                  clear hlow hT hCk
                  go_wp2_with fail
                  refine (HMO.out _ HM2.out).mono ?_
                  rintro e w3 ⟨rfl, hb⟩
                  have HB3 := Lib.hid (HB2.out.trans (hb.mono HB2.out.size))
                  have HM3 := Lib.hid (HM2.out.below hb)
                  clear hb
                  go_wp2_with fail
                  refine (HMT.out _ HM3.out).mono ?_
                  rintro e w4 ⟨rfl, hb⟩
                  have HB4 := Lib.hid (HB3.out.trans (hb.mono HB3.out.size))
                  clear hb
                  go_wp2_with fail
                  go_ret
                  exact ⟨rfl, HB4.out⟩

/-! ### The row -/
set_option maxRecDepth 100000 in
theorem contract (H : Type) (enc : TypeId × Value → H) (W : World) (base : Nat) (args : Array Value) (ds gs : List (DataW H)) (before : List MemPlace)
    (hval : ∀ (j : Nat) t v, Tryd.f5.params[j]? = some t → args[j]? = some v → Value.okWide Tryd.prog W .any base t v)
    (hW : DataW.Whole enc Tryd.prog Tryd.f5.params.toList Rows.addressSameSpec.vars false W args.toList ds gs before) (hS : W.ShapedOpen Tryd.prog) :
    Calls Tryd.prog 5 args W fun e W' => ∃ v, e = .returned v ∧ Rows.addressSameSpec.post enc Tryd.prog Tryd.f5 false true false false W args v W' := by
  have hW' := hW
  obtain ⟨p, q, hA0, hV, rfl, hfz, hnd⟩ := hW
  have hA : DataW.TrodAll enc Tryd.prog W 0 (fun _ => true) true Tryd.f5.params.toList args.toList ds p := hA0
  rw [Tryd.params5] at hA hval
  obtain ⟨v0, vs0, d0, ds0, p0, q0, hargs, rfl, rfl, h0, r0⟩ := trodAll_cons hA
  obtain ⟨v1, vs1, d1, ds1, p1, q1, rfl, rfl, rfl, h1, r1⟩ := trodAll_cons r0
  obtain ⟨v2, vs2, d2, ds2, p2, q2, rfl, rfl, rfl, h2, r2⟩ := trodAll_cons r1
  obtain ⟨rfl, rfl, rfl⟩ := trodAll_nil r2
  obtain rfl : args = #[v0, v1, v2] := by cases args; simp_all
  obtain ⟨rfl, rfl⟩ := trodVars_none hV
  refine law_contract (tb := 4) laidOut (by kernel_rfl) rfl (by kernel_rfl) Tryd.underlying4 rfl hW' ?_
  clear hA0 hW' hA
  obtain ⟨A0, k0, l0, rfl, z0, s0, g0⟩ := opened_ints (open_rows Tryd.underlying22 cellsInt (by omega) (hval 0 22 v0 rfl rfl) h0) Tryd.underlying3
  obtain ⟨A1, k1, l1, rfl, z1, s1, g1⟩ := opened_ints (open_rows Tryd.underlying22 cellsInt (by omega) (hval 1 22 v1 rfl rfl) h1) Tryd.underlying3
  obtain ⟨a2, rfl, rfl, rfl, w2⟩ := open_int Tryd.underlying29 (hval 2 29 v2 rfl rfl) h2
  obtain ⟨n2, rfl, b2⟩ := bounds_u64 w2
  exact walk A0 k0 l0 z0 A1 k1 l1 z1 n2 b2 W g0 g1 (max_of_shaped hS)

theorem laid_met (os : Os) : laidMet Tryd.prog Rows.addressSameRow.laid ((laidWorld os).forCall (fun _ _ => 0) ⟨#[], #[.slice none 0 0, .slice none 0 0, .int .u64 0], []⟩).memory :=
  laidMet_of_run' 8 (by kernel_rfl) (by kernel_rfl)
theorem reads (os : Os) {H : Type} (enc : TypeId × Value → H) : ∃ places, DataW.whole enc Tryd.prog ((laidWorld os).forCall (fun _ _ => 0) ⟨#[], #[.slice none 0 0, .slice none 0 0, .int .u64 0], []⟩).memory Tryd.f5.params.toList Rows.addressSameSpec.vars false (#[.slice none 0 0, .slice none 0 0, .int .u64 0] : Array Value).toList 8 = some ([.nil, .nil, .lit (.int .u64 0)], [], places) :=
  ⟨[], by kernel_rfl⟩

set_option maxRecDepth 100000 in
theorem lifted (os : Os) (started : os.Started) (H : Type) (enc : TypeId × Value → H) (F : Stop.Interp) :
    ReturnsInHanded {} Tryd.checked os 5 .any ((OpenSpec.ofChange Rows.addressSameSpec).preRow enc Tryd.prog Tryd.f5 Rows.addressSameRow.domain false Rows.addressSameRow.laid) (((OpenSpec.ofChange Rows.addressSameSpec).at F).post enc Tryd.prog Tryd.f5 false true false false) := by
  obtain ⟨places, hx⟩ := reads os enc
  refine returnsInHanded_of_row (C := Tryd.checked) (s := OpenSpec.ofChange Rows.addressSameSpec) own started (by kernel_rfl) Tryd.func5
    (witness_row_at (enc := enc) (C := Tryd.checked) false (laidWorld os) #[.slice none 0 0, .slice none 0 0, .int .u64 0] rfl (by kernel_rfl) (by kernel_rfl) (by kernel_rfl)
      (OpenSpec.preRow_of_cond 8 hx (by kernel_rfl) (fun k hk => by cases hk) (by kernel_rfl) (laid_met os))) ?_
  intro W base args ds gs before hval hW _ _ _ _ hS _
  exact contract H enc W base args ds gs before hval hW hS

theorem said : Rows.AddressSameSaid :=
  OpenClaim.holds_of_cond 5 Tryd.f5 rfl rfl rfl rfl rfl rfl rfl ⟨rfl, rfl, rfl, rfl, rfl⟩ rfl rfl rfl rfl rfl (by kernel_rfl) Tryd.func5 (by kernel_rfl)
    (of_decide_eq_true (by kernel_rfl)) (by unfold Func.isWrapper; first | (rw [if_pos (by decide +kernel)]; kernel_rfl) | (rw [if_neg (by decide +kernel)]; exact ⟨rfl, rfl⟩))
    (fun os started H enc _ F => by rw [OpenClaim.pre_eq_preRow]; exact lifted os started H enc F)

theorem plain (f : FuncId) (fn : Func) (hf : Tryd.pinned.checked.prog.funcNamed "homecoming/homecominglaw09.AddressSame" = some f) (hfn : Tryd.pinned.checked.prog.funcs[f]? = some fn) :
    false = Tryd.pinned.checked.prog.looks [] ∧ ∀ (j : Nat) t, fn.params[j]? = some t → Tryd.pinned.checked.prog.wantsStandIn t = false := by
  obtain rfl : f = 5 := Option.some.inj ((show Tryd.prog.funcNamed "homecoming/homecominglaw09.AddressSame" = some 5 by kernel_rfl).symm.trans hf) |>.symm
  obtain rfl : fn = Tryd.f5 := (Option.some.inj (Tryd.func5.symm.trans hfn)).symm
  refine ⟨by kernel_rfl, fun j t ht => ?_⟩
  have hall : (Tryd.f5.params.toList.all fun u => !Tryd.prog.wantsStandIn u) = true := by kernel_rfl
  have hm : t ∈ Tryd.f5.params.toList := by simpa using Array.mem_of_getElem? ht
  exact (show Tryd.prog.wantsStandIn t = false by simpa using List.all_eq_true.1 hall t hm)

/-- THE STATEMENT. -/
theorem card : Rows.AddressSameCardSaid :=
  Claim7.holds_tied_plain_at .later [] _ _ _ _ said (fun _ h => by cases h) (by kernel_rfl) (fun _ h => by cases h) addressSame_row_tie rfl ⟨rfl, rfl⟩ (by kernel_rfl) rfl plain (by kernel_rfl)
#print axioms card
end Go.Proofs.YtpcbbmafallogaaDoor.addressSame
