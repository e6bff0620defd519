/-
  Contracts of token.IsCode and of the document's own IsCode, value and Clean. Condition: texts of at most 1000000 bytes.
-/
import Derived.Test.YtcijkfnhjajfbaaDoorTkE
namespace Go.Proofs.YtcijkfnhjajfbaaDoor
open Go.RowKit

theorem num10_iff (c : UInt8) : Tk.num10 c = true ↔ 48 ≤ c.toNat ∧ c.toNat ≤ 57 := by
  unfold Tk.num10
  simp
theorem all_take_succ (L : List UInt8) (k : Nat) (h : k < L.length) (h1 : (L.take k).all Tk.num10 = true) (h2 : Tk.num10 L[k] = true) : (L.take (k + 1)).all Tk.num10 = true := by
  rw [List.take_succ_eq_append_getElem h, List.all_append, h1]
  simp [h2]
theorem isCode_not (L : List UInt8) (k : Nat) (h : k < L.length) (h2 : Tk.num10 L[k] = false) : Tk.isCode L = false := by
  unfold Tk.isCode
  have : L.all Tk.num10 = false := by
    rw [List.all_eq_false]
    exact ⟨L[k], List.getElem_mem h, by rw [h2]; decide⟩
  rw [this]
  rfl

set_option maxHeartbeats 2000000 in
set_option maxRecDepth 100000 in
theorem iscode_any (s : ByteArray) (_hs : s.size ≤ 1000000) (w : World) :
    Calls Tryd.prog 10 #[.string s] w fun e w' => e = .returned (.bool (Tk.isCode s.data.toList)) ∧ w = w' := by
  obtain ⟨L, hL⟩ : ∃ L, s.data.toList = L := ⟨_, rfl⟩
  have hLl : L.length = s.size := by rw [← hL]; simp
  have HL := Lib.hid hL
  by_cases h6 : s.size = 6
  · have hz : (s.size : Int) = 6 := by omega
    go_enter Tryd.func10, Tryd.ntmps10
    go_wp2_with fail
    go_loop [3, 9] (fun _ i => ∃ k : Nat, i = .int .i64 (k : Int) ∧ k ≤ 6 ∧ (L.take k).all Tk.num10 = true) (fun _ i => 6 - (intOf i).toNat)
    case atStart => exact ⟨0, rfl, by omega, rfl⟩
    case round =>
      obtain ⟨k, rfl, hk, hall⟩ := hrel
      have HA := Lib.hid hall
      clear hall
      by_cases hlt : k < 6
      · have hks : k < s.size := by omega
        have hsx : L[k]'(by omega) = s[k] := by subst hL; simp; rfl
        obtain ⟨c, hc⟩ : ∃ c, s[k] = c := ⟨_, rfl⟩
        have hck : L[k]'(by omega) = c := by rw [hsx, hc]
        have HCK := Lib.hid hck
        clear hck hsx
        by_cases h48 : 48 ≤ c.toNat
        · have g1 : ¬ (c.toNat : Int) < 48 := by omega
          by_cases h57 : c.toNat ≤ 57
          · have g2 : ¬ (57 : Int) < (c.toNat : Int) := by omega
            go_wp2_with fail
            go_round
            case rel => exact ⟨k + 1, by go_num, by omega, all_take_succ L k (by omega) HA.out (by rw [HCK.out]; exact (num10_iff c).2 ⟨h48, h57⟩)⟩
            case measure => simp [intOf]; omega
          · have g2 : (57 : Int) < (c.toNat : Int) := by omega
            go_wp2_with fail
            go_ret
            refine ⟨?_, rfl⟩
            (try rw [HL.out])
            rw [isCode_not L k (by omega) (by
              rw [HCK.out]
              cases h : Tk.num10 c with
              | false => rfl
              | true => have := (num10_iff c).1 h; omega)]
            rfl
        · have g1 : (c.toNat : Int) < 48 := by omega
          go_wp2_with fail
          go_ret
          refine ⟨?_, rfl⟩
          (try rw [HL.out])
          rw [isCode_not L k (by omega) (by
            rw [HCK.out]
            cases h : Tk.num10 c with
            | false => rfl
            | true => have := (num10_iff c).1 h; omega)]
          rfl
      · obtain rfl : k = 6 := by omega
        have hi : Tk.isCode L = true := by
          have := HA.out
          rw [List.take_of_length_le (by omega)] at this
          unfold Tk.isCode
          rw [this, hLl, h6]
          rfl
        have HI := Lib.hid hi
        clear hi
        go_wp2_with fail
        go_ret
        exact ⟨by (try rw [HL.out]); rw [HI.out]; rfl, rfl⟩
  · have hz : ¬ (s.size : Int) = 6 := by omega
    have hi : Tk.isCode L = false := by
      unfold Tk.isCode
      rw [hLl]
      simp [h6]
    have HI := Lib.hid hi
    clear hi
    go_enter Tryd.func10, Tryd.ntmps10
    go_wp2_with fail
    go_ret
    exact ⟨by (try rw [HL.out]); rw [HI.out]; rfl, rfl⟩

set_option maxHeartbeats 2000000 in
set_option maxRecDepth 100000 in
theorem ref_iscode (s : ByteArray) (hs : s.size ≤ 1000000) (w : World) :
    Calls Tryd.prog 19 #[.string s] w fun e w' => e = .returned (.bool (Tk.isCode s.data.toList)) ∧ w = w' := by
  obtain ⟨L, hL⟩ : ∃ L, s.data.toList = L := ⟨_, rfl⟩
  have hLl : L.length = s.size := by rw [← hL]; simp
  have HL := Lib.hid hL
  go_enter Tryd.func19, Tryd.ntmps19
  go_wp2_with fail
  go_loop [3] (fun i => ∃ k : Nat, i = .int .i64 (k : Int) ∧ k ≤ s.size ∧ (L.take k).all Tk.num10 = true) (fun i => s.size - (intOf i).toNat)
  case atStart => exact ⟨0, rfl, by omega, rfl⟩
  case round =>
    obtain ⟨k, rfl, hk, hall⟩ := hrel
    have HA := Lib.hid hall
    clear hall
    by_cases hlt : k < s.size
    · have hki : (k : Int) < (s.size : Int) := by omega
      have hsx : L[k]'(by omega) = s[k] := by subst hL; simp; rfl
      obtain ⟨c, hc⟩ : ∃ c, s[k] = c := ⟨_, rfl⟩
      have hck : L[k]'(by omega) = c := by rw [hsx, hc]
      have HCK := Lib.hid hck
      clear hck hsx
      by_cases h48 : 48 ≤ c.toNat
      · have g1 : ¬ (c.toNat : Int) < 48 := by omega
        by_cases h57 : c.toNat ≤ 57
        · have g2 : ¬ (57 : Int) < (c.toNat : Int) := by omega
          go_wp2_with fail
          go_round
          case rel => exact ⟨k + 1, by go_num, by omega, all_take_succ L k (by omega) HA.out (by rw [HCK.out]; exact (num10_iff c).2 ⟨h48, h57⟩)⟩
          case measure => simp [intOf]; omega
        · have g2 : (57 : Int) < (c.toNat : Int) := by omega
          go_wp2_with fail
          go_ret
          refine ⟨?_, rfl⟩
          (try rw [HL.out])
          rw [isCode_not L k (by omega) (by
            rw [HCK.out]
            cases h : Tk.num10 c with
            | false => rfl
            | true => have := (num10_iff c).1 h; omega)]
          rfl
      · have g1 : (c.toNat : Int) < 48 := by omega
        go_wp2_with fail
        go_ret
        refine ⟨?_, rfl⟩
        (try rw [HL.out])
        rw [isCode_not L k (by omega) (by
          rw [HCK.out]
          cases h : Tk.num10 c with
          | false => rfl
          | true => have := (num10_iff c).1 h; omega)]
        rfl
    · obtain rfl : k = s.size := by omega
      have ha := HA.out
      rw [List.take_of_length_le (by omega)] at ha
      have hi : ((s.size : Int) == 6) = Tk.isCode L := by
        unfold Tk.isCode
        rw [ha, hLl, Bool.true_and, Bool.eq_iff_iff, beq_iff_eq, beq_iff_eq]
        omega
      have HI := Lib.hid hi
      clear hi ha
      go_wp2_with fail
      go_ret
      exact ⟨by (try rw [HL.out]); rw [← HI.out]; rfl, rfl⟩

/-- A digit's number, or -1. -/
def valI (c : UInt8) : Int := if Tk.isDig c = true then (Tk.val c : Int) else -1
theorem digs32 (i : Nat) (h : i < 32) (W : World) : (Instr.index 9 (.string ⟨#[97, 98, 99, 100, 101, 102, 103, 104, 105, 106, 107, 108, 109, 110, 111, 112, 113, 114, 115, 116, 117, 118, 119, 120, 121, 122, 50, 51, 52, 53, 54, 55]⟩) (.int .i64 (i : Int))).run Tryd.prog W = .ok (.int .u8 ((Tk.dig i).toNat : Int)) W := run_digit i h .i64 W
set_option maxHeartbeats 2000000 in
set_option maxRecDepth 100000 in
theorem ref_value (c : UInt8) (w : World) :
    Calls Tryd.prog 26 #[.int .u8 (c.toNat : Int)] w fun e w' => e = .returned (.int .i64 (valI c)) ∧ w = w' := by
  go_enter Tryd.func26, Tryd.ntmps26
  go_wp2_with fail
  go_loop [3] (fun i => ∃ k : Nat, i = .int .i64 (k : Int) ∧ k ≤ 32 ∧ ∀ t, t < k → Tk.dig t ≠ c) (fun i => 32 - (intOf i).toNat)
  case atStart => exact ⟨0, rfl, by omega, fun t h => by omega⟩
  case round =>
    obtain ⟨k, rfl, hk, hall⟩ := hrel
    have HA := Lib.hid hall
    clear hall
    by_cases hlt : k < 32
    · have hki : (k : Int) < 32 := by omega
      have hidx := digs32 k hlt
      have hvd := Tk.val_dig k hlt
      obtain ⟨x, hx⟩ : ∃ x, Tk.dig k = x := ⟨_, rfl⟩
      rw [hx] at hidx hvd
      have HX := Lib.hid hx
      clear hx
      by_cases hq : x = c
      · subst hq
        have HV := Lib.hid hvd
        clear hvd
        go_wp2_with fail
        go_ret
        refine ⟨?_, rfl⟩
        unfold valI
        rw [if_pos HV.out.2, HV.out.1]
        rfl
      · have hne : ((x.toNat : Int) == (c.toNat : Int)) = false := beq_eq_false_iff_ne.2 (fun h => hq (UInt8.toNat_inj.1 (by omega)))
        have HQ := Lib.hid hq
        clear hvd hq
        go_wp2_with fail
        go_round
        case rel => exact ⟨k + 1, by go_num, by omega, fun t ht => by
          rcases Nat.lt_or_ge t k with h | h
          · exact HA.out t h
          · obtain rfl : t = k := by omega
            rw [HX.out]; exact HQ.out⟩
        case measure => simp [intOf]; omega
    · obtain rfl : k = 32 := by omega
      have hi : valI c = -1 := by
        unfold valI
        rw [if_neg]
        intro h
        have h2 := Tk.dig_val c h
        exact HA.out _ h2.2 h2.1
      have HI := Lib.hid hi
      clear hi
      go_wp2_with fail
      go_ret
      exact ⟨by rw [HI.out]; rfl, rfl⟩
end Go.Proofs.YtcijkfnhjajfbaaDoor
