/-
  Contracts of package pack, the reader: number, Read, Good, Rest, End, fail. What a reader is in memory. Condition: the reader lies in memory as its calls lay it.
-/
import Derived.Test.YtggecdgomgmhmaaDoorPakD
import Derived.WalkMore
import Derived.Deep.CutBlock
namespace Go.Proofs.YtggecdgomgmhmaaDoor
open Go.RowKit

/-- What number answers. -/
def numV (l : List UInt8) : Nat × Nat := match Pk.dec 18446744073709551615 0 0 l with
  | some (v, r) => (v, l.length - r.length)
  | none => (0, 0)
theorem and127b (b : UInt8) : bits .and .u8 (b.toNat : Int) 127 = ((b.toNat % 128 : Nat) : Int) := by
  have : ∀ x : Fin 256, bits .and .u8 (x.val : Int) 127 = ((x.val % 128 : Nat) : Int) := by decide +kernel
  exact this ⟨b.toNat, b.toNat_lt⟩
theorem or_nat (x y i : Nat) (hx : x < 2 ^ i) (h : x + y * 2 ^ i ≤ 18446744073709551615) : bits .or .u64 (x : Int) ((y * 2 ^ i : Nat) : Int) = ((x + y * 2 ^ i : Nat) : Int) := by
  have hy : y * 2 ^ i ≤ 18446744073709551615 := by omega
  have e1 : (BitVec.ofInt 64 (x : Int)).toNat = x := by
    rw [BitVec.toNat_ofInt]
    omega
  have e2 : (BitVec.ofInt 64 ((y * 2 ^ i : Nat) : Int)).toNat = y * 2 ^ i := by
    rw [BitVec.toNat_ofInt]
    omega
  have key : (BitVec.ofInt 64 (x : Int) ||| BitVec.ofInt 64 ((y * 2 ^ i : Nat) : Int)).toNat = x + y * 2 ^ i := by
    rw [BitVec.toNat_or, e1, e2, Nat.mul_comm, Nat.or_comm, ← Nat.two_pow_add_eq_or_of_lt hx, Nat.add_comm]
  show IntKind.u64.wrap ((BitVec.ofInt 64 (x : Int) ||| BitVec.ofInt 64 ((y * 2 ^ i : Nat) : Int)).toNat : Nat) = _
  rw [key, IntKind.wrap_u64]
  omega
theorem pow7 (i : Nat) (hi : i ≤ 9) : 2 ^ (7 * i) ≤ 9223372036854775808 := by
  have : 2 ^ (7 * i) ≤ 2 ^ 63 := Nat.pow_le_pow_right (by omega) (by omega)
  exact this
theorem step_le (acc i : Nat) (b : UInt8) (hacc : acc < 2 ^ (7 * i)) (hi : i ≤ 9) (h : ¬ (i = 9 ∧ 1 < b.toNat)) : acc + b.toNat % 128 * 2 ^ (7 * i) ≤ 18446744073709551615 ∧ (i ≤ 8 → acc + b.toNat % 128 * 2 ^ (7 * i) < 2 ^ (7 * (i + 1))) := by
  have hm : b.toNat % 128 ≤ 127 := by omega
  have hmul : b.toNat % 128 * 2 ^ (7 * i) ≤ 127 * 2 ^ (7 * i) := Nat.mul_le_mul_right _ hm
  have hstep := Pk.pow_step i
  refine ⟨?_, fun _ => by omega⟩
  rcases Nat.lt_or_ge i 9 with h9 | h9
  · have : 2 ^ (7 * i) ≤ 2 ^ 56 := Nat.pow_le_pow_right (by omega) (by omega)
    omega
  · obtain rfl : i = 9 := by omega
    have hb : b.toNat % 128 ≤ 1 := by omega
    have : b.toNat % 128 * 2 ^ (7 * 9) ≤ 1 * 2 ^ (7 * 9) := Nat.mul_le_mul_right _ hb
    omega
theorem or_step (acc i : Nat) (b : UInt8) (hacc : acc < 2 ^ (7 * i)) (hi : i ≤ 9) (h : ¬ (i = 9 ∧ 1 < b.toNat)) :
    bits .or .u64 (acc : Int) (IntKind.u64.wrap (IntKind.u64.wrap (bits .and .u8 (b.toNat : Int) 127) * 2 ^ (7 * i))) = ((acc + b.toNat % 128 * 2 ^ (7 * i) : Nat) : Int) := by
  have hle := (step_le acc i b hacc hi h).1
  have e1 : IntKind.u64.wrap (bits .and .u8 (b.toNat : Int) 127) = ((b.toNat % 128 : Nat) : Int) := by
    rw [and127b, IntKind.wrap_u64]
    omega
  have e2 : ((b.toNat % 128 : Nat) : Int) * 2 ^ (7 * i) = ((b.toNat % 128 * 2 ^ (7 * i) : Nat) : Int) := by
    push_cast
    rfl
  rw [e1, e2, IntKind.wrap_u64, Int.emod_eq_of_lt (by omega) (by omega)]
  exact or_nat acc _ _ hacc hle
/-- Where the loop of number stands. -/
def DecRel (l : List UInt8) (x y : Value) : Prop :=
  ∃ i acc : Nat, y = .int .i64 (i : Int) ∧ x = .int .u64 (acc : Int) ∧ i ≤ l.length ∧ i ≤ 9 ∧ acc < 2 ^ (7 * i) ∧ Pk.dec 18446744073709551615 0 0 l = Pk.dec 18446744073709551615 i acc (l.drop i)

set_option maxRecDepth 100000 in
theorem num_any (w : World) (s : ByteArray) (_hs : s.size ≤ maxLen) :
    Calls Tryd.prog 68 #[.string s] w fun e w' => e = .returned (.tuple #[.int .u64 ((numV s.data.toList).1 : Int), .int .i64 ((numV s.data.toList).2 : Int)]) ∧ w = w' := by
  unfold maxLen at _hs
  have HL := Lib.hid (show s.data.toList.length = s.size by simp)
  go_enter Tryd.func68, Tryd.ntmps68
  go_wp2_with fail
  go_step3
  go_wp2_with fail
  go_step3
  go_wp2_with fail
  go_loop [2, 8] (DecRel s.data.toList) (fun _ i => s.size - (intOf i).toNat)
  case atStart => exact ⟨0, 0, rfl, rfl, by omega, by omega, by simp, rfl⟩
  case round =>
    obtain ⟨i, acc, rfl, rfl, hi, hi9, hacc, hd⟩ := hrel
    rw [HL.out] at hi
    have HD := Lib.hid hd
    have HACC := Lib.hid hacc
    clear hd hacc
    by_cases hlt : i < s.size
    · have h7 := IntWalk.i64_in (7 * (i : Int)) (by omega)
      generalize hb : s[i] = b
      have hbb := b.toNat_lt
      have HDr := Lib.hid (show s.data.toList.drop i = b :: s.data.toList.drop (i + 1) by
        rw [List.drop_eq_getElem_cons (by rw [HL.out]; exact hlt), ← hb]
        rfl)
      go_upto_block 2 with fail
      clear h7 hb
      by_cases h1 : i = 9 ∧ 1 < b.toNat
      · obtain ⟨rfl, h1⟩ := h1
        have HV : Hid (numV s.data.toList = (0, 0)) := Lib.hid (by
          unfold numV
          rw [HD.out, HDr.out]
          simp [Pk.dec, h1])
        generalize bits .or .u64 (acc : Int) _ = z
        go_wp2_with fail
        go_ret2
        rw [HV.out]
        exact ⟨rfl, rfl⟩
      · rw [or_step acc i b HACC.out hi9 h1]
        have HST := Lib.hid (step_le acc i b HACC.out hi9 h1)
        have HDD := Lib.hid (show Pk.dec 18446744073709551615 0 0 s.data.toList = if 128 ≤ b.toNat then Pk.dec 18446744073709551615 (i + 1) (acc + b.toNat % 128 * 2 ^ (7 * i)) (s.data.toList.drop (i + 1)) else if b.toNat = 0 ∧ 0 < i then none else some (acc + b.toNat % 128 * 2 ^ (7 * i), s.data.toList.drop (i + 1)) by
          have hle := HST.out.1
          rw [HD.out, HDr.out]
          simp only [Pk.dec]
          rw [if_neg (by omega)]
          by_cases h2 : 128 ≤ b.toNat
          · rw [if_pos h2, if_pos h2]
          · rw [if_neg h2, if_neg h2]
            by_cases h3 : b.toNat = 0 ∧ 0 < i
            · rw [if_pos (.inl h3), if_pos h3]
            · rw [if_neg (by omega), if_neg h3])
        generalize acc + b.toNat % 128 * 2 ^ (7 * i) = z at HST HDD ⊢
        clear HD HDr HACC
        by_cases h2 : 128 ≤ b.toNat
        · have hi8 : i ≤ 8 := by omega
          have HR := Lib.hid (show Pk.dec 18446744073709551615 0 0 s.data.toList = Pk.dec 18446744073709551615 (i + 1) z (s.data.toList.drop (i + 1)) by rw [HDD.out, if_pos h2])
          clear h1 HDD
          go_wp2_with fail
          go_round
          case rel => exact ⟨i + 1, z, by go_num, rfl, by rw [HL.out]; omega, by omega, HST.out.2 hi8, HR.out⟩
          case measure => simp [intOf]; omega
        · by_cases h3 : b.toNat = 0 ∧ 0 < i
          · have HV : Hid (numV s.data.toList = (0, 0)) := Lib.hid (by
              unfold numV
              rw [HDD.out, if_neg h2, if_pos h3])
            obtain ⟨h3, h4⟩ := h3
            clear h1 HDD h2
            go_wp2_with fail
            all_goals go_ret2
            all_goals
              rw [HV.out]
              exact ⟨rfl, rfl⟩
          · have HV : Hid (numV s.data.toList = (z, i + 1)) := Lib.hid (by
              unfold numV
              rw [HDD.out, if_neg h2, if_neg h3]
              have := HL.out
              simp
              omega)
            clear HDD
            by_cases h4 : b.toNat = 0
            · obtain rfl : i = 0 := by omega
              clear h1 h2 h3
              go_wp2_with fail
              go_ret2
              rw [HV.out]
              exact ⟨rfl, rfl⟩
            · by_cases h9 : i = 9
              · subst h9
                have h5 : b.toNat ≤ 1 := by omega
                clear h1 h3
                go_wp2_with fail
                go_ret2
                rw [HV.out]
                exact ⟨rfl, rfl⟩
              · clear h1 h3
                go_wp2_with fail
                go_ret2
                rw [HV.out]
                exact ⟨by go_num, rfl⟩
    · have HV : Hid (numV s.data.toList = (0, 0)) := Lib.hid (by
        unfold numV
        rw [HD.out, List.drop_of_length_le (by rw [HL.out]; omega)]
        rfl)
      obtain rfl : i = s.size := by omega
      go_wp2_with fail
      go_ret2
      rw [HV.out]
      exact ⟨rfl, rfl⟩
end Go.Proofs.YtggecdgomgmhmaaDoor
