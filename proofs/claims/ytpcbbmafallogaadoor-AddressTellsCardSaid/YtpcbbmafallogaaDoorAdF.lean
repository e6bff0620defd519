/-
  Contracts of the law's awake (the chapter's examples) and made (an address by numbers); slices of integers that came in. Condition: one variable of the library's holds some number.
-/
import Derived.Test.YtpcbbmafallogaaDoorAdE
import Derived.Test.YtpcbbmafallogaaDoorShort09
namespace Go.Proofs.YtpcbbmafallogaaDoor
open Go.RowKit

theorem ex_mail : anyS [65, 110, 110, 46, 66, 43, 110, 101, 119, 115, 64, 69, 120, 97, 109, 112, 108, 101, 46, 79, 82, 71] = ba [97, 110, 110, 46, 98, 64, 101, 120, 97, 109, 112, 108, 101, 46, 111, 114, 103] ∧ anyB [65, 110, 110, 46, 66, 43, 110, 101, 119, 115, 64, 69, 120, 97, 109, 112, 108, 101, 46, 79, 82, 71] = true := by
  have h1 : Ad.mailText [65, 110, 110, 46, 66, 43, 110, 101, 119, 115, 64, 69, 120, 97, 109, 112, 108, 101, 46, 79, 82, 71] = [97, 110, 110, 46, 98, 64, 101, 120, 97, 109, 112, 108, 101, 46, 111, 114, 103] := by decide +kernel
  have h2 : Ad.mailOk [97, 110, 110, 46, 98, 64, 101, 120, 97, 109, 112, 108, 101, 46, 111, 114, 103] = true := by decide +kernel
  have h3 : mailB [65, 110, 110, 46, 66, 43, 110, 101, 119, 115, 64, 69, 120, 97, 109, 112, 108, 101, 46, 79, 82, 71] = true := by unfold mailB; rw [h1, h2]
  refine ⟨?_, by unfold anyB; rw [h3]; rfl⟩
  unfold anyS
  rw [if_pos h3]
  unfold mailS
  rw [if_pos h3, h1]
theorem ex_phone : anyS [43, 52, 57, 32, 40, 51, 48, 41, 32, 49, 50, 51, 52, 45, 53, 54, 55] = ba [43, 52, 57, 51, 48, 49, 50, 51, 52, 53, 54, 55] ∧ anyB [43, 52, 57, 32, 40, 51, 48, 41, 32, 49, 50, 51, 52, 45, 53, 54, 55] = true := by
  have h1 : mailB [43, 52, 57, 32, 40, 51, 48, 41, 32, 49, 50, 51, 52, 45, 53, 54, 55] = false := by unfold mailB; decide +kernel
  have h2 : Ad.phoneText [43, 52, 57, 32, 40, 51, 48, 41, 32, 49, 50, 51, 52, 45, 53, 54, 55] = [43, 52, 57, 51, 48, 49, 50, 51, 52, 53, 54, 55] := by decide +kernel
  have h3 : phoneB [43, 52, 57, 32, 40, 51, 48, 41, 32, 49, 50, 51, 52, 45, 53, 54, 55] = true := by unfold phoneB; rw [h2]; decide +kernel
  refine ⟨?_, by unfold anyB; rw [h1, h3]; rfl⟩
  unfold anyS
  rw [if_neg (by rw [h1]; decide)]
  unfold phoneS
  rw [if_pos h3, h2]
theorem awake_any (w : World) (hm : MaxIs w) :
    Calls Tryd.prog 8 #[] w fun e w' => e = .returned (.bool true) ∧ Below w.heap.size w w' := by
  have h1 := any_any ⟨#[65, 110, 110, 46, 66, 43, 110, 101, 119, 115, 64, 69, 120, 97, 109, 112, 108, 101, 46, 79, 82, 71]⟩ (by decide) w hm
  rw [show (⟨#[65, 110, 110, 46, 66, 43, 110, 101, 119, 115, 64, 69, 120, 97, 109, 112, 108, 101, 46, 79, 82, 71]⟩ : ByteArray).data.toList = [65, 110, 110, 46, 66, 43, 110, 101, 119, 115, 64, 69, 120, 97, 109, 112, 108, 101, 46, 79, 82, 71] from rfl, ex_mail.1, ex_mail.2] at h1
  have h2 := fun W (h : MaxIs W) => any_any ⟨#[43, 52, 57, 32, 40, 51, 48, 41, 32, 49, 50, 51, 52, 45, 53, 54, 55]⟩ (by decide) W h
  rw [show (⟨#[43, 52, 57, 32, 40, 51, 48, 41, 32, 49, 50, 51, 52, 45, 53, 54, 55]⟩ : ByteArray).data.toList = [43, 52, 57, 32, 40, 51, 48, 41, 32, 49, 50, 51, 52, 45, 53, 54, 55] from rfl, ex_phone.1, ex_phone.2] at h2
  have H1 := Lib.hid h1
  have H2 := Lib.hid h2
  have HM := Lib.hid hm
  clear h1 h2 hm
  rw [show ba [97, 110, 110, 46, 98, 64, 101, 120, 97, 109, 112, 108, 101, 46, 111, 114, 103] = ⟨#[97, 110, 110, 46, 98, 64, 101, 120, 97, 109, 112, 108, 101, 46, 111, 114, 103]⟩ from rfl] at H1
  rw [show ba [43, 52, 57, 51, 48, 49, 50, 51, 52, 53, 54, 55] = ⟨#[43, 52, 57, 51, 48, 49, 50, 51, 52, 53, 54, 55]⟩ from rfl] at H2
  go_enter Tryd.func8, Tryd.ntmps8
  go_wp2_with fail
  refine H1.out.mono ?_
  rintro e w1 ⟨rfl, hb⟩
  have HB := Lib.hid hb
  have HMA := Lib.hid (HM.out.below hb)
  clear hb H1
  go_wp2_with fail
  refine (H2.out _ HMA.out).mono ?_
  rintro e w2 ⟨rfl, hb⟩
  have HB2 := Lib.hid (HB.out.trans (hb.mono HB.out.size))
  clear hb H2
  go_wp2_with fail
  go_ret
  exact ⟨rfl, HB2.out⟩

/-- Integers as cells. -/
def ci (l : List Int) : List Value := l.map fun z : Int => .int .i64 z
theorem ci_get (l : List Int) (i : Nat) (h : i < l.length) : (ci l)[i]? = some (.int .i64 l[i]) := by simp [ci, h]
section
open Go.ChangeShapes Go.WideShapes Go.ChangeAt
theorem opened_ints {H : Type} {enc : TypeId × Value → H} {P : Program} {W : World} {base : Nat} {held : Bool} {e : TypeId} {v : Value}
    (h : ∃ (A : Option Addr) (n c : Nat), v = .slice A n c ∧ n ≤ maxLen ∧ ∀ i, i < n → ∃ (a : Addr) (cs : List Value) (fuel : Nat) (x : DataW H × List MemPlace), A = some a ∧ a.block < W.heap.size ∧ cs.length = 1 ∧ (∀ j, j < 1 → W.cell? ((a.add (i * 1)).add j) = cs[j]?) ∧
      DataW.trod enc P W base (fun _ => true) held fuel e cs = some x) (he : P.underlying e = some (.int .i64)) :
    ∃ (A : Option Addr) (c : Nat) (l : List Int), v = .slice A l.length c ∧ l.length ≤ maxLen ∧ (∀ z ∈ l, -9223372036854775808 ≤ z ∧ z ≤ 9223372036854775807) ∧ Lies (fun _ => False) W A (ci l) := by
  obtain ⟨A, n, c, rfl, hn, hel⟩ := h
  have hel2 : ∀ i, i < n → ∃ z : Int, (-9223372036854775808 ≤ z ∧ z ≤ 9223372036854775807) ∧ ∃ a, A = some a ∧ a.block < W.heap.size ∧ W.cell? (a.add i) = some (.int .i64 z) := by
    intro i hi
    obtain ⟨a, cs, fuel, x, hA, hb, hl, hc, htr⟩ := hel i hi
    obtain ⟨z, rfl, _, hz⟩ := DataW.trod_int he htr
    have := hc 0 (by omega)
    have h0 : (a.add (i * 1)).add 0 = a.add i := by rw [Nat.mul_one]; rfl
    rw [h0] at this
    exact ⟨z, bounds_int hz, a, hA, hb, this⟩
  obtain ⟨l, rfl, hl⟩ := exists_list hel2
  refine ⟨A, c, l, rfl, hn, fun s hs => ?_, fun i u hi => ?_⟩
  · obtain ⟨i, hi, rfl⟩ := List.mem_iff_getElem.1 hs
    exact (hl i hi).1
  · have hi' := (List.getElem?_eq_some_iff.1 hi).1
    have hi2 : i < l.length := by simpa [ci] using hi'
    obtain ⟨_, a, h1, h2, h4⟩ := hl i hi2
    rw [ci_get l i hi2] at hi
    exact ⟨a, h1, h2, fun hf => hf, by rw [h4, hi]⟩
end
theorem and15 (x : Int) : ∃ m : Nat, m < 16 ∧ bits .and .i64 x 15 = (m : Int) := by
  have hm : (BitVec.ofInt 64 15).toNat = 2 ^ 4 - 1 := by decide
  have key : (BitVec.ofInt 64 x &&& BitVec.ofInt 64 15).toNat = (x % ((2 ^ 64 : Nat) : Int)).toNat % 2 ^ 4 := by
    rw [BitVec.toNat_and, BitVec.toNat_ofInt, hm, Nat.and_two_pow_sub_one_eq_mod]
  refine ⟨(x % ((2 ^ 64 : Nat) : Int)).toNat % 2 ^ 4, Nat.mod_lt _ (by decide), ?_⟩
  show IntKind.i64.wrap ((BitVec.ofInt 64 x &&& BitVec.ofInt 64 15).toNat : Nat) = _
  rw [key, IntKind.wrap_i64]
  omega
theorem run_mid (T : ByteArray) (m : Nat) (h : m + 1 ≤ T.size) (W : World) : (Instr.slice 9 (.string T) (some (.int .i64 (m : Int))) (some (.int .i64 ((m : Int) + 1))) none).run Tryd.prog W = .ok (.string (T.extract m (m + 1))) W := by
  have h1 : (0 : Int) ≤ (m : Int) + 1 ∧ (m : Int) + 1 ≤ (T.size : Int) := by omega
  have h2 : ((m : Int) + 1).toNat = m + 1 := by omega
  have h3 : (0 : Int) ≤ (m : Int) ∧ (m : Int) ≤ ((m + 1 : Nat) : Int) := by omega
  simp [Instr.slice, Instr.sliceBounds, Instr.sliceBound, asIntOf, run_underlying Tryd.underlying9, h1, h2, h3]
def tabM : ByteArray := ⟨#[97, 98, 46, 99, 45, 100, 95, 101, 49, 64, 120, 46, 121, 122, 48, 57]⟩
def tabP : ByteArray := ⟨#[48, 49, 50, 51, 52, 53, 54, 55, 56, 57, 32, 45, 40, 41, 49, 50]⟩
/-- An address by numbers: some text of at most 31 bytes. -/
theorem one_more (S : ByteArray) (k m : Nat) (T : ByteArray) (hS : S.size ≤ k + 1) : (S ++ T.extract m (m + 1)).size ≤ k + 1 + 1 := by
  rw [ByteArray.size_append, ByteArray.size_extract]
  omega
set_option maxRecDepth 100000 in
set_option maxHeartbeats 4000000 in
theorem made_any (A0 : Option Addr) (c0 : Nat) (l : List Int) (hl : l.length ≤ maxLen) (ph : Bool) (w : World) (hA : Lies (fun _ => False) w A0 (ci l)) :
    Calls Tryd.prog 10 #[.slice A0 l.length c0, .bool ph] w fun e w' => (∃ S : ByteArray, S.size ≤ 31 ∧ e = .returned (.string S)) ∧ w' = w := by
  unfold maxLen at hl
  obtain ⟨S0, hS0, HS0⟩ : ∃ S0 : ByteArray, S0.size ≤ 1 ∧ (if ph = true then (⟨#[43]⟩ : ByteArray) else ⟨#[]⟩) = S0 := ⟨_, by cases ph <;> decide, rfl⟩
  have HA := Lib.hid hA
  clear hA
  cases ph with
  | true =>
    simp only [if_pos] at HS0
    subst HS0
    go_enter Tryd.func10, Tryd.ntmps10
    go_wp2_with fail
    go_loopw [5, 8, 9] (fun v i _ wr => wr = w ∧ ∃ (k : Nat) (S : ByteArray), i = .int .i64 (k : Int) ∧ v = .string S ∧ S.size ≤ k + 1 ∧ k ≤ 30 ∧ k ≤ l.length) (fun _ i _ _ => 31 - (intOf i).toNat)
    case atStart => exact ⟨rfl, 0, _, rfl, rfl, by decide, by omega, by omega⟩
    case round =>
      obtain ⟨hwr, k, S, rfl, rfl, hS, hk, hkl⟩ := hrel
      obtain rfl : w = wr := hwr.symm
      clear hwr
      by_cases hlt : k < l.length
      · have hki : (k : Int) < (l.length : Int) := by omega
        by_cases h30 : k < 30
        · have h30i : (k : Int) < 30 := by omega
          obtain ⟨a, rfl, _, _, hcell⟩ := HA.out k _ (ci_get l k hlt)
          obtain ⟨z, hz⟩ : ∃ z, l[k] = z := ⟨_, rfl⟩
          rw [hz] at hcell
          obtain ⟨m, hm, hmz⟩ := and15 z
          have HS := Lib.hid (fun T => one_more S k m T hS)
          have hs1 : ∀ W, (Instr.slice 9 (.string ⟨#[48, 49, 50, 51, 52, 53, 54, 55, 56, 57, 32, 45, 40, 41, 49, 50]⟩) (some (.int .i64 (m : Int))) (some (.int .i64 ((m : Int) + 1))) none).run Tryd.prog W = .ok (.string (tabP.extract m (m + 1))) W := fun W => run_mid tabP m (by show m + 1 ≤ 16; omega) W
          have hs2 : ∀ W, (Instr.slice 9 (.string ⟨#[97, 98, 46, 99, 45, 100, 95, 101, 49, 64, 120, 46, 121, 122, 48, 57]⟩) (some (.int .i64 (m : Int))) (some (.int .i64 ((m : Int) + 1))) none).run Tryd.prog W = .ok (.string (tabM.extract m (m + 1))) W := fun W => run_mid tabM m (by show m + 1 ≤ 16; omega) W
          have hz1 : (tabP.extract m (m + 1)).size ≤ 1 := by rw [ByteArray.size_extract]; omega
          have hz2 : (tabM.extract m (m + 1)).size ≤ 1 := by rw [ByteArray.size_extract]; omega
          have HSP := Lib.hid (HS.out tabP)
          have HSM := Lib.hid (HS.out tabM)
          generalize tabP.extract m (m + 1) = TP at hs1 hz1 HSP
          generalize tabM.extract m (m + 1) = TM at hs2 hz2 HSM
          have hS32 : S.size ≤ 32 := by omega
          clear hz
          go_wp2_with fail
          go_roundw
          case rel => exact ⟨trivial, k + 1, _, by go_num, rfl, HSP.out, by omega, by omega⟩
          case measure => simp [intOf]; omega
        · have h30i : ¬ (k : Int) < 30 := by omega
          go_wp2_with fail
          go_ret
          exact ⟨⟨S, by omega, rfl⟩, rfl⟩
      · have hki : ¬ (k : Int) < (l.length : Int) := by omega
        go_wp2_with fail
        go_ret
        exact ⟨⟨S, by omega, rfl⟩, rfl⟩
  | false =>
    have e : (⟨#[]⟩ : ByteArray) = S0 := HS0
    subst e
    go_enter Tryd.func10, Tryd.ntmps10
    go_wp2_with fail
    go_loopw [5, 8, 9] (fun v i _ wr => wr = w ∧ ∃ (k : Nat) (S : ByteArray), i = .int .i64 (k : Int) ∧ v = .string S ∧ S.size ≤ k + 1 ∧ k ≤ 30 ∧ k ≤ l.length) (fun _ i _ _ => 31 - (intOf i).toNat)
    case atStart => exact ⟨rfl, 0, _, rfl, rfl, by decide, by omega, by omega⟩
    case round =>
      obtain ⟨hwr, k, S, rfl, rfl, hS, hk, hkl⟩ := hrel
      obtain rfl : w = wr := hwr.symm
      clear hwr
      by_cases hlt : k < l.length
      · have hki : (k : Int) < (l.length : Int) := by omega
        by_cases h30 : k < 30
        · have h30i : (k : Int) < 30 := by omega
          obtain ⟨a, rfl, _, _, hcell⟩ := HA.out k _ (ci_get l k hlt)
          obtain ⟨z, hz⟩ : ∃ z, l[k] = z := ⟨_, rfl⟩
          rw [hz] at hcell
          obtain ⟨m, hm, hmz⟩ := and15 z
          have HS := Lib.hid (fun T => one_more S k m T hS)
          have hs1 : ∀ W, (Instr.slice 9 (.string ⟨#[48, 49, 50, 51, 52, 53, 54, 55, 56, 57, 32, 45, 40, 41, 49, 50]⟩) (some (.int .i64 (m : Int))) (some (.int .i64 ((m : Int) + 1))) none).run Tryd.prog W = .ok (.string (tabP.extract m (m + 1))) W := fun W => run_mid tabP m (by show m + 1 ≤ 16; omega) W
          have hs2 : ∀ W, (Instr.slice 9 (.string ⟨#[97, 98, 46, 99, 45, 100, 95, 101, 49, 64, 120, 46, 121, 122, 48, 57]⟩) (some (.int .i64 (m : Int))) (some (.int .i64 ((m : Int) + 1))) none).run Tryd.prog W = .ok (.string (tabM.extract m (m + 1))) W := fun W => run_mid tabM m (by show m + 1 ≤ 16; omega) W
          have hz1 : (tabP.extract m (m + 1)).size ≤ 1 := by rw [ByteArray.size_extract]; omega
          have hz2 : (tabM.extract m (m + 1)).size ≤ 1 := by rw [ByteArray.size_extract]; omega
          have HSP := Lib.hid (HS.out tabP)
          have HSM := Lib.hid (HS.out tabM)
          generalize tabP.extract m (m + 1) = TP at hs1 hz1 HSP
          generalize tabM.extract m (m + 1) = TM at hs2 hz2 HSM
          have hS32 : S.size ≤ 32 := by omega
          clear hz
          go_wp2_with fail
          go_roundw
          case rel => exact ⟨trivial, k + 1, _, by go_num, rfl, HSM.out, by omega, by omega⟩
          case measure => simp [intOf]; omega
        · have h30i : ¬ (k : Int) < 30 := by omega
          go_wp2_with fail
          go_ret
          exact ⟨⟨S, by omega, rfl⟩, rfl⟩
      · have hki : ¬ (k : Int) < (l.length : Int) := by omega
        go_wp2_with fail
        go_ret
        exact ⟨⟨S, by omega, rfl⟩, rfl⟩
end Go.Proofs.YtpcbbmafallogaaDoor
