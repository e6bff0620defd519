/-
  DiskBreaks: a disk that breaks in a step does all ahead of it, and nothing behind it, till it crashes; the write in which it breaks may be kept: for every two numbers the statement's function returns true and changes nothing that was there. No condition.
-/
import Derived.Test.YtlifaegmidgcnaaDiskF
import Derived.Test.YtlifaegmidgcnaaDiskT
namespace Go.Proofs.Ytlifaegmidgcnaa.diskBreaks
open Go.ChangeShapes Go.WideShapes Go.ChangeAt Go.RowKit
open Go.ChangeMaps (open_string shut_string)

def xx : ByteArray := ⟨#[120]⟩
/-- The disk ahead of step i. -/
def brkD (n i : Nat) : Dsk := ⟨20, List.replicate 20 0, (List.range (min (i - 1) n)).map (fun j => (j + 1, xx)), (n : Int) - (min (i - 1) n : Nat), decide (n < i)⟩
theorem brk_start (n : Nat) (h : 1 ≤ n) : (Dsk.fresh 20).brk (n : Int) = brkD n 1 := by
  have : decide (n < 1) = false := by simp; omega
  unfold Dsk.brk brkD
  rw [this]
  simp [Dsk.fresh]
theorem brk_next (n i : Nat) (h1 : 1 ≤ i) (h : i ≤ n) : (brkD n i).write i xx = brkD n (i + 1) := by
  have e1 : min (i - 1) n = i - 1 := by omega
  have e2 : min (i + 1 - 1) n = i - 1 + 1 := by omega
  unfold Dsk.write brkD
  simp only [e1, e2]
  congr 1
  · rw [List.range_succ, List.map_append, List.map_cons, List.map_nil, show i - 1 + 1 = i by omega]
  · simp only [stepL]
    rw [if_pos (by omega)]
    omega
  · simp [stepB]
    omega
theorem brk_same (n i : Nat) (h : n < i) : brkD n i = brkD n (i + 1) := by
  have e1 : min (i - 1) n = n := by omega
  have e2 : min (i + 1 - 1) n = n := by omega
  have e3 : decide (n < i) = true := by simpa using h
  have e4 : decide (n < i + 1) = true := by simp; omega
  unfold brkD
  rw [e1, e2, e3, e4]
theorem brk_bytes : ∀ n : Fin 13, Dk.bytes (brkD n.val 14).fail.pend = n.val := by decide +kernel
theorem brk_text : ∀ n : Fin 13, ∀ k : Fin 16, (part ((brkD n.val 14).fail.crash (k.val : Int)).lat 1 14).data.toList = (List.range 14).map (fun i => if i < min k.val n.val then 120 else 0) := by decide +kernel

def BrkRel (B : Nat) (W : World) (d n : Nat) (i : Value) (wr : World) : Prop := ∃ k : Nat, 1 ≤ k ∧ k ≤ 14 ∧ i = .int .i64 (k : Int) ∧ On B W wr d (brkD n k)

theorem read14 (n k : Nat) (hn : n ≤ 12) (hk : k < 16) : ∃ S : ByteArray, S.size = 14 ∧ Hid (∀ i (_ : i < 14) (hp : i < S.size), S[i] = if i < min k n then 120 else 0) ∧ part ((brkD n 14).fail.crash (k : Int)).lat 1 14 = S := by
  have ht := brk_text ⟨n, by omega⟩ ⟨k, hk⟩
  simp only at ht
  refine ⟨_, ?_, fun i hi hp => ?_, rfl⟩
  · have := congrArg List.length ht
    simpa using this
  · have h1 := bytes_get _ i hp
    rw [ht] at h1
    simp [hi] at h1
    exact h1.symm

set_option maxRecDepth 100000 in
set_option maxHeartbeats 4000000 in
theorem walk (q0 q1 : Int) (w : World) :
    Calls Try.prog 6 #[.int .i64 q0, .int .i64 q1] w fun e w' => e = .returned (.bool true) ∧ Below w.heap.size w w' := by
  obtain ⟨p, hp, ep⟩ := mod_nat q0 12 (by omega) (by omega)
  obtain ⟨m, hm, em⟩ := mod_nat q1 16 (by omega) (by omega)
  simp only [Int.cast_ofNat_Int] at ep em
  go_enter Try.func6, Try.ntmps6
  go_wp2_with fail
  refine (awake_any _).mono ?_
  rintro e w1 ⟨rfl, hb1⟩
  have HB1 := Lib.hid hb1
  have hz1 : w.heap.size ≤ w1.heap.size := hb1.size
  clear hb1
  go_wp2_with fail
  refine (new_on (B := w1.heap.size) (W := w1) 20 (by omega) (by omega) (by omega) (Below.refl _ _)).mono ?_
  rintro e w2 ⟨d, rfl, o2⟩
  obtain ⟨n, hn⟩ : ∃ n : Nat, n = 1 + p := ⟨_, rfl⟩
  have hn1 : 1 ≤ n := by omega
  have hn2 : n ≤ 12 := by omega
  have hnp : (1 : Int) + (p : Int) = (n : Int) := by omega
  clear hn
  go_wp2_with fail
  refine (break_on o2 (n : Int) (by omega) (by omega)).mono ?_
  rintro e w3 ⟨rfl, o3⟩
  rw [brk_start n hn1] at o3
  clear o2
  go_wp2_with fail
  clear hnp ep
  go_loopw [8] (BrkRel w1.heap.size w1 d n) (fun i _ => 14 - (intOf i).toNat)
  case atStart => exact ⟨1, by omega, by omega, rfl, o3⟩
  case round =>
    clear o3
    obtain ⟨i, hi1, hi2, rfl, oi⟩ := hrel
    by_cases hlt : i < 14
    · by_cases hin : n < i
      · have hbr : (brkD n i).broken = true := by simpa [brkD] using hin
        go_wp2_with fail
        refine (write_on_io oi hbr (i : Int) xx (by decide) (hasB_yes (by decide) (by omega) (by show (i : Int) ≤ (20 : Nat) - ((1 : Nat) : Int); omega))).mono ?_
        rintro e w' ⟨rfl, rfl⟩
        have HBr := Lib.hid (broken_on oi)
        rw [hbr] at HBr
        rw [brk_same n i hin] at oi
        clear hbr
        go_wp2_with fail
        refine HBr.out.mono ?_
        rintro e w' ⟨rfl, rfl⟩
        go_wp2_with fail
        go_roundw
        case rel => exact ⟨i + 1, by omega, by omega, by go_num, oi⟩
        case measure => simp [intOf]; omega
      · have hbr : (brkD n i).broken = false := by simpa [brkD] using hin
        have HW := Lib.hid (write_on oi hbr i xx (by show i + 1 ≤ 20; omega) (by show ((List.range (min (i - 1) n)).map (fun j => (j + 1, xx))).length < 1000; simp; omega))
        have HE : Hid (errOf (stepB (brkD n i).left false) = if i = n then 18 else 0) := by
          show errOf (stepB ((n : Int) - (min (i - 1) n : Nat)) false) = _
          by_cases h : i = n
          · have h1 : (n : Int) - (min (i - 1) n : Nat) = 1 := by omega
            rw [h1, if_pos h]
            rfl
          · have h1 : ¬ (n : Int) - (min (i - 1) n : Nat) = 1 := by omega
            simp [stepB, errOf, h1, h]
        clear hbr
        rw [HE.out, brk_next n i hi1 (by omega)] at HW
        by_cases hie : i = n
        · subst hie
          rw [if_pos rfl] at HW
          go_wp2_with fail
          refine HW.out.mono ?_
          rintro e w4 ⟨rfl, o4⟩
          have HBr := Lib.hid (broken_on o4)
          have hbr : (brkD i (i + 1)).broken = true := by simp [brkD]
          rw [hbr] at HBr
          clear hbr HW HE
          go_wp2_with fail
          refine HBr.out.mono ?_
          rintro e w' ⟨rfl, rfl⟩
          go_wp2_with fail
          go_roundw
          case rel => exact ⟨i + 1, by omega, by omega, by go_num, o4⟩
          case measure => simp [intOf]; omega
        · rw [if_neg hie] at HW
          have hlt2 : i < n := by omega
          go_wp2_with fail
          refine HW.out.mono ?_
          rintro e w4 ⟨rfl, o4⟩
          have HBr := Lib.hid (broken_on o4)
          have hbr : (brkD n (i + 1)).broken = false := by simp [brkD]; omega
          rw [hbr] at HBr
          clear hbr HW HE hin hie
          go_wp2_with fail
          refine HBr.out.mono ?_
          rintro e w' ⟨rfl, rfl⟩
          go_wp2_with fail
          go_roundw
          case rel => exact ⟨i + 1, by omega, by omega, by go_num, o4⟩
          case measure => simp [intOf]; omega
    · obtain rfl : i = 14 := by omega
      have hbr : (brkD n 14).broken = true := by simp [brkD]; omega
      have HR := Lib.hid (read_on_io oi hbr 0 1 (by omega) (by omega) (hasB_yes (by omega) (by omega) (by show (0 : Int) ≤ (20 : Nat) - 1; omega)))
      have HY := Lib.hid (sync_on_io oi (by rw [hbr]; rfl))
      clear hbr
      go_wp2_with fail
      refine HR.out.mono ?_
      rintro e w' ⟨rfl, rfl⟩
      go_wp2_with fail
      refine HY.out.mono ?_
      rintro e w5 ⟨rfl, o5⟩
      have HP := Lib.hid (pending_on o5)
      rw [brk_bytes ⟨n, by omega⟩] at HP
      go_wp2_with fail
      refine HP.out.mono ?_
      rintro e w6 ⟨rfl, o6⟩
      clear HR HY HP oi o5
      go_wp2_with fail
      refine (crash_on o6 (m : Int) (by omega) (by omega)).mono ?_
      rintro e w7 ⟨rfl, o7⟩
      obtain ⟨S, hsz, HS, hS⟩ := read14 n m hn2 hm
      have HR := Lib.hid (read_on o7 rfl 1 14 (by show 1 + 14 ≤ 20; omega))
      rw [hS] at HR
      clear hS o6
      go_wp2_with fail
      refine HR.out.mono ?_
      rintro e w' ⟨rfl, rfl⟩
      clear HR
      go_wp2_with fail
      have hsz' : 14 ≤ S.size := by omega
      clear hsz em
      go_loop [15, 16] (fun i _ => ∃ j : Nat, j ≤ 14 ∧ i = .int .i64 (j : Int)) (fun i _ => 14 - (intOf i).toNat)
      case atStart => exact ⟨0, by omega, rfl⟩
      case round =>
        obtain ⟨j, hj, rfl⟩ := hrel
        by_cases hjt : j < 14
        · have hx := HS.out j hjt (by omega)
          by_cases hc : j < min m n
          · rw [if_pos hc] at hx
            go_wp2_with fail
            go_round
            case rel => exact ⟨j + 1, by omega, by go_num⟩
            case measure => simp [intOf]; omega
          · rw [if_neg hc] at hx
            have hc' : min m n ≤ j := by omega
            clear hc
            go_wp2_with fail
            go_round
            case rel => exact ⟨j + 1, by omega, by go_num⟩
            case measure => simp [intOf]; omega
        · obtain rfl : j = 14 := by omega
          go_wp2_with fail
          refine (write_on0 o7 rfl rfl 0 ⟨#[121]⟩ (by show 0 + 1 ≤ 20; omega) (by show 0 < 1000; omega)).mono ?_
          rintro e w8 ⟨rfl, o8⟩
          go_wp2_with fail
          refine (sync_on0 o8 rfl rfl).mono ?_
          rintro e w9 ⟨rfl, o9⟩
          have hbel := Lib.hid o9.below
          go_wp2_with fail
          go_ret
          exact ⟨rfl, HB1.out.trans (hbel.out.mono hz1)⟩

/-! ### The row -/
theorem contract (H : Type) (enc : TypeId × Value → H) (W : World) (base : Nat) (args : Array Value) (ds gs : List (DataW H)) (before : List MemPlace)
    (hval : ∀ (j : Nat) t v, Try.f6.params[j]? = some t → args[j]? = some v → Value.okWide Try.prog W .any base t v)
    (hW : DataW.Whole enc Try.prog Try.f6.params.toList Rows.diskBreaksSpec.vars false W args.toList ds gs before) :
    Calls Try.prog 6 args W fun e W' => ∃ v, e = .returned v ∧ Rows.diskBreaksSpec.post enc Try.prog Try.f6 false true false false W args v W' := by
  have hW' := hW
  obtain ⟨p, q, hA0, hV, rfl, hfz, hnd⟩ := hW
  have hA : DataW.TrodAll enc Try.prog W 0 (fun _ => true) true Try.f6.params.toList args.toList ds p := hA0
  rw [Try.params6] at hA hval
  obtain ⟨v0, vs0, d0, ds0, p0, q0, hargs, rfl, rfl, h0, r0⟩ := trodAll_cons hA
  obtain ⟨v1, vs1, d1, ds1, p1, q1, rfl, rfl, rfl, h1, r1⟩ := trodAll_cons r0
  obtain ⟨rfl, rfl, rfl⟩ := trodAll_nil r1
  obtain rfl : args = #[v0, v1] := by cases args; simp_all
  obtain ⟨rfl, rfl⟩ := trodVars_none hV
  refine law_contract (tb := 4) laidOut (by kernel_rfl) rfl (by kernel_rfl) Try.underlying4 rfl hW' ?_
  clear hA0 hW' hA
  obtain ⟨a0, rfl, rfl, rfl, w0⟩ := open_int Try.underlying3 (hval 0 3 v0 rfl rfl) h0
  obtain ⟨a1, rfl, rfl, rfl, w1⟩ := open_int Try.underlying3 (hval 1 3 v1 rfl rfl) h1
  exact walk a0 a1 W

set_option maxRecDepth 100000 in
theorem lifted (os : Os) (started : os.Started) (H : Type) (enc : TypeId × Value → H) :
    ReturnsInHanded {} Try.checked os 6 .any (Rows.diskBreaksSpec.pre6 enc Try.prog Try.f6 Rows.diskBreaksRow.domain false) (Rows.diskBreaksSpec.post enc Try.prog Try.f6 false true false false) := by
  refine returnsInHanded_of_change (C := Try.checked) own started (by kernel_rfl) Try.func6
    (ChangeSpec.witness6 (enc := enc) (C := Try.checked) false ⟨#[], #[.int .i64 0, .int .i64 0], []⟩ 8 (by kernel_rfl) (by kernel_rfl) (by kernel_rfl) (by kernel_rfl)) ?_
  intro W base args ds gs before hval hW _ _
  exact contract H enc W base args ds gs before hval hW

/-- THE STATEMENT. -/
theorem said : Rows.DiskBreaksSaid :=
  OpenClaim.holds_of_wide 6 Try.f6 rfl rfl rfl rfl rfl rfl rfl ⟨rfl, rfl, rfl, rfl, rfl⟩ rfl rfl rfl rfl rfl (by kernel_rfl) Try.func6 (by kernel_rfl)
    (of_decide_eq_true (by kernel_rfl)) (by unfold Func.isWrapper; first | (rw [if_pos (by decide +kernel)]; kernel_rfl) | (rw [if_neg (by decide +kernel)]; exact ⟨rfl, rfl⟩))
    (fun os started H enc _ => lifted os started H enc)
#print axioms said
end Go.Proofs.Ytlifaegmidgcnaa.diskBreaks
