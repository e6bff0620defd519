/-
  Contracts of vault.Find, vault.Of and vault.Live. Condition: rows of at most 1000000 secrets.
-/
import Derived.Test.YtfjdcopndkdbmaaGreatDoorVsd
import Derived.Test.YtfjdcopndkdbmaaGreatDoorVrD
namespace Go.Proofs.YtfjdcopndkdbmaaGreatDoor
open Go.RowKit

set_option maxRecDepth 100000 in
set_option maxHeartbeats 2000000 in
theorem find_any {S : Nat → Prop} (A : Option Addr) (cp : Nat) (l : List Va.Sec) (hl : l.length ≤ 1000000) (a p : Int) (c : ByteArray) (w : World) (hA : Lies S w A (secs l)) :
    Calls Tryz.prog 21 #[.slice A l.length cp, .int .i64 a, .int .i64 p, .string c] w fun e w' => e = .returned (.tuple #[.agg (secOf (Rw.find Va.Sec.key l (a, p, c))), .bool (Rw.find Va.Sec.key l (a, p, c)).isSome]) ∧ Below w.heap.size w w' := by
  have hb0 : Below w.heap.size w (w.alloc (.cells zeroV 26)) := (Below.refl _ w).alloc (Nat.le_refl _) _
  have hx0 := Blk.new w 26 zeroV
  have HAT := Lib.hid (place_any A cp l hl a p c _ (hA.below hb0))
  have HB0 := Lib.hid hb0
  have HX0 := Lib.hid hx0
  have HLE := Lib.hid (Nat.le_refl w.heap.size)
  cases hp : Rw.place Va.Sec.key l (a, p, c) with
  | none =>
    rw [Rw.place_none.1 hp]
    unfold atI at HAT
    rw [hp] at HAT
    unfold secOf zeroV secV at *
    clear hA hb0 hx0 hp
    go_enter Tryz.func21, Tryz.ntmps21
    go_wp2_with fail
    refine HAT.out.mono ?_
    rintro e w1 ⟨rfl, hb⟩
    have HX := Lib.hid (HX0.out.of (hb.block _ HX0.out.lt))
    have HB := Lib.hid (HB0.out.trans (hb.mono HB0.out.size))
    clear hb HX0 HB0
    have f0 := HX.out.frozen 0
    have g0 := (HX.out.cell 0).trans rfl
    have f1 := HX.out.frozen 1
    have g1 := (HX.out.cell 1).trans rfl
    have f2 := HX.out.frozen 2
    have g2 := (HX.out.cell 2).trans rfl
    have f3 := HX.out.frozen 3
    have g3 := (HX.out.cell 3).trans rfl
    have f4 := HX.out.frozen 4
    have g4 := (HX.out.cell 4).trans rfl
    have f5 := HX.out.frozen 5
    have g5 := (HX.out.cell 5).trans rfl
    go_wp2_with fail
    (try simp only [Exit.inBlock, Exit.then])
    refine bodyPost_ret (results_cs (P := Tryz.prog) rfl _ _ w.heap.size 26 _ (0, 0) _ _ rfl rfl (HX.out.six _ _ _ _ _ _) Tryz.underlying26 rfl sec_size) rfl ?_
    exact ⟨rfl, below_six HB.out HLE.out _ _ _ _ _ _⟩
  | some i =>
    obtain ⟨hi, hf⟩ := find_place hp
    rw [hf]
    unfold atI at HAT
    rw [hp] at HAT
    obtain ⟨ad, hAe, sa⟩ := lies_sec (hA.below hb0) i hi
    subst hAe
    obtain ⟨q, hq⟩ : ∃ q, ad.add (i * 6) = q := ⟨_, rfl⟩
    rw [hq] at sa
    generalize l[i] = s at sa
    have hili : (i : Int) < (l.length : Int) := by omega
    have hi0 : ¬ ((i : Int) < 0) := by omega
    rw [secOf_some, Option.isSome_some]
    have HSA := Lib.hid sa
    unfold zeroV secV at *
    clear hA hb0 hx0 hp hf sa
    go_enter Tryz.func21, Tryz.ntmps21
    go_wp2_with fail
    refine HAT.out.mono ?_
    rintro e w1 ⟨rfl, hb⟩
    obtain ⟨a0, a1, a2, a3, a4, a5, _⟩ := HSA.out.below hb
    have HX := Lib.hid (HX0.out.of (hb.block _ HX0.out.lt))
    have HB := Lib.hid (HB0.out.trans (hb.mono HB0.out.size))
    clear hb HX0 HB0 HSA
    have f0 := HX.out.frozen 0
    have g0 := (HX.out.cell 0).trans rfl
    have f1 := HX.out.frozen 1
    have g1 := (HX.out.cell 1).trans rfl
    have f2 := HX.out.frozen 2
    have g2 := (HX.out.cell 2).trans rfl
    have f3 := HX.out.frozen 3
    have g3 := (HX.out.cell 3).trans rfl
    have f4 := HX.out.frozen 4
    have g4 := (HX.out.cell 4).trans rfl
    have f5 := HX.out.frozen 5
    have g5 := (HX.out.cell 5).trans rfl
    go_wp2_with fail
    (try simp only [Exit.inBlock, Exit.then])
    refine bodyPost_ret (results_cs (P := Tryz.prog) rfl _ _ w.heap.size 26 _ (0, 0) _ _ rfl rfl (HX.out.six _ _ _ _ _ _) Tryz.underlying26 rfl sec_size) rfl ?_
    exact ⟨rfl, below_six HB.out HLE.out _ _ _ _ _ _⟩
set_option maxRecDepth 100000 in
set_option maxHeartbeats 2000000 in
theorem of_any {S : Nat → Prop} (A : Option Addr) (cp : Nat) (l : List Va.Sec) (_hl : l.length ≤ 1000000) (a : Int) (w : World) (hA : Lies S w A (secs l)) :
    Calls Tryz.prog 23 #[.slice A l.length cp, .int .i64 a] w fun e w' => e = .returned (.int .i64 (Va.of l a : Int)) ∧ Below w.heap.size w w' := by
  have HA := Lib.hid hA
  clear hA
  go_enter Tryz.func23, Tryz.ntmps23
  go_wp2_with fail
  go_loopw [5, 7, 10] (fun n _ i wr => ∃ k m : Nat, i = .int .i64 (k : Int) ∧ k ≤ l.length ∧ n = .int .i64 (m : Int) ∧ m = Va.of (l.take k) a ∧ Below w.heap.size w wr) (fun _ _ i _ => l.length - (intOf i).toNat)
  case atStart => exact ⟨0, 0, rfl, by omega, rfl, rfl, Below.refl _ w⟩
  case round =>
    obtain ⟨k, m, rfl, hk, rfl, hm, hB⟩ := hrel
    have HM := Lib.hid hm
    have HB := Lib.hid hB
    clear hm hB
    by_cases hlt : k < l.length
    · have hki : (k : Int) < (l.length : Int) := by omega
      obtain ⟨ad, hAe, sa⟩ := lies_sec (HA.out.below HB.out) k hlt
      subst hAe
      obtain ⟨q, hq⟩ : ∃ q, ad.add (k * 6) = q := ⟨_, rfl⟩
      rw [hq] at sa
      have hs := of_take_succ l a k hlt
      rw [← HM.out] at hs
      obtain ⟨s, hs0⟩ : ∃ s, l[k] = s := ⟨_, rfl⟩
      rw [hs0] at sa hs
      obtain ⟨s0, s1, s2, s3, s4, s5, _⟩ := sa
      have hmle : m ≤ k := by
        have h := of_le (l.take k) a
        rw [← HM.out, List.length_take] at h
        omega
      have HBA := Lib.hid (HB.out.alloc HB.out.size (.cells (secC s).toArray 26))
      rw [sec_row] at HBA
      by_cases h1 : s.account = a
      · have e1 : (s.account == a) = true := by simpa using h1
        rw [if_pos h1] at hs
        have HS := Lib.hid hs
        clear hs h1 hs0
        go_wp2_with fail
        go_roundw
        case rel => exact ⟨k + 1, m + 1, by go_num, by omega, by go_num, HS.out.symm, HBA.out⟩
        case measure => simp [intOf]; omega
      · have e1 : (s.account == a) = false := by simpa using h1
        rw [if_neg h1, Nat.add_zero] at hs
        have HS := Lib.hid hs
        clear hs h1 hs0
        go_wp2_with fail
        go_roundw
        case rel => exact ⟨k + 1, m, by go_num, by omega, rfl, HS.out.symm, HBA.out⟩
        case measure => simp [intOf]; omega
    · obtain rfl : k = l.length := by omega
      have hm := HM.out
      rw [List.take_length] at hm
      have HM2 := Lib.hid hm
      clear hm
      go_wp2_with fail
      go_ret
      exact ⟨congrArg (fun z : Nat => Ending.returned (.int .i64 (z : Int))) HM2.out, HB.out⟩
set_option maxRecDepth 100000 in
set_option maxHeartbeats 2000000 in
theorem live_any {S : Nat → Prop} (A : Option Addr) (cp : Nat) (l : List Va.Sec) (hl : l.length ≤ 1000000) (a p : Int) (c : ByteArray) (now : Int) (w : World) (hA : Lies S w A (secs l)) :
    Calls Tryz.prog 25 #[.slice A l.length cp, .int .i64 a, .int .i64 p, .string c, .int .i64 now] w fun e w' => e = .returned (.int .i64 (Va.live l (a, p, c) now)) ∧ Below w.heap.size w w' := by
  have HF := Lib.hid (find_any A cp l hl a p c w hA)
  unfold Va.live
  cases hf : Rw.find Va.Sec.key l (a, p, c) with
  | none =>
    rw [hf] at HF
    unfold secOf zeroV secV at HF
    rw [Option.isSome_none] at HF
    clear hA hf
    go_enter Tryz.func25, Tryz.ntmps25
    go_wp2_with fail
    refine HF.out.mono ?_
    rintro e w1 ⟨rfl, hb⟩
    have HB := Lib.hid (hb.alloc hb.size (.cells #[.string ⟨#[]⟩, .int .i64 0, .int .i64 0, .string ⟨#[]⟩, .int .i64 0, .int .i64 0] 26))
    clear hb
    go_wp2_with fail
    go_ret
    exact ⟨rfl, HB.out⟩
  | some s =>
    rw [hf, secOf_some, Option.isSome_some] at HF
    have HE := Lib.hid (fun W => expired_any s now W)
    simp only
    by_cases h1 : s.expires ≤ now
    · rw [if_neg (by omega)]
      rw [decide_eq_true h1] at HE
      clear hA hf h1
      go_enter Tryz.func25, Tryz.ntmps25
      go_wp2_with fail
      refine HF.out.mono ?_
      rintro e w1 ⟨rfl, hb⟩
      have HB := Lib.hid (hb.alloc hb.size (.cells (secC s).toArray 26))
      rw [sec_row] at HB
      clear hb
      go_wp2_with fail
      refine (HE.out _).mono ?_
      rintro e w2 ⟨rfl, hb⟩
      have HB2 := Lib.hid (HB.out.trans (hb.mono HB.out.size))
      clear hb
      go_wp2_with fail
      go_ret
      exact ⟨rfl, HB2.out⟩
    · rw [if_pos (by omega)]
      rw [decide_eq_false h1] at HE
      clear hA hf h1
      go_enter Tryz.func25, Tryz.ntmps25
      go_wp2_with fail
      refine HF.out.mono ?_
      rintro e w1 ⟨rfl, hb⟩
      have HB := Lib.hid (hb.alloc hb.size (.cells (secC s).toArray 26))
      have HX := Lib.hid (Blk.new w1 26 (secC s).toArray)
      rw [sec_row] at HB HX
      clear hb
      go_wp2_with fail
      refine (HE.out _).mono ?_
      rintro e w2 ⟨rfl, hb⟩
      have x5 : w2.cell? ⟨w1.heap.size, 5, none⟩ = some (.int .i64 s.tries) := ((HX.out.of (hb.block _ HX.out.lt)).cell 5).trans rfl
      have HB2 := Lib.hid (HB.out.trans (hb.mono HB.out.size))
      clear hb
      go_wp2_with fail
      go_ret
      exact ⟨rfl, HB2.out⟩
end Go.Proofs.YtfjdcopndkdbmaaGreatDoor
