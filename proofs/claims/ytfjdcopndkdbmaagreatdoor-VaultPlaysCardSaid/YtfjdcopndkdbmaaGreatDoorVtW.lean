/-
  Law 11's secrets, what there is to know of them; vault.Put and vault.Present as the laws call them; the chapter's example. Condition: the tables hold what their text says.
-/
import Derived.Test.YtfjdcopndkdbmaaGreatDoorVsI
import Derived.Test.YtfjdcopndkdbmaaGreatDoorVtS
import Derived.Test.YtfjdcopndkdbmaaGreatDoorVtT
import Derived.Test.YtfjdcopndkdbmaaGreatDoorMinN
import Derived.Test.YtfjdcopndkdbmaaGreatDoorMinTb
namespace Go.Proofs.YtfjdcopndkdbmaaGreatDoor
open Go.RowKit

/-- What the laws ask of the world. -/
structure Rdy (w : World) : Prop where
  tab : Tab w
  max : MaxIs w
theorem Rdy.next {w w' : World} (h : Rdy w) (hb : Below w.heap.size w w') : Rdy w' := ⟨h.tab.next hb, h.max.below hb⟩
theorem rdy_of {W : World} (h1 : Lib.TabIs Tryz.prog W "homecoming/sha.cubeRoots" .u32 numsCubeRoots) (h2 : Lib.TabIs Tryz.prog W "homecoming/sha.squareRoots" .u32 numsSquareRoots) (hS : W.ShapedOpen Tryz.prog) : Rdy W := ⟨tab_of h1 h2, max_of_shaped hS⟩
theorem cells_i : Tryz.prog.cellsOf 3 = 1 := by kernel_rfl
theorem sec_key (q0 q1 q2 q3 n : Int) : (secQ q0 q1 q2 q3 n).key = (accOf q0, purOf q1, chOf q2) := rfl
theorem sec_digest (q0 q1 q2 q3 n : Int) : (secQ q0 q1 q2 q3 n).digest = ba (digL (purOf q1) (plainL (purOf q1) (ten10 (d7 q3)))) := rfl
theorem sec_expires (q0 q1 q2 q3 n : Int) : (secQ q0 q1 q2 q3 n).expires = Mi.clock n (Mi.life (purOf q1)) := rfl
theorem sec_tries (q0 q1 q2 q3 n : Int) : (secQ q0 q1 q2 q3 n).tries = Mi.tries (purOf q1) := rfl
theorem pur_in (q : Int) : 1 ≤ purOf q ∧ purOf q ≤ 6 := by unfold purOf; omega
theorem acc_in (q : Int) : 1 ≤ accOf q ∧ accOf q ≤ 4 := by unfold accOf; omega
theorem ch_kind (q : Int) : (Ad.kind (chOf q).data.toList == 0) = false := by
  unfold chOf
  split <;> kernel_rfl
theorem ch_size (q : Int) : (chOf q).size ≤ 50000 := by
  unfold chOf mailC phoneC
  split <;> decide
theorem sec_right (q0 q1 q2 q3 n : Int) : rightS (secQ q0 q1 q2 q3 n) = true := by
  have h1 := acc_in q0
  have h2 := pur_in q1
  have h3 := Mi.tries_at _ h2
  have h4 := Mi.clock_bounds n (Mi.life (purOf q1))
  unfold rightS rightB secQ
  simp only
  rw [digL_size, decide_eq_true (show (32 : Nat) = 32 from rfl), decide_eq_true (show 1 ≤ accOf q0 ∧ accOf q0 ≤ 99 by omega), decide_eq_true h2, ch_kind, decide_eq_true h4, decide_eq_true (show 1 ≤ Mi.tries (purOf q1) ∧ Mi.tries (purOf q1) ≤ Mi.tries (purOf q1) by omega)]
  rfl
theorem right_digest {s : Va.Sec} (h : rightS s = true) : s.digest.size ≤ 100000 := by
  unfold rightS rightB at h
  simp only [Bool.and_eq_true, decide_eq_true_eq] at h
  omega
theorem right_tries {s : Va.Sec} (h : rightS s = true) : 1 ≤ s.tries ∧ s.tries ≤ 5 := by
  unfold rightS rightB at h
  simp only [Bool.and_eq_true, decide_eq_true_eq] at h
  have := Mi.tries_at s.purpose h.1.1.1.2
  omega
set_option maxRecDepth 100000 in
theorem pres_nil {S : Nat → Prop} (A : Option Addr) (cp : Nat) (l : List Va.Sec) (hl : l.length ≤ 900000) (hcp : l.length ≤ cp) (a p : Int) (c : ByteArray) (d : List UInt8) (hd : d.length ≤ 50000) (now : Int) (hr : ∀ s ∈ l, rightS s = true) (w : World) (hR : Rdy w) (hA : Lies S w A (secs l))
    (R : List Va.Sec × Option Va.Sec × Nat) (hRR : Va.present (ba (digL p d)) l (a, p, c) now = R) :
    Calls Tryz.prog 16 #[.pointer none, .slice A l.length cp, .agg #[.int .i64 a, .int .i64 p, .string c, .string (ba d)], .int .i64 now] w fun e w' => (∃ v, e = .returned (.tuple #[v, .agg (secOf R.2.1), .int .i64 (R.2.2 : Nat)]) ∧ Row (fun b => b < w.heap.size) R.1 v w') ∧ Below w.heap.size w w' := by
  subst hRR
  refine (present_any Mt.nil 0 (by decide) A cp l hl hcp a p c d hd now (fun s hs => by have := right_tries (hr s hs); omega) (fun s hs => right_digest (hr s hs)) w trivial hR.tab (hA.mono (fun _ _ h => h.elim))).mono ?_
  rintro e w' ⟨h1, _, h2⟩
  exact ⟨h1, Kept.below (Below.refl _ w) h2 (fun _ h => h.elim) (Nat.le_refl _)⟩
theorem plain_len (p : Int) (d : List UInt8) : (plainL p d).length ≤ 50000 := by
  have := plainL_length p d
  omega
theorem rowAt_right {s : Va.Sec} (h : rightS s = true) (f : Nat) : ∀ x ∈ rowAt s f, rightS x = true := by
  intro x hx
  unfold rowAt at hx
  split at hx
  · rw [List.mem_singleton] at hx
    subst hx
    have h2 := right_tries h
    unfold rightS rightB at h ⊢
    simp only [Bool.and_eq_true, decide_eq_true_eq] at h ⊢
    obtain ⟨h1, h3, h4⟩ := h
    exact ⟨h1, by omega, by omega⟩
  · cases hx
theorem rowAt_one (s : Va.Sec) (f : Nat) : (rowAt s f).length ≤ 1 := by
  rw [rowAt_length]
  split <;> omega
set_option maxRecDepth 100000 in
set_option maxHeartbeats 4000000 in
theorem awake_any (w : World) (hR : Rdy w) :
    Calls Tryz.prog 10 #[] w fun e w' => e = .returned (.bool true) ∧ Below w.heap.size w w' := by
  have HS := Lib.hid (fun W => secret_any 0 3 0 1 0 (by decide) W)
  have HA1 := Lib.hid (fun W => attempt_any 0 3 0 1 W)
  have HA2 := Lib.hid (fun W => attempt_any 0 3 0 2 W)
  have hrt := sec_right 0 3 0 1 0
  have hp4 : purOf 3 = 4 := by decide
  have h71 : d7 1 = 1 := by decide
  have h72 : d7 2 = 2 := by decide
  have hex : (1 : Int) < (secQ 0 3 0 1 0).expires := by rw [sec_expires, hp4]; decide
  have htr : (secQ 0 3 0 1 0).tries = 3 := by rw [sec_tries, hp4]; decide
  have hne : (secQ 0 3 0 1 0).digest ≠ ba (digL (purOf 3) (plainL (purOf 3) (ten10 (d7 2)))) := by rw [sec_digest, hp4, h71, h72]; exact two_digests
  have hch : (secQ 0 3 0 1 0).channel.size ≤ 50000 := ch_size 0
  have hpw := fun f : Nat => present_wrong (secQ 0 3 0 1 0) f 1 (ba (digL (purOf 3) (plainL (purOf 3) (ten10 (d7 2))))) hex hne
  have hpr := present_right (secQ 0 3 0 1 0) 3 1 hex
  rw [if_neg (by rw [htr]; decide)] at hpr
  rw [sec_key] at hpw hpr
  rw [sec_digest] at hpr
  have hp0 := put_first (secQ 0 3 0 1 0) hrt
  have hst := rowAt_start (secQ 0 3 0 1 0) (by rw [htr]; decide)
  generalize secQ 0 3 0 1 0 = S0 at *
  rw [sec_row] at HS
  have hput := fun W hW hW2 => put_any (S := fun _ => False) none 0 [] (by simp) (by simp) S0 hch W hW hW2
  rw [hp0] at hput
  have HPUT := Lib.hid hput
  have HPW := Lib.hid hpw
  have HPR := Lib.hid hpr
  have HRT := Lib.hid hrt
  have HST := Lib.hid hst
  have HTR := Lib.hid htr
  have HR := Lib.hid hR
  unfold plOf at HA1 HA2
  clear hput hpw hpr hrt hst htr hne hex hch hp0 hR hp4 h71 h72
  go_enter Tryz.func10, Tryz.ntmps10
  go_wp2_with fail
  refine (HS.out w).mono ?_
  rintro e w1 ⟨rfl, hb⟩
  have HB1 := Lib.hid (hb.alloc hb.size (.cells #[.string S0.digest, .int .i64 S0.account, .int .i64 S0.purpose, .string S0.channel, .int .i64 S0.expires, .int .i64 S0.tries] 26))
  clear hb
  go_wp2_with fail
  refine (HPUT.out _ (HR.out.next HB1.out).max (Lies.none _ _)).mono ?_
  rintro e w2 ⟨⟨v, rfl, hv⟩, hb⟩
  have HB2 := Lib.hid (HB1.out.trans (hb.mono HB1.out.size))
  have HV := Lib.hid (show Row (fun _ => False) (rowAt S0 0) v w2 by rw [HST.out]; exact hv.weaker (fun _ h => h.elim))
  clear hv hb
  go_wp2_with fail
  go_loopw [2, 4, 5, 6, 7] (fun l i _ _ _ wr => ∃ k : Nat, i = .int .i64 (k : Int) ∧ k ≤ 3 ∧ Row (fun _ => False) (rowAt S0 k) l wr ∧ Below w.heap.size w wr) (fun _ i _ _ _ _ => 3 - (intOf i).toNat)
  case atStart => exact ⟨0, rfl, by omega, HV.out, HB2.out⟩
  case round =>
    obtain ⟨k, rfl, hk, hrow, hB⟩ := hrel
    obtain ⟨A, cp, rfl, hcp, hA⟩ := hrow
    have HA := Lib.hid hA
    have HB := Lib.hid hB
    have h1 := rowAt_one S0 k
    clear hA hB
    by_cases hlt : k < 3
    · have hki : (k : Int) < 3 := by omega
      have hwr := HPW.out k
      rw [if_pos (by rw [HTR.out]; omega)] at hwr
      have hpc := fun W (hb : Below w.heap.size w W) (hl : Lies (fun _ => False) W A (secs (rowAt S0 k))) => pres_nil A cp (rowAt S0 k) (by omega) hcp (accOf 0) (purOf 3) (chOf 0) (plainL (purOf 3) (ten10 (d7 2))) (plain_len _ _) 1 (rowAt_right HRT.out k) W (HR.out.next hb) hl _ hwr
      unfold secOf zeroV secV at hpc
      have HPC := Lib.hid hpc
      clear hpc hwr
      go_wp2_with fail
      refine (HA2.out _).mono ?_
      rintro e w3 ⟨rfl, hb⟩
      have HB3 := Lib.hid (HB.out.trans (hb.mono HB.out.size))
      have HL3 := Lib.hid (HA.out.below hb)
      clear hb
      go_wp2_with fail
      refine (HPC.out _ HB3.out HL3.out).mono ?_
      rintro e w4 ⟨⟨v, rfl, hv⟩, hb⟩
      have hba : Below w4.heap.size w4 (w4.alloc (.cells #[.string ⟨#[]⟩, .int .i64 0, .int .i64 0, .string ⟨#[]⟩, .int .i64 0, .int .i64 0] 26)) := (Below.refl _ w4).alloc (Nat.le_refl _) _
      have HV4 := Lib.hid ((hv.weaker (T := fun _ => False) (fun _ h => h.elim)).below hba)
      have HB4 := Lib.hid ((HB3.out.trans (hb.mono HB3.out.size)).trans (hba.mono (by have h1 := HB3.out.size; have h2 := hb.size; omega)))
      clear hv hb hba
      go_wp2_with fail
      go_roundw
      case rel => exact ⟨k + 1, by go_num, by omega, HV4.out, HB4.out⟩
      case measure => simp [intOf]; omega
    · obtain rfl : k = 3 := by omega
      have hpc := fun W (hb : Below w.heap.size w W) (hl : Lies (fun _ => False) W A (secs (rowAt S0 3))) => pres_nil A cp (rowAt S0 3) (by omega) hcp (accOf 0) (purOf 3) (chOf 0) (plainL (purOf 3) (ten10 (d7 1))) (plain_len _ _) 1 (rowAt_right HRT.out 3) W (HR.out.next hb) hl _ HPR.out
      unfold secOf zeroV secV at hpc
      have HPC := Lib.hid hpc
      clear hpc
      go_wp2_with fail
      refine (HA1.out _).mono ?_
      rintro e w3 ⟨rfl, hb⟩
      have HB3 := Lib.hid (HB.out.trans (hb.mono HB.out.size))
      have HL3 := Lib.hid (HA.out.below hb)
      clear hb
      go_wp2_with fail
      refine (HPC.out _ HB3.out HL3.out).mono ?_
      rintro e w4 ⟨⟨v, rfl, hv⟩, hb⟩
      have HB4 := Lib.hid ((HB3.out.trans (hb.mono HB3.out.size)).alloc (by have h1 := HB3.out.size; have h2 := hb.size; omega) (.cells #[.string ⟨#[]⟩, .int .i64 0, .int .i64 0, .string ⟨#[]⟩, .int .i64 0, .int .i64 0] 26))
      clear hv hb
      go_wp2_with fail
      go_ret
      exact ⟨rfl, HB4.out⟩
end Go.Proofs.YtfjdcopndkdbmaaGreatDoor
