/-
  BucketApart: what is taken of one key takes nothing of another one; rows that were swept tell the same as they did. No condition.
-/
import Derived.Test.YtbldonkfboahmaaBcZ
import Derived.Test.YtbldonkfboahmaaBkM
import Derived.Test.YtbldonkfboahmaaTkT
namespace Go.Proofs.Ytbldonkfboahmaa.bucketApart
open Go.ChangeShapes Go.WideShapes Go.ChangeAt Go.RowKit
open Go.ChangeMaps (open_string shut_string)


set_option maxRecDepth 100000 in
set_option maxHeartbeats 8000000 in
theorem walk (A : Option Addr) (cp : Nat) (l : List (Int × Int)) (hcp : l.length ≤ cp) (q0 q1 q2 : Int) (w : World) (hA : Prs w A l) :
    Calls Try.prog 7 #[.slice A l.length cp, .agg #[.int .i64 q0, .int .i64 q1, .int .i64 q2]] w fun e w' => e = .returned (.bool true) ∧ Below w.heap.size w w' := by
  have HA := Lib.hid hA
  clear hA
  obtain ⟨ka, hkx⟩ : ∃ k, kix q0 = k := ⟨_, rfl⟩
  obtain ⟨kb, hky⟩ : ∃ k, kix q1 = k := ⟨_, rfl⟩
  have ha := and255 q2
  have hlo := lo_lt q2 256 (by decide)
  obtain ⟨now, ht⟩ : ∃ t, lo q2 256 = t := ⟨_, rfl⟩
  rw [ht] at ha hlo
  have hb0 : Below w.heap.size w (w.alloc (.cells #[.int .i64 q0, .int .i64 q1, .int .i64 q2] 24)) := (Below.refl _ w).alloc (Nat.le_refl _) _
  have HBX := Lib.hid (Blk.new w 24 #[.int .i64 q0, .int .i64 q1, .int .i64 q2])
  clear ht
  by_cases h24 : l.length ≤ 20
  · have HLL : Hid (l.length ≤ 20) := Lib.hid (by omega)
    have hlen := HLL.out
    have HR := Lib.hid (fun W hW => rows_few A cp l (by omega) W (HA.out.below (w := W) hW))
    have hgd := rows_gd l l.length (by omega)
    have hrl := rowsK_length l l.length
    obtain ⟨RL, hRL⟩ : ∃ RL, rowsK l l.length = RL := ⟨_, rfl⟩
    rw [hRL] at HR hgd hrl
    have hka := keyS_ne ka (by rw [← hkx]; exact (kix_spec q0).1)
    obtain ⟨SA, hsa⟩ : ∃ s, keyS ka = s := ⟨_, rfl⟩
    obtain ⟨SB, hsb⟩ : ∃ s, keyS kb = s := ⟨_, rfl⟩
    rw [hsa] at hka
    have g1 := gd_take hgd SA now (by omega)
    have gs := gd_sweep hgd now
    have hls : (Bk.sweep RL now).length ≤ RL.length := List.length_filter_le _ _
    have swa := Bk.left_sweep ordK hgd.vl.rise SA now
    have swb := Bk.left_sweep ordK hgd.vl.rise SB now
    have hml := M_length RL
    have HTA : Hid (∀ A' c' W, RL.length ≤ c' → Lies (fun _ => False) W A' (bus (M RL)) → Calls Try.prog 19 #[.slice A' RL.length c', .string SA, .int .i64 (now : Int)] W fun e w' => (∃ v, e = .returned (.tuple #[v, .int .i64 ((takeB RL SA now).2 : Int)]) ∧ Row (fun _ => False) (M (takeB RL SA now).1) v w') ∧ Below W.heap.size W w') :=
      Lib.hid (fun A' c' W hc hL => Take_any A' c' RL hc hgd SA now (by omega) W hL)
    have HSW : Hid (∀ A' c' W, RL.length ≤ c' → Lies (fun _ => False) W A' (bus (M RL)) → Calls Try.prog 25 #[.slice A' RL.length c', .int .i64 (now : Int)] W fun e w' => (∃ v, e = .returned v ∧ Row (fun _ => False) (M (Bk.sweep RL now)) v w') ∧ Below W.heap.size W w') :=
      Lib.hid (fun A' c' W hc hL => (Sweep_any A' c' RL hc hgd.vl now (by omega) W hL).mono fun e w' h => ⟨by obtain ⟨⟨v, e, hr⟩, _⟩ := h; exact ⟨v, e, hr.weaker (fun b h => h.elim)⟩, h.2⟩)
    have HLF : Hid (∀ (X : List Bb), Gd X → ∀ (k : ByteArray) A' c' W, Lies (fun _ => False) W A' (bus (M X)) → Calls Try.prog 22 #[.slice A' X.length c', .string k, .int .i64 (now : Int)] W fun e w' => e = .returned (.int .i64 (Bk.left X k now : Int)) ∧ Below W.heap.size W w') := Lib.hid (fun X hX k A' c' W hL => Left_any A' c' X hX.vl k now (by omega) W hL)
    have HRA := Lib.hid (HLF.out RL hgd SA)
    have HRB := Lib.hid (HLF.out RL hgd SB)
    have HSA := Lib.hid (HLF.out _ gs SA)
    have HSB := Lib.hid (HLF.out _ gs SB)
    have HSM : Hid (∀ v u W, Row (fun _ => False) (M RL) v W → Row (fun _ => False) (M RL) u W → Calls Try.prog 21 #[v, u] W fun e w' => e = .returned (.bool true) ∧ Below W.heap.size W w') := Lib.hid (fun v u W hv hu => Same_rows (M RL) (by omega) v u W hv hu)
    rw [swa] at HSA
    rw [swb] at HSB
    generalize Bk.sweep RL now = SW at HSW HSA HSB hls
    obtain ⟨ma, hma⟩ : ∃ m, Bk.left RL SA now = m := ⟨_, rfl⟩
    obtain ⟨mb, hmb⟩ : ∃ m, Bk.left RL SB now = m := ⟨_, rfl⟩
    rw [hma] at HRA HSA
    rw [hmb] at HRB HSB
    have hc1 : ¬ ((SW.length : Int) > (RL.length : Int)) := by omega
    have HB0 := Lib.hid hb0
    have hgl : ¬ ((l.length : Int) > 20) := by omega
    by_cases hz : ma = 0
    · have ht : takeB RL SA now = (RL, 22) := take_a (.inr (by rw [hma]; exact hz))
      rw [ht] at HTA
      simp only at HTA
      subst hz
      clear hRL hgd hb0 g1 gs hls swa swb hml hrl hka hma hmb ht HLF
      go_enter Try.func7, Try.ntmps7
      go_wp2_with fail
      refine (awake_any _).mono ?_
      rintro e w1 ⟨rfl, hb1⟩
      have HB1 := Lib.hid (HB0.out.trans (hb1.mono HB0.out.size))
      have HT1 := Lib.hid (HBX.out.of (hb1.block _ HBX.out.lt))
      clear hb1
      go_wp2_with fail
      refine (HR.out w1 HB1.out).mono ?_
      rintro e w2 ⟨⟨A2, c2, rfl, hc2, hL2⟩, hb2⟩
      have HB2 := Lib.hid (HB1.out.trans (hb2.mono HB1.out.size))
      have HT2 := Lib.hid (HT1.out.of (hb2.block _ HT1.out.lt))
      have HL2 := Lib.hid hL2
      have x0 := (HT2.out.cell 0).trans rfl
      have x1 := (HT2.out.cell 1).trans rfl
      have x2 := (HT2.out.cell 2).trans rfl
      clear hb2 hL2
      go_wp2_with fail
      refine (key_any q0 w2).mono ?_
      rintro e w2' ⟨rfl, rfl⟩
      simp only [hkx, hsa]
      go_wp2_with fail
      refine (key_any q1 w2).mono ?_
      rintro e w2' ⟨rfl, rfl⟩
      simp only [hky, hsb]
      clear x0 x1 x2
      go_wp2_with fail
      refine (HTA.out A2 c2 w2 hc2 HL2.out).mono ?_
      rintro e w5 ⟨⟨v5, rfl, hr5⟩, hb5⟩
      have HB5 := Lib.hid (HB2.out.trans (hb5.mono HB2.out.size))
      have HL5 := Lib.hid (HL2.out.below hb5)
      obtain ⟨A5, c5, rfl, hc5, hL5⟩ := hr5
      rw [M_length] at hc5
      simp only [M_length]
      have HM5 := Lib.hid hL5
      clear hb5 hL5
      go_wp2_with fail
      refine (HSW.out A2 c2 w5 hc2 HL5.out).mono ?_
      rintro e w6 ⟨⟨v6, rfl, hr6⟩, hb6⟩
      have HB6 := Lib.hid (HB5.out.trans (hb6.mono HB5.out.size))
      have HL6 := Lib.hid (HL5.out.below hb6)
      have HM6 := Lib.hid (HM5.out.below hb6)
      obtain ⟨A6, c6, rfl, hc6, hL6⟩ := hr6
      simp only [M_length]
      have HN6 := Lib.hid hL6
      clear hb6 hL6 hc6
      go_wp2_with fail
      refine (HSA.out A6 c6 w6 HN6.out).mono ?_
      rintro e w7 ⟨rfl, hb7⟩
      have HB7 := Lib.hid (HB6.out.trans (hb7.mono HB6.out.size))
      have HL7 := Lib.hid (HL6.out.below hb7)
      have HM7 := Lib.hid (HM6.out.below hb7)
      have HN7 := Lib.hid (HN6.out.below hb7)
      clear hb7
      go_wp2_with fail
      refine (HRA.out A2 c2 w7 HL7.out).mono ?_
      rintro e w8 ⟨rfl, hb8⟩
      have HB8 := Lib.hid (HB7.out.trans (hb8.mono HB7.out.size))
      have HL8 := Lib.hid (HL7.out.below hb8)
      have HM8 := Lib.hid (HM7.out.below hb8)
      have HN8 := Lib.hid (HN7.out.below hb8)
      clear hb8
      go_wp2_with fail
      refine (HSB.out A6 c6 w8 HN8.out).mono ?_
      rintro e w9 ⟨rfl, hb9⟩
      have HB9 := Lib.hid (HB8.out.trans (hb9.mono HB8.out.size))
      have HL9 := Lib.hid (HL8.out.below hb9)
      have HM9 := Lib.hid (HM8.out.below hb9)
      clear hb9
      go_wp2_with fail
      refine (HRB.out A2 c2 w9 HL9.out).mono ?_
      rintro e w10 ⟨rfl, hb10⟩
      have HB10 := Lib.hid (HB9.out.trans (hb10.mono HB9.out.size))
      have HL10 := Lib.hid (HL9.out.below hb10)
      have HM10 := Lib.hid (HM9.out.below hb10)
      have HR10 := Lib.hid (show Row (fun _ => False) (M RL) (.slice A5 (RL).length c5) w10 from ⟨A5, c5, by rw [M_length], by rw [M_length]; exact hc5, HM10.out⟩)
      have HRL10 := Lib.hid (show Row (fun _ => False) (M RL) (.slice A2 RL.length c2) w10 from ⟨A2, c2, by rw [M_length], by rw [M_length]; exact hc2, HL10.out⟩)
      clear hb10
      go_wp2_with fail
      refine (HSM.out _ _ w10 HR10.out HRL10.out).mono ?_
      rintro e w11 ⟨rfl, hb11⟩
      have HB11 := Lib.hid (HB10.out.trans (hb11.mono HB10.out.size))
      have HL11 := Lib.hid (HL10.out.below hb11)
      clear hb11
      go_wp2_with fail
      refine (HRA.out A2 c2 w11 HL11.out).mono ?_
      rintro e w12 ⟨rfl, hb12⟩
      have HB12 := Lib.hid (HB11.out.trans (hb12.mono HB11.out.size))
      clear hb12
      go_wp2_with fail
      go_ret
      exact ⟨rfl, HB12.out⟩
    · have ht : takeB RL SA now = (Bk.taken kl RL SA now, 0) := by rw [take_small (by omega), if_neg (fun e => e.elim hka (fun e => hz (by rw [← hma]; exact e)))]
      have h1 := Bk.left_taken ordK hgd.vl.rise SA now (by rw [hma]; omega)
      rw [ht] at HTA g1
      simp only at HTA g1
      have HXA := Lib.hid (HLF.out _ g1 SA)
      have HXB := Lib.hid (HLF.out _ g1 SB)
      rw [h1, hma] at HXA
      obtain ⟨mx, hmx⟩ : ∃ m, ma - 1 = m := ⟨_, rfl⟩
      rw [hmx] at HXA
      have hv1 : IntKind.i64.wrap ((ma : Int) - 1) = (mx : Int) := by have := Bk.left_le RL SA now; rw [IntKind.wrap_i64]; omega
      by_cases hab : SA = SB
      · have hke : (SA.toList == SB.toList) = true := by rw [str_beq, hab]; simp
        generalize Bk.taken kl RL SA now = TX at HTA HXA HXB
        clear hRL hgd hb0 g1 gs hls swa swb hml hrl hka hma hmb ht HLF h1 hmx hz hab
        go_enter Try.func7, Try.ntmps7
        go_wp2_with fail
        refine (awake_any _).mono ?_
        rintro e w1 ⟨rfl, hb1⟩
        have HB1 := Lib.hid (HB0.out.trans (hb1.mono HB0.out.size))
        have HT1 := Lib.hid (HBX.out.of (hb1.block _ HBX.out.lt))
        clear hb1
        go_wp2_with fail
        refine (HR.out w1 HB1.out).mono ?_
        rintro e w2 ⟨⟨A2, c2, rfl, hc2, hL2⟩, hb2⟩
        have HB2 := Lib.hid (HB1.out.trans (hb2.mono HB1.out.size))
        have HT2 := Lib.hid (HT1.out.of (hb2.block _ HT1.out.lt))
        have HL2 := Lib.hid hL2
        have x0 := (HT2.out.cell 0).trans rfl
        have x1 := (HT2.out.cell 1).trans rfl
        have x2 := (HT2.out.cell 2).trans rfl
        clear hb2 hL2
        go_wp2_with fail
        refine (key_any q0 w2).mono ?_
        rintro e w2' ⟨rfl, rfl⟩
        simp only [hkx, hsa]
        go_wp2_with fail
        refine (key_any q1 w2).mono ?_
        rintro e w2' ⟨rfl, rfl⟩
        simp only [hky, hsb]
        clear x0 x1 x2
        go_wp2_with fail
        refine (HTA.out A2 c2 w2 hc2 HL2.out).mono ?_
        rintro e w5 ⟨⟨v5, rfl, hr5⟩, hb5⟩
        have HB5 := Lib.hid (HB2.out.trans (hb5.mono HB2.out.size))
        have HL5 := Lib.hid (HL2.out.below hb5)
        obtain ⟨A5, c5, rfl, hc5, hL5⟩ := hr5
        rw [M_length] at hc5
        simp only [M_length]
        have HM5 := Lib.hid hL5
        clear hb5 hL5
        go_wp2_with fail
        refine (HSW.out A2 c2 w5 hc2 HL5.out).mono ?_
        rintro e w6 ⟨⟨v6, rfl, hr6⟩, hb6⟩
        have HB6 := Lib.hid (HB5.out.trans (hb6.mono HB5.out.size))
        have HL6 := Lib.hid (HL5.out.below hb6)
        have HM6 := Lib.hid (HM5.out.below hb6)
        obtain ⟨A6, c6, rfl, hc6, hL6⟩ := hr6
        simp only [M_length]
        have HN6 := Lib.hid hL6
        clear hb6 hL6 hc6
        go_wp2_with fail
        refine (HSA.out A6 c6 w6 HN6.out).mono ?_
        rintro e w7 ⟨rfl, hb7⟩
        have HB7 := Lib.hid (HB6.out.trans (hb7.mono HB6.out.size))
        have HL7 := Lib.hid (HL6.out.below hb7)
        have HM7 := Lib.hid (HM6.out.below hb7)
        have HN7 := Lib.hid (HN6.out.below hb7)
        clear hb7
        go_wp2_with fail
        refine (HRA.out A2 c2 w7 HL7.out).mono ?_
        rintro e w8 ⟨rfl, hb8⟩
        have HB8 := Lib.hid (HB7.out.trans (hb8.mono HB7.out.size))
        have HL8 := Lib.hid (HL7.out.below hb8)
        have HM8 := Lib.hid (HM7.out.below hb8)
        have HN8 := Lib.hid (HN7.out.below hb8)
        clear hb8
        go_wp2_with fail
        refine (HSB.out A6 c6 w8 HN8.out).mono ?_
        rintro e w9 ⟨rfl, hb9⟩
        have HB9 := Lib.hid (HB8.out.trans (hb9.mono HB8.out.size))
        have HL9 := Lib.hid (HL8.out.below hb9)
        have HM9 := Lib.hid (HM8.out.below hb9)
        clear hb9
        go_wp2_with fail
        refine (HRB.out A2 c2 w9 HL9.out).mono ?_
        rintro e w10 ⟨rfl, hb10⟩
        have HB10 := Lib.hid (HB9.out.trans (hb10.mono HB9.out.size))
        have HL10 := Lib.hid (HL9.out.below hb10)
        have HM10 := Lib.hid (HM9.out.below hb10)
        have HR10 := Lib.hid (show Row (fun _ => False) (M TX) (.slice A5 (TX).length c5) w10 from ⟨A5, c5, by rw [M_length], by rw [M_length]; exact hc5, HM10.out⟩)
        have HRL10 := Lib.hid (show Row (fun _ => False) (M RL) (.slice A2 RL.length c2) w10 from ⟨A2, c2, by rw [M_length], by rw [M_length]; exact hc2, HL10.out⟩)
        clear hb10
        go_wp2_with fail
        refine (HXA.out A5 c5 w10 HM10.out).mono ?_
        rintro e w11 ⟨rfl, hb11⟩
        have HB11 := Lib.hid (HB10.out.trans (hb11.mono HB10.out.size))
        have HL11 := Lib.hid (HL10.out.below hb11)
        clear hb11
        go_wp2_with fail
        refine (HRA.out A2 c2 w11 HL11.out).mono ?_
        rintro e w12 ⟨rfl, hb12⟩
        have HB12 := Lib.hid (HB11.out.trans (hb12.mono HB11.out.size))
        clear hb12
        go_wp2_with fail
        go_ret
        exact ⟨rfl, HB12.out⟩
      · have hke : (SA.toList == SB.toList) = false := str_ne hab
        have h2 := Bk.left_taken_other ordK hgd.vl.rise SA SB now 0 (Ne.symm hab)
        rw [Nat.add_zero] at h2
        rw [h2, hmb] at HXB
        generalize Bk.taken kl RL SA now = TX at HTA HXA HXB
        clear hRL hgd hb0 g1 gs hls swa swb hml hrl hka hma hmb ht HLF h1 hmx hz hab h2
        go_enter Try.func7, Try.ntmps7
        go_wp2_with fail
        refine (awake_any _).mono ?_
        rintro e w1 ⟨rfl, hb1⟩
        have HB1 := Lib.hid (HB0.out.trans (hb1.mono HB0.out.size))
        have HT1 := Lib.hid (HBX.out.of (hb1.block _ HBX.out.lt))
        clear hb1
        go_wp2_with fail
        refine (HR.out w1 HB1.out).mono ?_
        rintro e w2 ⟨⟨A2, c2, rfl, hc2, hL2⟩, hb2⟩
        have HB2 := Lib.hid (HB1.out.trans (hb2.mono HB1.out.size))
        have HT2 := Lib.hid (HT1.out.of (hb2.block _ HT1.out.lt))
        have HL2 := Lib.hid hL2
        have x0 := (HT2.out.cell 0).trans rfl
        have x1 := (HT2.out.cell 1).trans rfl
        have x2 := (HT2.out.cell 2).trans rfl
        clear hb2 hL2
        go_wp2_with fail
        refine (key_any q0 w2).mono ?_
        rintro e w2' ⟨rfl, rfl⟩
        simp only [hkx, hsa]
        go_wp2_with fail
        refine (key_any q1 w2).mono ?_
        rintro e w2' ⟨rfl, rfl⟩
        simp only [hky, hsb]
        clear x0 x1 x2
        go_wp2_with fail
        refine (HTA.out A2 c2 w2 hc2 HL2.out).mono ?_
        rintro e w5 ⟨⟨v5, rfl, hr5⟩, hb5⟩
        have HB5 := Lib.hid (HB2.out.trans (hb5.mono HB2.out.size))
        have HL5 := Lib.hid (HL2.out.below hb5)
        obtain ⟨A5, c5, rfl, hc5, hL5⟩ := hr5
        rw [M_length] at hc5
        simp only [M_length]
        have HM5 := Lib.hid hL5
        clear hb5 hL5
        go_wp2_with fail
        refine (HSW.out A2 c2 w5 hc2 HL5.out).mono ?_
        rintro e w6 ⟨⟨v6, rfl, hr6⟩, hb6⟩
        have HB6 := Lib.hid (HB5.out.trans (hb6.mono HB5.out.size))
        have HL6 := Lib.hid (HL5.out.below hb6)
        have HM6 := Lib.hid (HM5.out.below hb6)
        obtain ⟨A6, c6, rfl, hc6, hL6⟩ := hr6
        simp only [M_length]
        have HN6 := Lib.hid hL6
        clear hb6 hL6 hc6
        go_wp2_with fail
        refine (HSA.out A6 c6 w6 HN6.out).mono ?_
        rintro e w7 ⟨rfl, hb7⟩
        have HB7 := Lib.hid (HB6.out.trans (hb7.mono HB6.out.size))
        have HL7 := Lib.hid (HL6.out.below hb7)
        have HM7 := Lib.hid (HM6.out.below hb7)
        have HN7 := Lib.hid (HN6.out.below hb7)
        clear hb7
        go_wp2_with fail
        refine (HRA.out A2 c2 w7 HL7.out).mono ?_
        rintro e w8 ⟨rfl, hb8⟩
        have HB8 := Lib.hid (HB7.out.trans (hb8.mono HB7.out.size))
        have HL8 := Lib.hid (HL7.out.below hb8)
        have HM8 := Lib.hid (HM7.out.below hb8)
        have HN8 := Lib.hid (HN7.out.below hb8)
        clear hb8
        go_wp2_with fail
        refine (HSB.out A6 c6 w8 HN8.out).mono ?_
        rintro e w9 ⟨rfl, hb9⟩
        have HB9 := Lib.hid (HB8.out.trans (hb9.mono HB8.out.size))
        have HL9 := Lib.hid (HL8.out.below hb9)
        have HM9 := Lib.hid (HM8.out.below hb9)
        clear hb9
        go_wp2_with fail
        refine (HRB.out A2 c2 w9 HL9.out).mono ?_
        rintro e w10 ⟨rfl, hb10⟩
        have HB10 := Lib.hid (HB9.out.trans (hb10.mono HB9.out.size))
        have HL10 := Lib.hid (HL9.out.below hb10)
        have HM10 := Lib.hid (HM9.out.below hb10)
        have HR10 := Lib.hid (show Row (fun _ => False) (M TX) (.slice A5 (TX).length c5) w10 from ⟨A5, c5, by rw [M_length], by rw [M_length]; exact hc5, HM10.out⟩)
        have HRL10 := Lib.hid (show Row (fun _ => False) (M RL) (.slice A2 RL.length c2) w10 from ⟨A2, c2, by rw [M_length], by rw [M_length]; exact hc2, HL10.out⟩)
        clear hb10
        go_wp2_with fail
        refine (HXA.out A5 c5 w10 HM10.out).mono ?_
        rintro e w11 ⟨rfl, hb11⟩
        have HB11 := Lib.hid (HB10.out.trans (hb11.mono HB10.out.size))
        have HL11 := Lib.hid (HL10.out.below hb11)
        have HM11 := Lib.hid (HM10.out.below hb11)
        clear hb11
        go_wp2_with fail
        refine (HRA.out A2 c2 w11 HL11.out).mono ?_
        rintro e w12 ⟨rfl, hb12⟩
        have HB12 := Lib.hid (HB11.out.trans (hb12.mono HB11.out.size))
        have HL12 := Lib.hid (HL11.out.below hb12)
        have HM12 := Lib.hid (HM11.out.below hb12)
        clear hb12
        go_wp2_with fail
        refine (HXB.out A5 c5 w12 HM12.out).mono ?_
        rintro e w13 ⟨rfl, hb13⟩
        have HB13 := Lib.hid (HB12.out.trans (hb13.mono HB12.out.size))
        have HL13 := Lib.hid (HL12.out.below hb13)
        clear hb13
        go_wp2_with fail
        refine (HRB.out A2 c2 w13 HL13.out).mono ?_
        rintro e w14 ⟨rfl, hb14⟩
        have HB14 := Lib.hid (HB13.out.trans (hb14.mono HB13.out.size))
        clear hb14
        go_wp2_with fail
        go_ret
        exact ⟨rfl, HB14.out⟩
  · have HLL : Hid ((l.take 20).length ≤ 20) := Lib.hid (by rw [List.length_take]; omega)
    have hlen := HLL.out
    have hl24 : (l.take 20).length = 20 := by rw [List.length_take]; omega
    have HR := Lib.hid (fun W hW => rows_few A cp (l.take 20) (by omega) W ((HA.out.take 20).below (w := W) hW))
    rw [hl24] at HR
    have hgd := rows_gd (l.take 20) (l.take 20).length (by omega)
    have hrl := rowsK_length (l.take 20) (l.take 20).length
    rw [hl24] at hgd hrl
    obtain ⟨RL, hRL⟩ : ∃ RL, rowsK (l.take 20) 20 = RL := ⟨_, rfl⟩
    rw [hRL] at HR hgd hrl
    have hka := keyS_ne ka (by rw [← hkx]; exact (kix_spec q0).1)
    obtain ⟨SA, hsa⟩ : ∃ s, keyS ka = s := ⟨_, rfl⟩
    obtain ⟨SB, hsb⟩ : ∃ s, keyS kb = s := ⟨_, rfl⟩
    rw [hsa] at hka
    have g1 := gd_take hgd SA now (by omega)
    have gs := gd_sweep hgd now
    have hls : (Bk.sweep RL now).length ≤ RL.length := List.length_filter_le _ _
    have swa := Bk.left_sweep ordK hgd.vl.rise SA now
    have swb := Bk.left_sweep ordK hgd.vl.rise SB now
    have hml := M_length RL
    have HTA : Hid (∀ A' c' W, RL.length ≤ c' → Lies (fun _ => False) W A' (bus (M RL)) → Calls Try.prog 19 #[.slice A' RL.length c', .string SA, .int .i64 (now : Int)] W fun e w' => (∃ v, e = .returned (.tuple #[v, .int .i64 ((takeB RL SA now).2 : Int)]) ∧ Row (fun _ => False) (M (takeB RL SA now).1) v w') ∧ Below W.heap.size W w') :=
      Lib.hid (fun A' c' W hc hL => Take_any A' c' RL hc hgd SA now (by omega) W hL)
    have HSW : Hid (∀ A' c' W, RL.length ≤ c' → Lies (fun _ => False) W A' (bus (M RL)) → Calls Try.prog 25 #[.slice A' RL.length c', .int .i64 (now : Int)] W fun e w' => (∃ v, e = .returned v ∧ Row (fun _ => False) (M (Bk.sweep RL now)) v w') ∧ Below W.heap.size W w') :=
      Lib.hid (fun A' c' W hc hL => (Sweep_any A' c' RL hc hgd.vl now (by omega) W hL).mono fun e w' h => ⟨by obtain ⟨⟨v, e, hr⟩, _⟩ := h; exact ⟨v, e, hr.weaker (fun b h => h.elim)⟩, h.2⟩)
    have HLF : Hid (∀ (X : List Bb), Gd X → ∀ (k : ByteArray) A' c' W, Lies (fun _ => False) W A' (bus (M X)) → Calls Try.prog 22 #[.slice A' X.length c', .string k, .int .i64 (now : Int)] W fun e w' => e = .returned (.int .i64 (Bk.left X k now : Int)) ∧ Below W.heap.size W w') := Lib.hid (fun X hX k A' c' W hL => Left_any A' c' X hX.vl k now (by omega) W hL)
    have HRA := Lib.hid (HLF.out RL hgd SA)
    have HRB := Lib.hid (HLF.out RL hgd SB)
    have HSA := Lib.hid (HLF.out _ gs SA)
    have HSB := Lib.hid (HLF.out _ gs SB)
    have HSM : Hid (∀ v u W, Row (fun _ => False) (M RL) v W → Row (fun _ => False) (M RL) u W → Calls Try.prog 21 #[v, u] W fun e w' => e = .returned (.bool true) ∧ Below W.heap.size W w') := Lib.hid (fun v u W hv hu => Same_rows (M RL) (by omega) v u W hv hu)
    rw [swa] at HSA
    rw [swb] at HSB
    generalize Bk.sweep RL now = SW at HSW HSA HSB hls
    obtain ⟨ma, hma⟩ : ∃ m, Bk.left RL SA now = m := ⟨_, rfl⟩
    obtain ⟨mb, hmb⟩ : ∃ m, Bk.left RL SB now = m := ⟨_, rfl⟩
    rw [hma] at HRA HSA
    rw [hmb] at HRB HSB
    have hc1 : ¬ ((SW.length : Int) > (RL.length : Int)) := by omega
    have HB0 := Lib.hid hb0
    have hcut : ∀ W, (Instr.slice 22 (.slice A l.length cp) none (some (.int .i64 20)) none).run Try.prog W = .ok (.slice A 20 cp) W := run_pairs_to A l.length cp 20 (by omega) hcp
    have hgl : ((l.length : Int) > 20) := by omega
    by_cases hz : ma = 0
    · have ht : takeB RL SA now = (RL, 22) := take_a (.inr (by rw [hma]; exact hz))
      rw [ht] at HTA
      simp only at HTA
      subst hz
      clear hRL hgd hb0 g1 gs hls swa swb hml hrl hka hma hmb ht HLF
      go_enter Try.func7, Try.ntmps7
      go_wp2_with fail
      refine (awake_any _).mono ?_
      rintro e w1 ⟨rfl, hb1⟩
      have HB1 := Lib.hid (HB0.out.trans (hb1.mono HB0.out.size))
      have HT1 := Lib.hid (HBX.out.of (hb1.block _ HBX.out.lt))
      clear hb1
      go_wp2_with fail
      refine (HR.out w1 HB1.out).mono ?_
      rintro e w2 ⟨⟨A2, c2, rfl, hc2, hL2⟩, hb2⟩
      have HB2 := Lib.hid (HB1.out.trans (hb2.mono HB1.out.size))
      have HT2 := Lib.hid (HT1.out.of (hb2.block _ HT1.out.lt))
      have HL2 := Lib.hid hL2
      have x0 := (HT2.out.cell 0).trans rfl
      have x1 := (HT2.out.cell 1).trans rfl
      have x2 := (HT2.out.cell 2).trans rfl
      clear hb2 hL2
      go_wp2_with fail
      refine (key_any q0 w2).mono ?_
      rintro e w2' ⟨rfl, rfl⟩
      simp only [hkx, hsa]
      go_wp2_with fail
      refine (key_any q1 w2).mono ?_
      rintro e w2' ⟨rfl, rfl⟩
      simp only [hky, hsb]
      clear x0 x1 x2
      go_wp2_with fail
      refine (HTA.out A2 c2 w2 hc2 HL2.out).mono ?_
      rintro e w5 ⟨⟨v5, rfl, hr5⟩, hb5⟩
      have HB5 := Lib.hid (HB2.out.trans (hb5.mono HB2.out.size))
      have HL5 := Lib.hid (HL2.out.below hb5)
      obtain ⟨A5, c5, rfl, hc5, hL5⟩ := hr5
      rw [M_length] at hc5
      simp only [M_length]
      have HM5 := Lib.hid hL5
      clear hb5 hL5
      go_wp2_with fail
      refine (HSW.out A2 c2 w5 hc2 HL5.out).mono ?_
      rintro e w6 ⟨⟨v6, rfl, hr6⟩, hb6⟩
      have HB6 := Lib.hid (HB5.out.trans (hb6.mono HB5.out.size))
      have HL6 := Lib.hid (HL5.out.below hb6)
      have HM6 := Lib.hid (HM5.out.below hb6)
      obtain ⟨A6, c6, rfl, hc6, hL6⟩ := hr6
      simp only [M_length]
      have HN6 := Lib.hid hL6
      clear hb6 hL6 hc6
      go_wp2_with fail
      refine (HSA.out A6 c6 w6 HN6.out).mono ?_
      rintro e w7 ⟨rfl, hb7⟩
      have HB7 := Lib.hid (HB6.out.trans (hb7.mono HB6.out.size))
      have HL7 := Lib.hid (HL6.out.below hb7)
      have HM7 := Lib.hid (HM6.out.below hb7)
      have HN7 := Lib.hid (HN6.out.below hb7)
      clear hb7
      go_wp2_with fail
      refine (HRA.out A2 c2 w7 HL7.out).mono ?_
      rintro e w8 ⟨rfl, hb8⟩
      have HB8 := Lib.hid (HB7.out.trans (hb8.mono HB7.out.size))
      have HL8 := Lib.hid (HL7.out.below hb8)
      have HM8 := Lib.hid (HM7.out.below hb8)
      have HN8 := Lib.hid (HN7.out.below hb8)
      clear hb8
      go_wp2_with fail
      refine (HSB.out A6 c6 w8 HN8.out).mono ?_
      rintro e w9 ⟨rfl, hb9⟩
      have HB9 := Lib.hid (HB8.out.trans (hb9.mono HB8.out.size))
      have HL9 := Lib.hid (HL8.out.below hb9)
      have HM9 := Lib.hid (HM8.out.below hb9)
      clear hb9
      go_wp2_with fail
      refine (HRB.out A2 c2 w9 HL9.out).mono ?_
      rintro e w10 ⟨rfl, hb10⟩
      have HB10 := Lib.hid (HB9.out.trans (hb10.mono HB9.out.size))
      have HL10 := Lib.hid (HL9.out.below hb10)
      have HM10 := Lib.hid (HM9.out.below hb10)
      have HR10 := Lib.hid (show Row (fun _ => False) (M RL) (.slice A5 (RL).length c5) w10 from ⟨A5, c5, by rw [M_length], by rw [M_length]; exact hc5, HM10.out⟩)
      have HRL10 := Lib.hid (show Row (fun _ => False) (M RL) (.slice A2 RL.length c2) w10 from ⟨A2, c2, by rw [M_length], by rw [M_length]; exact hc2, HL10.out⟩)
      clear hb10
      go_wp2_with fail
      refine (HSM.out _ _ w10 HR10.out HRL10.out).mono ?_
      rintro e w11 ⟨rfl, hb11⟩
      have HB11 := Lib.hid (HB10.out.trans (hb11.mono HB10.out.size))
      have HL11 := Lib.hid (HL10.out.below hb11)
      clear hb11
      go_wp2_with fail
      refine (HRA.out A2 c2 w11 HL11.out).mono ?_
      rintro e w12 ⟨rfl, hb12⟩
      have HB12 := Lib.hid (HB11.out.trans (hb12.mono HB11.out.size))
      clear hb12
      go_wp2_with fail
      go_ret
      exact ⟨rfl, HB12.out⟩
    · have ht : takeB RL SA now = (Bk.taken kl RL SA now, 0) := by rw [take_small (by omega), if_neg (fun e => e.elim hka (fun e => hz (by rw [← hma]; exact e)))]
      have h1 := Bk.left_taken ordK hgd.vl.rise SA now (by rw [hma]; omega)
      rw [ht] at HTA g1
      simp only at HTA g1
      have HXA := Lib.hid (HLF.out _ g1 SA)
      have HXB := Lib.hid (HLF.out _ g1 SB)
      rw [h1, hma] at HXA
      obtain ⟨mx, hmx⟩ : ∃ m, ma - 1 = m := ⟨_, rfl⟩
      rw [hmx] at HXA
      have hv1 : IntKind.i64.wrap ((ma : Int) - 1) = (mx : Int) := by have := Bk.left_le RL SA now; rw [IntKind.wrap_i64]; omega
      by_cases hab : SA = SB
      · have hke : (SA.toList == SB.toList) = true := by rw [str_beq, hab]; simp
        generalize Bk.taken kl RL SA now = TX at HTA HXA HXB
        clear hRL hgd hb0 g1 gs hls swa swb hml hrl hka hma hmb ht HLF h1 hmx hz hab
        go_enter Try.func7, Try.ntmps7
        go_wp2_with fail
        refine (awake_any _).mono ?_
        rintro e w1 ⟨rfl, hb1⟩
        have HB1 := Lib.hid (HB0.out.trans (hb1.mono HB0.out.size))
        have HT1 := Lib.hid (HBX.out.of (hb1.block _ HBX.out.lt))
        clear hb1
        go_wp2_with fail
        refine (HR.out w1 HB1.out).mono ?_
        rintro e w2 ⟨⟨A2, c2, rfl, hc2, hL2⟩, hb2⟩
        have HB2 := Lib.hid (HB1.out.trans (hb2.mono HB1.out.size))
        have HT2 := Lib.hid (HT1.out.of (hb2.block _ HT1.out.lt))
        have HL2 := Lib.hid hL2
        have x0 := (HT2.out.cell 0).trans rfl
        have x1 := (HT2.out.cell 1).trans rfl
        have x2 := (HT2.out.cell 2).trans rfl
        clear hb2 hL2
        go_wp2_with fail
        refine (key_any q0 w2).mono ?_
        rintro e w2' ⟨rfl, rfl⟩
        simp only [hkx, hsa]
        go_wp2_with fail
        refine (key_any q1 w2).mono ?_
        rintro e w2' ⟨rfl, rfl⟩
        simp only [hky, hsb]
        clear x0 x1 x2
        go_wp2_with fail
        refine (HTA.out A2 c2 w2 hc2 HL2.out).mono ?_
        rintro e w5 ⟨⟨v5, rfl, hr5⟩, hb5⟩
        have HB5 := Lib.hid (HB2.out.trans (hb5.mono HB2.out.size))
        have HL5 := Lib.hid (HL2.out.below hb5)
        obtain ⟨A5, c5, rfl, hc5, hL5⟩ := hr5
        rw [M_length] at hc5
        simp only [M_length]
        have HM5 := Lib.hid hL5
        clear hb5 hL5
        go_wp2_with fail
        refine (HSW.out A2 c2 w5 hc2 HL5.out).mono ?_
        rintro e w6 ⟨⟨v6, rfl, hr6⟩, hb6⟩
        have HB6 := Lib.hid (HB5.out.trans (hb6.mono HB5.out.size))
        have HL6 := Lib.hid (HL5.out.below hb6)
        have HM6 := Lib.hid (HM5.out.below hb6)
        obtain ⟨A6, c6, rfl, hc6, hL6⟩ := hr6
        simp only [M_length]
        have HN6 := Lib.hid hL6
        clear hb6 hL6 hc6
        go_wp2_with fail
        refine (HSA.out A6 c6 w6 HN6.out).mono ?_
        rintro e w7 ⟨rfl, hb7⟩
        have HB7 := Lib.hid (HB6.out.trans (hb7.mono HB6.out.size))
        have HL7 := Lib.hid (HL6.out.below hb7)
        have HM7 := Lib.hid (HM6.out.below hb7)
        have HN7 := Lib.hid (HN6.out.below hb7)
        clear hb7
        go_wp2_with fail
        refine (HRA.out A2 c2 w7 HL7.out).mono ?_
        rintro e w8 ⟨rfl, hb8⟩
        have HB8 := Lib.hid (HB7.out.trans (hb8.mono HB7.out.size))
        have HL8 := Lib.hid (HL7.out.below hb8)
        have HM8 := Lib.hid (HM7.out.below hb8)
        have HN8 := Lib.hid (HN7.out.below hb8)
        clear hb8
        go_wp2_with fail
        refine (HSB.out A6 c6 w8 HN8.out).mono ?_
        rintro e w9 ⟨rfl, hb9⟩
        have HB9 := Lib.hid (HB8.out.trans (hb9.mono HB8.out.size))
        have HL9 := Lib.hid (HL8.out.below hb9)
        have HM9 := Lib.hid (HM8.out.below hb9)
        clear hb9
        go_wp2_with fail
        refine (HRB.out A2 c2 w9 HL9.out).mono ?_
        rintro e w10 ⟨rfl, hb10⟩
        have HB10 := Lib.hid (HB9.out.trans (hb10.mono HB9.out.size))
        have HL10 := Lib.hid (HL9.out.below hb10)
        have HM10 := Lib.hid (HM9.out.below hb10)
        have HR10 := Lib.hid (show Row (fun _ => False) (M TX) (.slice A5 (TX).length c5) w10 from ⟨A5, c5, by rw [M_length], by rw [M_length]; exact hc5, HM10.out⟩)
        have HRL10 := Lib.hid (show Row (fun _ => False) (M RL) (.slice A2 RL.length c2) w10 from ⟨A2, c2, by rw [M_length], by rw [M_length]; exact hc2, HL10.out⟩)
        clear hb10
        go_wp2_with fail
        refine (HXA.out A5 c5 w10 HM10.out).mono ?_
        rintro e w11 ⟨rfl, hb11⟩
        have HB11 := Lib.hid (HB10.out.trans (hb11.mono HB10.out.size))
        have HL11 := Lib.hid (HL10.out.below hb11)
        clear hb11
        go_wp2_with fail
        refine (HRA.out A2 c2 w11 HL11.out).mono ?_
        rintro e w12 ⟨rfl, hb12⟩
        have HB12 := Lib.hid (HB11.out.trans (hb12.mono HB11.out.size))
        clear hb12
        go_wp2_with fail
        go_ret
        exact ⟨rfl, HB12.out⟩
      · have hke : (SA.toList == SB.toList) = false := str_ne hab
        have h2 := Bk.left_taken_other ordK hgd.vl.rise SA SB now 0 (Ne.symm hab)
        rw [Nat.add_zero] at h2
        rw [h2, hmb] at HXB
        generalize Bk.taken kl RL SA now = TX at HTA HXA HXB
        clear hRL hgd hb0 g1 gs hls swa swb hml hrl hka hma hmb ht HLF h1 hmx hz hab h2
        go_enter Try.func7, Try.ntmps7
        go_wp2_with fail
        refine (awake_any _).mono ?_
        rintro e w1 ⟨rfl, hb1⟩
        have HB1 := Lib.hid (HB0.out.trans (hb1.mono HB0.out.size))
        have HT1 := Lib.hid (HBX.out.of (hb1.block _ HBX.out.lt))
        clear hb1
        go_wp2_with fail
        refine (HR.out w1 HB1.out).mono ?_
        rintro e w2 ⟨⟨A2, c2, rfl, hc2, hL2⟩, hb2⟩
        have HB2 := Lib.hid (HB1.out.trans (hb2.mono HB1.out.size))
        have HT2 := Lib.hid (HT1.out.of (hb2.block _ HT1.out.lt))
        have HL2 := Lib.hid hL2
        have x0 := (HT2.out.cell 0).trans rfl
        have x1 := (HT2.out.cell 1).trans rfl
        have x2 := (HT2.out.cell 2).trans rfl
        clear hb2 hL2
        go_wp2_with fail
        refine (key_any q0 w2).mono ?_
        rintro e w2' ⟨rfl, rfl⟩
        simp only [hkx, hsa]
        go_wp2_with fail
        refine (key_any q1 w2).mono ?_
        rintro e w2' ⟨rfl, rfl⟩
        simp only [hky, hsb]
        clear x0 x1 x2
        go_wp2_with fail
        refine (HTA.out A2 c2 w2 hc2 HL2.out).mono ?_
        rintro e w5 ⟨⟨v5, rfl, hr5⟩, hb5⟩
        have HB5 := Lib.hid (HB2.out.trans (hb5.mono HB2.out.size))
        have HL5 := Lib.hid (HL2.out.below hb5)
        obtain ⟨A5, c5, rfl, hc5, hL5⟩ := hr5
        rw [M_length] at hc5
        simp only [M_length]
        have HM5 := Lib.hid hL5
        clear hb5 hL5
        go_wp2_with fail
        refine (HSW.out A2 c2 w5 hc2 HL5.out).mono ?_
        rintro e w6 ⟨⟨v6, rfl, hr6⟩, hb6⟩
        have HB6 := Lib.hid (HB5.out.trans (hb6.mono HB5.out.size))
        have HL6 := Lib.hid (HL5.out.below hb6)
        have HM6 := Lib.hid (HM5.out.below hb6)
        obtain ⟨A6, c6, rfl, hc6, hL6⟩ := hr6
        simp only [M_length]
        have HN6 := Lib.hid hL6
        clear hb6 hL6 hc6
        go_wp2_with fail
        refine (HSA.out A6 c6 w6 HN6.out).mono ?_
        rintro e w7 ⟨rfl, hb7⟩
        have HB7 := Lib.hid (HB6.out.trans (hb7.mono HB6.out.size))
        have HL7 := Lib.hid (HL6.out.below hb7)
        have HM7 := Lib.hid (HM6.out.below hb7)
        have HN7 := Lib.hid (HN6.out.below hb7)
        clear hb7
        go_wp2_with fail
        refine (HRA.out A2 c2 w7 HL7.out).mono ?_
        rintro e w8 ⟨rfl, hb8⟩
        have HB8 := Lib.hid (HB7.out.trans (hb8.mono HB7.out.size))
        have HL8 := Lib.hid (HL7.out.below hb8)
        have HM8 := Lib.hid (HM7.out.below hb8)
        have HN8 := Lib.hid (HN7.out.below hb8)
        clear hb8
        go_wp2_with fail
        refine (HSB.out A6 c6 w8 HN8.out).mono ?_
        rintro e w9 ⟨rfl, hb9⟩
        have HB9 := Lib.hid (HB8.out.trans (hb9.mono HB8.out.size))
        have HL9 := Lib.hid (HL8.out.below hb9)
        have HM9 := Lib.hid (HM8.out.below hb9)
        clear hb9
        go_wp2_with fail
        refine (HRB.out A2 c2 w9 HL9.out).mono ?_
        rintro e w10 ⟨rfl, hb10⟩
        have HB10 := Lib.hid (HB9.out.trans (hb10.mono HB9.out.size))
        have HL10 := Lib.hid (HL9.out.below hb10)
        have HM10 := Lib.hid (HM9.out.below hb10)
        have HR10 := Lib.hid (show Row (fun _ => False) (M TX) (.slice A5 (TX).length c5) w10 from ⟨A5, c5, by rw [M_length], by rw [M_length]; exact hc5, HM10.out⟩)
        have HRL10 := Lib.hid (show Row (fun _ => False) (M RL) (.slice A2 RL.length c2) w10 from ⟨A2, c2, by rw [M_length], by rw [M_length]; exact hc2, HL10.out⟩)
        clear hb10
        go_wp2_with fail
        refine (HXA.out A5 c5 w10 HM10.out).mono ?_
        rintro e w11 ⟨rfl, hb11⟩
        have HB11 := Lib.hid (HB10.out.trans (hb11.mono HB10.out.size))
        have HL11 := Lib.hid (HL10.out.below hb11)
        have HM11 := Lib.hid (HM10.out.below hb11)
        clear hb11
        go_wp2_with fail
        refine (HRA.out A2 c2 w11 HL11.out).mono ?_
        rintro e w12 ⟨rfl, hb12⟩
        have HB12 := Lib.hid (HB11.out.trans (hb12.mono HB11.out.size))
        have HL12 := Lib.hid (HL11.out.below hb12)
        have HM12 := Lib.hid (HM11.out.below hb12)
        clear hb12
        go_wp2_with fail
        refine (HXB.out A5 c5 w12 HM12.out).mono ?_
        rintro e w13 ⟨rfl, hb13⟩
        have HB13 := Lib.hid (HB12.out.trans (hb13.mono HB12.out.size))
        have HL13 := Lib.hid (HL12.out.below hb13)
        clear hb13
        go_wp2_with fail
        refine (HRB.out A2 c2 w13 HL13.out).mono ?_
        rintro e w14 ⟨rfl, hb14⟩
        have HB14 := Lib.hid (HB13.out.trans (hb14.mono HB13.out.size))
        clear hb14
        go_wp2_with fail
        go_ret
        exact ⟨rfl, HB14.out⟩

/-! ### The row -/
theorem contract (H : Type) (enc : TypeId × Value → H) (W : World) (base : Nat) (args : Array Value) (ds gs : List (DataW H)) (before : List MemPlace)
    (hval : ∀ (j : Nat) t v, Try.f7.params[j]? = some t → args[j]? = some v → Value.okWide Try.prog W .any base t v)
    (hW : DataW.Whole enc Try.prog Try.f7.params.toList Rows.bucketApartSpec.vars false W args.toList ds gs before) :
    Calls Try.prog 7 args W fun e W' => ∃ v, e = .returned v ∧ Rows.bucketApartSpec.post enc Try.prog Try.f7 false true false false W args v W' := by
  have hW' := hW
  obtain ⟨p, q, hA0, hV, rfl, hfz, hnd⟩ := hW
  have hA : DataW.TrodAll enc Try.prog W 0 (fun _ => true) true Try.f7.params.toList args.toList ds p := hA0
  rw [Try.params7] at hA hval
  obtain ⟨v0, vs0, d0, ds0, p0, q0, hargs, rfl, rfl, h0, r0⟩ := trodAll_cons hA
  obtain ⟨v1, vs1, d1, ds1, p1, q1, rfl, rfl, rfl, h1, r1⟩ := trodAll_cons r0
  obtain ⟨rfl, rfl, rfl⟩ := trodAll_nil r1
  obtain rfl : args = #[v0, v1] := by cases args; simp_all
  obtain ⟨rfl, rfl⟩ := trodVars_none hV
  refine law_contract (tb := 4) laidOut (by kernel_rfl) rfl (by kernel_rfl) Try.underlying4 rfl hW' ?_
  clear hA0 hW' hA
  obtain ⟨A0, k0, l0, rfl, b0, g0⟩ := open_pairs (hval 0 22 v0 rfl rfl) h0
  have hcap0 := open_cap Try.underlying22 h0
  obtain ⟨zs1, rfl, hz1, wz1⟩ := open_array Try.underlying24 Try.underlying3 cells_i (by kernel_rfl) (hval 1 24 v1 rfl rfl) h1
  obtain ⟨z1_0, z1_1, z1_2, rfl⟩ : ∃ z1_0 z1_1 z1_2, zs1 = [z1_0, z1_1, z1_2] := by
    match zs1, hz1 with
    | [a0, a1, a2], _ => exact ⟨a0, a1, a2, rfl⟩
  exact walk A0 k0 l0 hcap0 z1_0 z1_1 z1_2 W g0

set_option maxRecDepth 100000 in
theorem lifted (os : Os) (started : os.Started) (H : Type) (enc : TypeId × Value → H) :
    ReturnsInHanded {} Try.checked os 7 .any (Rows.bucketApartSpec.pre6 enc Try.prog Try.f7 Rows.bucketApartRow.domain false) (Rows.bucketApartSpec.post enc Try.prog Try.f7 false true false false) := by
  refine returnsInHanded_of_change (C := Try.checked) own started (by kernel_rfl) Try.func7
    (ChangeSpec.witness6 (enc := enc) (C := Try.checked) false ⟨#[], #[.slice none 0 0, .agg #[.int .i64 0, .int .i64 0, .int .i64 0]], []⟩ 8 (by kernel_rfl) (by kernel_rfl) (by kernel_rfl) (by kernel_rfl)) ?_
  intro W base args ds gs before hval hW _ _
  exact contract H enc W base args ds gs before hval hW

/-- THE STATEMENT. -/
theorem said : Rows.BucketApartSaid :=
  OpenClaim.holds_of_wide 7 Try.f7 rfl rfl rfl rfl rfl rfl rfl ⟨rfl, rfl, rfl, rfl, rfl⟩ rfl rfl rfl rfl rfl (by kernel_rfl) Try.func7 (by kernel_rfl)
    (of_decide_eq_true (by kernel_rfl)) (by unfold Func.isWrapper; first | (rw [if_pos (by decide +kernel)]; kernel_rfl) | (rw [if_neg (by decide +kernel)]; exact ⟨rfl, rfl⟩))
    (fun os started H enc _ => lifted os started H enc)
#print axioms said
end Go.Proofs.Ytbldonkfboahmaa.bucketApart
