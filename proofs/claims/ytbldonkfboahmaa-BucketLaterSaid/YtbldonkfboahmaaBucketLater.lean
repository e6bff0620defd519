/-
  BucketLater: what is left never falls with time; two takes of two keys come to the same, whichever is first. No condition.
-/
import Derived.Test.YtbldonkfboahmaaBcZ
import Derived.Test.YtbldonkfboahmaaBkM
import Derived.Test.YtbldonkfboahmaaTkT
namespace Go.Proofs.Ytbldonkfboahmaa.bucketLater
open Go.ChangeShapes Go.WideShapes Go.ChangeAt Go.RowKit
open Go.ChangeMaps (open_string shut_string)


set_option maxRecDepth 100000 in
set_option maxHeartbeats 8000000 in
theorem walk (A : Option Addr) (cp : Nat) (l : List (Int × Int)) (hcp : l.length ≤ cp) (q0 q1 q2 q3 : Int) (w : World) (hA : Prs w A l) :
    Calls Try.prog 9 #[.slice A l.length cp, .agg #[.int .i64 q0, .int .i64 q1, .int .i64 q2, .int .i64 q3]] w fun e w' => e = .returned (.bool true) ∧ Below w.heap.size w w' := by
  have HA := Lib.hid hA
  clear hA
  obtain ⟨ka, hkx⟩ : ∃ k, kix q0 = k := ⟨_, rfl⟩
  obtain ⟨kb, hky⟩ : ∃ k, kix q1 = k := ⟨_, rfl⟩
  have ha := and255 q2
  have hlo := lo_lt q2 256 (by decide)
  obtain ⟨t, ht⟩ : ∃ t, lo q2 256 = t := ⟨_, rfl⟩
  rw [ht] at ha hlo
  have hd3 := and127 q3
  have hlo3 := lo_lt q3 128 (by decide)
  obtain ⟨d, hd⟩ : ∃ t, lo q3 128 = t := ⟨_, rfl⟩
  rw [hd] at hd3 hlo3
  obtain ⟨now, hnow⟩ : ∃ n, 127 + t = n := ⟨_, rfl⟩
  have hv0 : IntKind.i64.wrap (127 + (t : Int)) = (now : Int) := by rw [IntKind.wrap_i64]; omega
  have hb0 : Below w.heap.size w (w.alloc (.cells #[.int .i64 q0, .int .i64 q1, .int .i64 q2, .int .i64 q3] 51)) := (Below.refl _ w).alloc (Nat.le_refl _) _
  have HBX := Lib.hid (Blk.new w 51 #[.int .i64 q0, .int .i64 q1, .int .i64 q2, .int .i64 q3])
  clear ht hd
  by_cases h24 : l.length ≤ 20
  · have HLL : Hid (l.length ≤ 20) := Lib.hid (by omega)
    have hlen := HLL.out
    have HR := Lib.hid (fun W hW => rows_few A cp l (by omega) W (HA.out.below (w := W) hW))
    have hgd := rows_gd l l.length (by omega)
    have hrl := rowsK_length l l.length
    obtain ⟨RL, hRL⟩ : ∃ RL, rowsK l l.length = RL := ⟨_, rfl⟩
    rw [hRL] at HR hgd hrl
    have hka := keyS_ne ka (by rw [← hkx]; exact (kix_spec q0).1)
    have hkb := keyS_ne kb (by rw [← hky]; exact (kix_spec q1).1)
    have hla := Bk.left_later RL (keyS ka) now d
    obtain ⟨e1, e2⟩ := later hgd.vl.rise (by omega) (keyS ka) (keyS kb) now hka hkb
    obtain ⟨SA, hsa⟩ : ∃ s, keyS ka = s := ⟨_, rfl⟩
    obtain ⟨SB, hsb⟩ : ∃ s, keyS kb = s := ⟨_, rfl⟩
    rw [hsa] at hla e1 e2 hka
    rw [hsb] at e1 e2 hkb
    have g1 := gd_take hgd SA now (by omega)
    have g2 := gd_take hgd SB now (by omega)
    have g3 := gd_take g1 SB now (by omega)
    have g4 := gd_take g2 SA now (by omega)
    have HT : Hid (∀ (X : List Bb), Gd X → ∀ (k : ByteArray) A' c' W, X.length ≤ c' → Lies (fun _ => False) W A' (bus (M X)) → Calls Try.prog 19 #[.slice A' X.length c', .string k, .int .i64 (now : Int)] W fun e w' => (∃ v, e = .returned (.tuple #[v, .int .i64 ((takeB X k now).2 : Int)]) ∧ Row (fun _ => False) (M (takeB X k now).1) v w') ∧ Below W.heap.size W w') :=
      Lib.hid (fun X hX k A' c' W hc hL => Take_any A' c' X hc hX k now (by omega) W hL)
    obtain ⟨nx, hnx⟩ : ∃ x, now + d = x := ⟨_, rfl⟩
    rw [hnx] at hla
    have HL0 : Hid (∀ A' c' W, Lies (fun _ => False) W A' (bus (M RL)) → Calls Try.prog 22 #[.slice A' RL.length c', .string SA, .int .i64 (now : Int)] W fun e w' => e = .returned (.int .i64 (Bk.left RL SA now : Int)) ∧ Below W.heap.size W w') := Lib.hid (fun A' c' W hL => Left_any A' c' RL hgd.vl SA now (by omega) W hL)
    have HL1 : Hid (∀ A' c' W, Lies (fun _ => False) W A' (bus (M RL)) → Calls Try.prog 22 #[.slice A' RL.length c', .string SA, .int .i64 (nx : Int)] W fun e w' => e = .returned (.int .i64 (Bk.left RL SA nx : Int)) ∧ Below W.heap.size W w') := Lib.hid (fun A' c' W hL => Left_any A' c' RL hgd.vl SA nx (by omega) W hL)
    have hv1 : IntKind.i64.wrap ((now : Int) + (d : Int)) = (nx : Int) := by rw [IntKind.wrap_i64]; omega
    generalize Bk.left RL SA now = m0 at hla HL0
    generalize Bk.left RL SA nx = m1 at hla HL1
    have hc1 : ¬ ((m1 : Int) < (m0 : Int)) := by omega
    have HG0 := Lib.hid hgd
    have H1 := Lib.hid (HT.out RL hgd SA)
    have H3 := Lib.hid (HT.out RL hgd SB)
    obtain ⟨T1, hT1⟩ : ∃ T, takeB RL SA now = T := ⟨_, rfl⟩
    obtain ⟨T3, hT3⟩ : ∃ T, takeB RL SB now = T := ⟨_, rfl⟩
    rw [hT1] at H1 g1 g3 e1 e2
    rw [hT3] at H3 g2 g4 e1 e2
    obtain ⟨X1, ec⟩ := T1
    obtain ⟨X3, gc⟩ := T3
    simp only at H1 H3 g1 g2 g3 g4 e1 e2
    have H2 := Lib.hid (HT.out X1 g1 SB)
    have H4 := Lib.hid (HT.out X3 g2 SA)
    obtain ⟨T2, hT2⟩ : ∃ T, takeB X1 SB now = T := ⟨_, rfl⟩
    obtain ⟨T4, hT4⟩ : ∃ T, takeB X3 SA now = T := ⟨_, rfl⟩
    rw [hT2] at H2 g3 e1 e2
    rw [hT4] at H4 g4 e1 e2
    obtain ⟨X2, fc⟩ := T2
    obtain ⟨X4, hc⟩ := T4
    simp only at H2 H4 g3 g4 e1 e2
    have l2 := g3.len
    have l4 := g4.len
    have m2 := M_length X2
    have m4 := M_length X4
    have HSM : Hid (∀ v u W, Row (fun _ => False) (M X2) v W → Row (fun _ => False) (M X4) u W → Calls Try.prog 21 #[v, u] W fun e w' => e = .returned (.bool (decide (M X2 = M X4))) ∧ Below W.heap.size W w') := Lib.hid (fun v u W hv hu => by
      obtain ⟨A', c', rfl, _, hA'⟩ := hv
      obtain ⟨B', d', rfl, _, hB'⟩ := hu
      exact Same_any A' B' c' d' (M X2) (M X4) (by omega) (by omega) W hA' hB')
    have hsame : ec = 0 → fc = 0 → gc = 0 → hc = 0 → decide (M X2 = M X4) = true := fun a b c d => by rw [e2 a b c d]; simp
    generalize decide (M X2 = M X4) = sm at HSM hsame
    have HB0 := Lib.hid hb0
    have hgl : ¬ ((l.length : Int) > 20) := by omega
    clear hRL hgd hb0 g3 g4 e2 hT1 hT2 hT3 hT4 l2 l4 m2 m4 hla hka hkb hrl
    by_cases hab : SA = SB
    · have hke : (SA.toList == SB.toList) = true := by rw [str_beq, hab]; simp
      clear e1 hab
      by_cases z1 : ec = 0
      · by_cases z2 : fc = 0
        · by_cases z3 : gc = 0
          · by_cases z4 : hc = 0
            · have hs := hsame z1 z2 z3 z4
              subst z1 z2 z3 z4 hs
              clear hsame
              go_enter Try.func9, Try.ntmps9
              go_wp2_with fail
              refine (awake_any _).mono ?_
              rintro e w1 ⟨rfl, hb1⟩
              have HB1 := Lib.hid (HB0.out.trans (hb1.mono HB0.out.size))
              have HT1 := Lib.hid (HBX.out.of (hb1.block _ HBX.out.lt))
              clear hb1
              go_wp2_with fail
              refine (HR.out w1 HB1.out).mono ?_
              rintro e w2 ⟨⟨A2, c2, rfl, hc2, hL2⟩, hb2⟩
              have HB2 := Lib.hid (HB1.out.trans (hb2.mono HB1.out.size))
              have HT2 := Lib.hid (HT1.out.of (hb2.block _ HT1.out.lt))
              have HL2 := Lib.hid hL2
              have x0 := (HT2.out.cell 0).trans rfl
              have x1 := (HT2.out.cell 1).trans rfl
              have x2 := (HT2.out.cell 2).trans rfl
              have x3 := (HT2.out.cell 3).trans rfl
              clear hb2 hL2
              go_wp2_with fail
              refine (key_any q0 w2).mono ?_
              rintro e w2' ⟨rfl, rfl⟩
              simp only [hkx, hsa]
              go_wp2_with fail
              refine (key_any q1 w2).mono ?_
              rintro e w2' ⟨rfl, rfl⟩
              simp only [hky, hsb]
              go_wp2_with fail
              refine (HL1.out A2 c2 w2 HL2.out).mono ?_
              rintro e w3 ⟨rfl, hb3⟩
              have HB3 := Lib.hid (HB2.out.trans (hb3.mono HB2.out.size))
              have HL3 := Lib.hid (HL2.out.below hb3)
              clear hb3 x0 x1 x2 x3
              go_wp2_with fail
              refine (HL0.out A2 c2 w3 HL3.out).mono ?_
              rintro e w4 ⟨rfl, hb4⟩
              have HB4 := Lib.hid (HB3.out.trans (hb4.mono HB3.out.size))
              have HL4 := Lib.hid (HL3.out.below hb4)
              clear hb4
              go_wp2_with fail
              refine (H1.out A2 c2 w4 hc2 HL4.out).mono ?_
              rintro e w5 ⟨⟨v5, rfl, hr5⟩, hb5⟩
              have HB5 := Lib.hid (HB4.out.trans (hb5.mono HB4.out.size))
              have HL5 := Lib.hid (HL4.out.below hb5)
              obtain ⟨A5, c5, rfl, hc5, hL5⟩ := hr5
              rw [M_length] at hc5
              simp only [M_length]
              have HM5 := Lib.hid hL5
              clear hb5 hL5
              go_wp2_with fail
              refine (H2.out A5 c5 w5 hc5 HM5.out).mono ?_
              rintro e w6 ⟨⟨v6, rfl, hr6⟩, hb6⟩
              have HB6 := Lib.hid (HB5.out.trans (hb6.mono HB5.out.size))
              have HL6 := Lib.hid (HL5.out.below hb6)
              have HR6 := Lib.hid hr6
              clear hb6 hr6
              go_wp2_with fail
              refine (H3.out A2 c2 w6 hc2 HL6.out).mono ?_
              rintro e w7 ⟨⟨v7, rfl, hr7⟩, hb7⟩
              have HB7 := Lib.hid (HB6.out.trans (hb7.mono HB6.out.size))
              have HR7 := Lib.hid (HR6.out.below hb7)
              obtain ⟨A7, c7, rfl, hc7, hL7⟩ := hr7
              rw [M_length] at hc7
              simp only [M_length]
              have HM7 := Lib.hid hL7
              clear hb7 hL7
              go_wp2_with fail
              refine (H4.out A7 c7 w7 hc7 HM7.out).mono ?_
              rintro e w8 ⟨⟨v8, rfl, hr8⟩, hb8⟩
              have HB8 := Lib.hid (HB7.out.trans (hb8.mono HB7.out.size))
              have HSS := Lib.hid (HSM.out v6 v8 w8 (HR7.out.below hb8) hr8)
              clear hb8 hr8
              go_wp2_with fail
              refine HSS.out.mono ?_
              rintro e w9 ⟨rfl, hb9⟩
              have HB9 := Lib.hid (HB8.out.trans (hb9.mono HB8.out.size))
              clear hb9
              go_wp2_with fail
              go_ret
              exact ⟨rfl, HB9.out⟩
            · have y4 : ((hc : Int) != 0) = true := by rw [bne_iff_ne]; omega
              subst z1 z2 z3
              clear hsame
              go_enter Try.func9, Try.ntmps9
              go_wp2_with fail
              refine (awake_any _).mono ?_
              rintro e w1 ⟨rfl, hb1⟩
              have HB1 := Lib.hid (HB0.out.trans (hb1.mono HB0.out.size))
              have HT1 := Lib.hid (HBX.out.of (hb1.block _ HBX.out.lt))
              clear hb1
              go_wp2_with fail
              refine (HR.out w1 HB1.out).mono ?_
              rintro e w2 ⟨⟨A2, c2, rfl, hc2, hL2⟩, hb2⟩
              have HB2 := Lib.hid (HB1.out.trans (hb2.mono HB1.out.size))
              have HT2 := Lib.hid (HT1.out.of (hb2.block _ HT1.out.lt))
              have HL2 := Lib.hid hL2
              have x0 := (HT2.out.cell 0).trans rfl
              have x1 := (HT2.out.cell 1).trans rfl
              have x2 := (HT2.out.cell 2).trans rfl
              have x3 := (HT2.out.cell 3).trans rfl
              clear hb2 hL2
              go_wp2_with fail
              refine (key_any q0 w2).mono ?_
              rintro e w2' ⟨rfl, rfl⟩
              simp only [hkx, hsa]
              go_wp2_with fail
              refine (key_any q1 w2).mono ?_
              rintro e w2' ⟨rfl, rfl⟩
              simp only [hky, hsb]
              go_wp2_with fail
              refine (HL1.out A2 c2 w2 HL2.out).mono ?_
              rintro e w3 ⟨rfl, hb3⟩
              have HB3 := Lib.hid (HB2.out.trans (hb3.mono HB2.out.size))
              have HL3 := Lib.hid (HL2.out.below hb3)
              clear hb3 x0 x1 x2 x3
              go_wp2_with fail
              refine (HL0.out A2 c2 w3 HL3.out).mono ?_
              rintro e w4 ⟨rfl, hb4⟩
              have HB4 := Lib.hid (HB3.out.trans (hb4.mono HB3.out.size))
              have HL4 := Lib.hid (HL3.out.below hb4)
              clear hb4
              go_wp2_with fail
              refine (H1.out A2 c2 w4 hc2 HL4.out).mono ?_
              rintro e w5 ⟨⟨v5, rfl, hr5⟩, hb5⟩
              have HB5 := Lib.hid (HB4.out.trans (hb5.mono HB4.out.size))
              have HL5 := Lib.hid (HL4.out.below hb5)
              obtain ⟨A5, c5, rfl, hc5, hL5⟩ := hr5
              rw [M_length] at hc5
              simp only [M_length]
              have HM5 := Lib.hid hL5
              clear hb5 hL5
              go_wp2_with fail
              refine (H2.out A5 c5 w5 hc5 HM5.out).mono ?_
              rintro e w6 ⟨⟨v6, rfl, hr6⟩, hb6⟩
              have HB6 := Lib.hid (HB5.out.trans (hb6.mono HB5.out.size))
              have HL6 := Lib.hid (HL5.out.below hb6)
              have HR6 := Lib.hid hr6
              clear hb6 hr6
              go_wp2_with fail
              refine (H3.out A2 c2 w6 hc2 HL6.out).mono ?_
              rintro e w7 ⟨⟨v7, rfl, hr7⟩, hb7⟩
              have HB7 := Lib.hid (HB6.out.trans (hb7.mono HB6.out.size))
              have HR7 := Lib.hid (HR6.out.below hb7)
              obtain ⟨A7, c7, rfl, hc7, hL7⟩ := hr7
              rw [M_length] at hc7
              simp only [M_length]
              have HM7 := Lib.hid hL7
              clear hb7 hL7
              go_wp2_with fail
              refine (H4.out A7 c7 w7 hc7 HM7.out).mono ?_
              rintro e w8 ⟨⟨v8, rfl, hr8⟩, hb8⟩
              have HB8 := Lib.hid (HB7.out.trans (hb8.mono HB7.out.size))
              have HSS := Lib.hid (HSM.out v6 v8 w8 (HR7.out.below hb8) hr8)
              clear hb8 hr8
              go_wp2_with fail
              refine HSS.out.mono ?_
              rintro e w9 ⟨rfl, hb9⟩
              have HB9 := Lib.hid (HB8.out.trans (hb9.mono HB8.out.size))
              clear hb9
              go_wp2_with fail
              go_ret
              exact ⟨rfl, HB9.out⟩
          · have y3 : ((gc : Int) != 0) = true := by rw [bne_iff_ne]; omega
            subst z1 z2
            clear hsame
            go_enter Try.func9, Try.ntmps9
            go_wp2_with fail
            refine (awake_any _).mono ?_
            rintro e w1 ⟨rfl, hb1⟩
            have HB1 := Lib.hid (HB0.out.trans (hb1.mono HB0.out.size))
            have HT1 := Lib.hid (HBX.out.of (hb1.block _ HBX.out.lt))
            clear hb1
            go_wp2_with fail
            refine (HR.out w1 HB1.out).mono ?_
            rintro e w2 ⟨⟨A2, c2, rfl, hc2, hL2⟩, hb2⟩
            have HB2 := Lib.hid (HB1.out.trans (hb2.mono HB1.out.size))
            have HT2 := Lib.hid (HT1.out.of (hb2.block _ HT1.out.lt))
            have HL2 := Lib.hid hL2
            have x0 := (HT2.out.cell 0).trans rfl
            have x1 := (HT2.out.cell 1).trans rfl
            have x2 := (HT2.out.cell 2).trans rfl
            have x3 := (HT2.out.cell 3).trans rfl
            clear hb2 hL2
            go_wp2_with fail
            refine (key_any q0 w2).mono ?_
            rintro e w2' ⟨rfl, rfl⟩
            simp only [hkx, hsa]
            go_wp2_with fail
            refine (key_any q1 w2).mono ?_
            rintro e w2' ⟨rfl, rfl⟩
            simp only [hky, hsb]
            go_wp2_with fail
            refine (HL1.out A2 c2 w2 HL2.out).mono ?_
            rintro e w3 ⟨rfl, hb3⟩
            have HB3 := Lib.hid (HB2.out.trans (hb3.mono HB2.out.size))
            have HL3 := Lib.hid (HL2.out.below hb3)
            clear hb3 x0 x1 x2 x3
            go_wp2_with fail
            refine (HL0.out A2 c2 w3 HL3.out).mono ?_
            rintro e w4 ⟨rfl, hb4⟩
            have HB4 := Lib.hid (HB3.out.trans (hb4.mono HB3.out.size))
            have HL4 := Lib.hid (HL3.out.below hb4)
            clear hb4
            go_wp2_with fail
            refine (H1.out A2 c2 w4 hc2 HL4.out).mono ?_
            rintro e w5 ⟨⟨v5, rfl, hr5⟩, hb5⟩
            have HB5 := Lib.hid (HB4.out.trans (hb5.mono HB4.out.size))
            have HL5 := Lib.hid (HL4.out.below hb5)
            obtain ⟨A5, c5, rfl, hc5, hL5⟩ := hr5
            rw [M_length] at hc5
            simp only [M_length]
            have HM5 := Lib.hid hL5
            clear hb5 hL5
            go_wp2_with fail
            refine (H2.out A5 c5 w5 hc5 HM5.out).mono ?_
            rintro e w6 ⟨⟨v6, rfl, hr6⟩, hb6⟩
            have HB6 := Lib.hid (HB5.out.trans (hb6.mono HB5.out.size))
            have HL6 := Lib.hid (HL5.out.below hb6)
            have HR6 := Lib.hid hr6
            clear hb6 hr6
            go_wp2_with fail
            refine (H3.out A2 c2 w6 hc2 HL6.out).mono ?_
            rintro e w7 ⟨⟨v7, rfl, hr7⟩, hb7⟩
            have HB7 := Lib.hid (HB6.out.trans (hb7.mono HB6.out.size))
            have HR7 := Lib.hid (HR6.out.below hb7)
            obtain ⟨A7, c7, rfl, hc7, hL7⟩ := hr7
            rw [M_length] at hc7
            simp only [M_length]
            have HM7 := Lib.hid hL7
            clear hb7 hL7
            go_wp2_with fail
            refine (H4.out A7 c7 w7 hc7 HM7.out).mono ?_
            rintro e w8 ⟨⟨v8, rfl, hr8⟩, hb8⟩
            have HB8 := Lib.hid (HB7.out.trans (hb8.mono HB7.out.size))
            have HSS := Lib.hid (HSM.out v6 v8 w8 (HR7.out.below hb8) hr8)
            clear hb8 hr8
            go_wp2_with fail
            refine HSS.out.mono ?_
            rintro e w9 ⟨rfl, hb9⟩
            have HB9 := Lib.hid (HB8.out.trans (hb9.mono HB8.out.size))
            clear hb9
            go_wp2_with fail
            go_ret
            exact ⟨rfl, HB9.out⟩
        · have y2 : ((fc : Int) != 0) = true := by rw [bne_iff_ne]; omega
          subst z1
          clear hsame
          go_enter Try.func9, Try.ntmps9
          go_wp2_with fail
          refine (awake_any _).mono ?_
          rintro e w1 ⟨rfl, hb1⟩
          have HB1 := Lib.hid (HB0.out.trans (hb1.mono HB0.out.size))
          have HT1 := Lib.hid (HBX.out.of (hb1.block _ HBX.out.lt))
          clear hb1
          go_wp2_with fail
          refine (HR.out w1 HB1.out).mono ?_
          rintro e w2 ⟨⟨A2, c2, rfl, hc2, hL2⟩, hb2⟩
          have HB2 := Lib.hid (HB1.out.trans (hb2.mono HB1.out.size))
          have HT2 := Lib.hid (HT1.out.of (hb2.block _ HT1.out.lt))
          have HL2 := Lib.hid hL2
          have x0 := (HT2.out.cell 0).trans rfl
          have x1 := (HT2.out.cell 1).trans rfl
          have x2 := (HT2.out.cell 2).trans rfl
          have x3 := (HT2.out.cell 3).trans rfl
          clear hb2 hL2
          go_wp2_with fail
          refine (key_any q0 w2).mono ?_
          rintro e w2' ⟨rfl, rfl⟩
          simp only [hkx, hsa]
          go_wp2_with fail
          refine (key_any q1 w2).mono ?_
          rintro e w2' ⟨rfl, rfl⟩
          simp only [hky, hsb]
          go_wp2_with fail
          refine (HL1.out A2 c2 w2 HL2.out).mono ?_
          rintro e w3 ⟨rfl, hb3⟩
          have HB3 := Lib.hid (HB2.out.trans (hb3.mono HB2.out.size))
          have HL3 := Lib.hid (HL2.out.below hb3)
          clear hb3 x0 x1 x2 x3
          go_wp2_with fail
          refine (HL0.out A2 c2 w3 HL3.out).mono ?_
          rintro e w4 ⟨rfl, hb4⟩
          have HB4 := Lib.hid (HB3.out.trans (hb4.mono HB3.out.size))
          have HL4 := Lib.hid (HL3.out.below hb4)
          clear hb4
          go_wp2_with fail
          refine (H1.out A2 c2 w4 hc2 HL4.out).mono ?_
          rintro e w5 ⟨⟨v5, rfl, hr5⟩, hb5⟩
          have HB5 := Lib.hid (HB4.out.trans (hb5.mono HB4.out.size))
          have HL5 := Lib.hid (HL4.out.below hb5)
          obtain ⟨A5, c5, rfl, hc5, hL5⟩ := hr5
          rw [M_length] at hc5
          simp only [M_length]
          have HM5 := Lib.hid hL5
          clear hb5 hL5
          go_wp2_with fail
          refine (H2.out A5 c5 w5 hc5 HM5.out).mono ?_
          rintro e w6 ⟨⟨v6, rfl, hr6⟩, hb6⟩
          have HB6 := Lib.hid (HB5.out.trans (hb6.mono HB5.out.size))
          have HL6 := Lib.hid (HL5.out.below hb6)
          have HR6 := Lib.hid hr6
          clear hb6 hr6
          go_wp2_with fail
          refine (H3.out A2 c2 w6 hc2 HL6.out).mono ?_
          rintro e w7 ⟨⟨v7, rfl, hr7⟩, hb7⟩
          have HB7 := Lib.hid (HB6.out.trans (hb7.mono HB6.out.size))
          have HR7 := Lib.hid (HR6.out.below hb7)
          obtain ⟨A7, c7, rfl, hc7, hL7⟩ := hr7
          rw [M_length] at hc7
          simp only [M_length]
          have HM7 := Lib.hid hL7
          clear hb7 hL7
          go_wp2_with fail
          refine (H4.out A7 c7 w7 hc7 HM7.out).mono ?_
          rintro e w8 ⟨⟨v8, rfl, hr8⟩, hb8⟩
          have HB8 := Lib.hid (HB7.out.trans (hb8.mono HB7.out.size))
          have HSS := Lib.hid (HSM.out v6 v8 w8 (HR7.out.below hb8) hr8)
          clear hb8 hr8
          go_wp2_with fail
          refine HSS.out.mono ?_
          rintro e w9 ⟨rfl, hb9⟩
          have HB9 := Lib.hid (HB8.out.trans (hb9.mono HB8.out.size))
          clear hb9
          go_wp2_with fail
          go_ret
          exact ⟨rfl, HB9.out⟩
      · have y1 : ((ec : Int) != 0) = true := by rw [bne_iff_ne]; omega
        clear hsame
        go_enter Try.func9, Try.ntmps9
        go_wp2_with fail
        refine (awake_any _).mono ?_
        rintro e w1 ⟨rfl, hb1⟩
        have HB1 := Lib.hid (HB0.out.trans (hb1.mono HB0.out.size))
        have HT1 := Lib.hid (HBX.out.of (hb1.block _ HBX.out.lt))
        clear hb1
        go_wp2_with fail
        refine (HR.out w1 HB1.out).mono ?_
        rintro e w2 ⟨⟨A2, c2, rfl, hc2, hL2⟩, hb2⟩
        have HB2 := Lib.hid (HB1.out.trans (hb2.mono HB1.out.size))
        have HT2 := Lib.hid (HT1.out.of (hb2.block _ HT1.out.lt))
        have HL2 := Lib.hid hL2
        have x0 := (HT2.out.cell 0).trans rfl
        have x1 := (HT2.out.cell 1).trans rfl
        have x2 := (HT2.out.cell 2).trans rfl
        have x3 := (HT2.out.cell 3).trans rfl
        clear hb2 hL2
        go_wp2_with fail
        refine (key_any q0 w2).mono ?_
        rintro e w2' ⟨rfl, rfl⟩
        simp only [hkx, hsa]
        go_wp2_with fail
        refine (key_any q1 w2).mono ?_
        rintro e w2' ⟨rfl, rfl⟩
        simp only [hky, hsb]
        go_wp2_with fail
        refine (HL1.out A2 c2 w2 HL2.out).mono ?_
        rintro e w3 ⟨rfl, hb3⟩
        have HB3 := Lib.hid (HB2.out.trans (hb3.mono HB2.out.size))
        have HL3 := Lib.hid (HL2.out.below hb3)
        clear hb3 x0 x1 x2 x3
        go_wp2_with fail
        refine (HL0.out A2 c2 w3 HL3.out).mono ?_
        rintro e w4 ⟨rfl, hb4⟩
        have HB4 := Lib.hid (HB3.out.trans (hb4.mono HB3.out.size))
        have HL4 := Lib.hid (HL3.out.below hb4)
        clear hb4
        go_wp2_with fail
        refine (H1.out A2 c2 w4 hc2 HL4.out).mono ?_
        rintro e w5 ⟨⟨v5, rfl, hr5⟩, hb5⟩
        have HB5 := Lib.hid (HB4.out.trans (hb5.mono HB4.out.size))
        have HL5 := Lib.hid (HL4.out.below hb5)
        obtain ⟨A5, c5, rfl, hc5, hL5⟩ := hr5
        rw [M_length] at hc5
        simp only [M_length]
        have HM5 := Lib.hid hL5
        clear hb5 hL5
        go_wp2_with fail
        refine (H2.out A5 c5 w5 hc5 HM5.out).mono ?_
        rintro e w6 ⟨⟨v6, rfl, hr6⟩, hb6⟩
        have HB6 := Lib.hid (HB5.out.trans (hb6.mono HB5.out.size))
        have HL6 := Lib.hid (HL5.out.below hb6)
        have HR6 := Lib.hid hr6
        clear hb6 hr6
        go_wp2_with fail
        refine (H3.out A2 c2 w6 hc2 HL6.out).mono ?_
        rintro e w7 ⟨⟨v7, rfl, hr7⟩, hb7⟩
        have HB7 := Lib.hid (HB6.out.trans (hb7.mono HB6.out.size))
        have HR7 := Lib.hid (HR6.out.below hb7)
        obtain ⟨A7, c7, rfl, hc7, hL7⟩ := hr7
        rw [M_length] at hc7
        simp only [M_length]
        have HM7 := Lib.hid hL7
        clear hb7 hL7
        go_wp2_with fail
        refine (H4.out A7 c7 w7 hc7 HM7.out).mono ?_
        rintro e w8 ⟨⟨v8, rfl, hr8⟩, hb8⟩
        have HB8 := Lib.hid (HB7.out.trans (hb8.mono HB7.out.size))
        have HSS := Lib.hid (HSM.out v6 v8 w8 (HR7.out.below hb8) hr8)
        clear hb8 hr8
        go_wp2_with fail
        refine HSS.out.mono ?_
        rintro e w9 ⟨rfl, hb9⟩
        have HB9 := Lib.hid (HB8.out.trans (hb9.mono HB8.out.size))
        clear hb9
        go_wp2_with fail
        go_ret
        exact ⟨rfl, HB9.out⟩
    · have hke : (SA.toList == SB.toList) = false := str_ne hab
      obtain ⟨c1, c2⟩ := e1 hab
      subst c1
      subst c2
      clear e1 hab
      by_cases z1 : ec = 0
      · by_cases z2 : fc = 0
        · have hs := hsame z1 z2 z2 z1
          subst z1 z2 hs
          clear hsame
          go_enter Try.func9, Try.ntmps9
          go_wp2_with fail
          refine (awake_any _).mono ?_
          rintro e w1 ⟨rfl, hb1⟩
          have HB1 := Lib.hid (HB0.out.trans (hb1.mono HB0.out.size))
          have HT1 := Lib.hid (HBX.out.of (hb1.block _ HBX.out.lt))
          clear hb1
          go_wp2_with fail
          refine (HR.out w1 HB1.out).mono ?_
          rintro e w2 ⟨⟨A2, c2, rfl, hc2, hL2⟩, hb2⟩
          have HB2 := Lib.hid (HB1.out.trans (hb2.mono HB1.out.size))
          have HT2 := Lib.hid (HT1.out.of (hb2.block _ HT1.out.lt))
          have HL2 := Lib.hid hL2
          have x0 := (HT2.out.cell 0).trans rfl
          have x1 := (HT2.out.cell 1).trans rfl
          have x2 := (HT2.out.cell 2).trans rfl
          have x3 := (HT2.out.cell 3).trans rfl
          clear hb2 hL2
          go_wp2_with fail
          refine (key_any q0 w2).mono ?_
          rintro e w2' ⟨rfl, rfl⟩
          simp only [hkx, hsa]
          go_wp2_with fail
          refine (key_any q1 w2).mono ?_
          rintro e w2' ⟨rfl, rfl⟩
          simp only [hky, hsb]
          go_wp2_with fail
          refine (HL1.out A2 c2 w2 HL2.out).mono ?_
          rintro e w3 ⟨rfl, hb3⟩
          have HB3 := Lib.hid (HB2.out.trans (hb3.mono HB2.out.size))
          have HL3 := Lib.hid (HL2.out.below hb3)
          clear hb3 x0 x1 x2 x3
          go_wp2_with fail
          refine (HL0.out A2 c2 w3 HL3.out).mono ?_
          rintro e w4 ⟨rfl, hb4⟩
          have HB4 := Lib.hid (HB3.out.trans (hb4.mono HB3.out.size))
          have HL4 := Lib.hid (HL3.out.below hb4)
          clear hb4
          go_wp2_with fail
          refine (H1.out A2 c2 w4 hc2 HL4.out).mono ?_
          rintro e w5 ⟨⟨v5, rfl, hr5⟩, hb5⟩
          have HB5 := Lib.hid (HB4.out.trans (hb5.mono HB4.out.size))
          have HL5 := Lib.hid (HL4.out.below hb5)
          obtain ⟨A5, c5, rfl, hc5, hL5⟩ := hr5
          rw [M_length] at hc5
          simp only [M_length]
          have HM5 := Lib.hid hL5
          clear hb5 hL5
          go_wp2_with fail
          refine (H2.out A5 c5 w5 hc5 HM5.out).mono ?_
          rintro e w6 ⟨⟨v6, rfl, hr6⟩, hb6⟩
          have HB6 := Lib.hid (HB5.out.trans (hb6.mono HB5.out.size))
          have HL6 := Lib.hid (HL5.out.below hb6)
          have HR6 := Lib.hid hr6
          clear hb6 hr6
          go_wp2_with fail
          refine (H3.out A2 c2 w6 hc2 HL6.out).mono ?_
          rintro e w7 ⟨⟨v7, rfl, hr7⟩, hb7⟩
          have HB7 := Lib.hid (HB6.out.trans (hb7.mono HB6.out.size))
          have HR7 := Lib.hid (HR6.out.below hb7)
          obtain ⟨A7, c7, rfl, hc7, hL7⟩ := hr7
          rw [M_length] at hc7
          simp only [M_length]
          have HM7 := Lib.hid hL7
          clear hb7 hL7
          go_wp2_with fail
          refine (H4.out A7 c7 w7 hc7 HM7.out).mono ?_
          rintro e w8 ⟨⟨v8, rfl, hr8⟩, hb8⟩
          have HB8 := Lib.hid (HB7.out.trans (hb8.mono HB7.out.size))
          have HSS := Lib.hid (HSM.out v6 v8 w8 (HR7.out.below hb8) hr8)
          clear hb8 hr8
          go_wp2_with fail
          refine HSS.out.mono ?_
          rintro e w9 ⟨rfl, hb9⟩
          have HB9 := Lib.hid (HB8.out.trans (hb9.mono HB8.out.size))
          clear hb9
          go_wp2_with fail
          go_ret
          exact ⟨rfl, HB9.out⟩
        · have y2 : ((fc : Int) != 0) = true := by rw [bne_iff_ne]; omega
          subst z1
          clear hsame
          go_enter Try.func9, Try.ntmps9
          go_wp2_with fail
          refine (awake_any _).mono ?_
          rintro e w1 ⟨rfl, hb1⟩
          have HB1 := Lib.hid (HB0.out.trans (hb1.mono HB0.out.size))
          have HT1 := Lib.hid (HBX.out.of (hb1.block _ HBX.out.lt))
          clear hb1
          go_wp2_with fail
          refine (HR.out w1 HB1.out).mono ?_
          rintro e w2 ⟨⟨A2, c2, rfl, hc2, hL2⟩, hb2⟩
          have HB2 := Lib.hid (HB1.out.trans (hb2.mono HB1.out.size))
          have HT2 := Lib.hid (HT1.out.of (hb2.block _ HT1.out.lt))
          have HL2 := Lib.hid hL2
          have x0 := (HT2.out.cell 0).trans rfl
          have x1 := (HT2.out.cell 1).trans rfl
          have x2 := (HT2.out.cell 2).trans rfl
          have x3 := (HT2.out.cell 3).trans rfl
          clear hb2 hL2
          go_wp2_with fail
          refine (key_any q0 w2).mono ?_
          rintro e w2' ⟨rfl, rfl⟩
          simp only [hkx, hsa]
          go_wp2_with fail
          refine (key_any q1 w2).mono ?_
          rintro e w2' ⟨rfl, rfl⟩
          simp only [hky, hsb]
          go_wp2_with fail
          refine (HL1.out A2 c2 w2 HL2.out).mono ?_
          rintro e w3 ⟨rfl, hb3⟩
          have HB3 := Lib.hid (HB2.out.trans (hb3.mono HB2.out.size))
          have HL3 := Lib.hid (HL2.out.below hb3)
          clear hb3 x0 x1 x2 x3
          go_wp2_with fail
          refine (HL0.out A2 c2 w3 HL3.out).mono ?_
          rintro e w4 ⟨rfl, hb4⟩
          have HB4 := Lib.hid (HB3.out.trans (hb4.mono HB3.out.size))
          have HL4 := Lib.hid (HL3.out.below hb4)
          clear hb4
          go_wp2_with fail
          refine (H1.out A2 c2 w4 hc2 HL4.out).mono ?_
          rintro e w5 ⟨⟨v5, rfl, hr5⟩, hb5⟩
          have HB5 := Lib.hid (HB4.out.trans (hb5.mono HB4.out.size))
          have HL5 := Lib.hid (HL4.out.below hb5)
          obtain ⟨A5, c5, rfl, hc5, hL5⟩ := hr5
          rw [M_length] at hc5
          simp only [M_length]
          have HM5 := Lib.hid hL5
          clear hb5 hL5
          go_wp2_with fail
          refine (H2.out A5 c5 w5 hc5 HM5.out).mono ?_
          rintro e w6 ⟨⟨v6, rfl, hr6⟩, hb6⟩
          have HB6 := Lib.hid (HB5.out.trans (hb6.mono HB5.out.size))
          have HL6 := Lib.hid (HL5.out.below hb6)
          have HR6 := Lib.hid hr6
          clear hb6 hr6
          go_wp2_with fail
          refine (H3.out A2 c2 w6 hc2 HL6.out).mono ?_
          rintro e w7 ⟨⟨v7, rfl, hr7⟩, hb7⟩
          have HB7 := Lib.hid (HB6.out.trans (hb7.mono HB6.out.size))
          have HR7 := Lib.hid (HR6.out.below hb7)
          obtain ⟨A7, c7, rfl, hc7, hL7⟩ := hr7
          rw [M_length] at hc7
          simp only [M_length]
          have HM7 := Lib.hid hL7
          clear hb7 hL7
          go_wp2_with fail
          refine (H4.out A7 c7 w7 hc7 HM7.out).mono ?_
          rintro e w8 ⟨⟨v8, rfl, hr8⟩, hb8⟩
          have HB8 := Lib.hid (HB7.out.trans (hb8.mono HB7.out.size))
          have HSS := Lib.hid (HSM.out v6 v8 w8 (HR7.out.below hb8) hr8)
          clear hb8 hr8
          go_wp2_with fail
          refine HSS.out.mono ?_
          rintro e w9 ⟨rfl, hb9⟩
          have HB9 := Lib.hid (HB8.out.trans (hb9.mono HB8.out.size))
          clear hb9
          go_wp2_with fail
          go_ret
          exact ⟨rfl, HB9.out⟩
      · have y1 : ((ec : Int) != 0) = true := by rw [bne_iff_ne]; omega
        clear hsame
        go_enter Try.func9, Try.ntmps9
        go_wp2_with fail
        refine (awake_any _).mono ?_
        rintro e w1 ⟨rfl, hb1⟩
        have HB1 := Lib.hid (HB0.out.trans (hb1.mono HB0.out.size))
        have HT1 := Lib.hid (HBX.out.of (hb1.block _ HBX.out.lt))
        clear hb1
        go_wp2_with fail
        refine (HR.out w1 HB1.out).mono ?_
        rintro e w2 ⟨⟨A2, c2, rfl, hc2, hL2⟩, hb2⟩
        have HB2 := Lib.hid (HB1.out.trans (hb2.mono HB1.out.size))
        have HT2 := Lib.hid (HT1.out.of (hb2.block _ HT1.out.lt))
        have HL2 := Lib.hid hL2
        have x0 := (HT2.out.cell 0).trans rfl
        have x1 := (HT2.out.cell 1).trans rfl
        have x2 := (HT2.out.cell 2).trans rfl
        have x3 := (HT2.out.cell 3).trans rfl
        clear hb2 hL2
        go_wp2_with fail
        refine (key_any q0 w2).mono ?_
        rintro e w2' ⟨rfl, rfl⟩
        simp only [hkx, hsa]
        go_wp2_with fail
        refine (key_any q1 w2).mono ?_
        rintro e w2' ⟨rfl, rfl⟩
        simp only [hky, hsb]
        go_wp2_with fail
        refine (HL1.out A2 c2 w2 HL2.out).mono ?_
        rintro e w3 ⟨rfl, hb3⟩
        have HB3 := Lib.hid (HB2.out.trans (hb3.mono HB2.out.size))
        have HL3 := Lib.hid (HL2.out.below hb3)
        clear hb3 x0 x1 x2 x3
        go_wp2_with fail
        refine (HL0.out A2 c2 w3 HL3.out).mono ?_
        rintro e w4 ⟨rfl, hb4⟩
        have HB4 := Lib.hid (HB3.out.trans (hb4.mono HB3.out.size))
        have HL4 := Lib.hid (HL3.out.below hb4)
        clear hb4
        go_wp2_with fail
        refine (H1.out A2 c2 w4 hc2 HL4.out).mono ?_
        rintro e w5 ⟨⟨v5, rfl, hr5⟩, hb5⟩
        have HB5 := Lib.hid (HB4.out.trans (hb5.mono HB4.out.size))
        have HL5 := Lib.hid (HL4.out.below hb5)
        obtain ⟨A5, c5, rfl, hc5, hL5⟩ := hr5
        rw [M_length] at hc5
        simp only [M_length]
        have HM5 := Lib.hid hL5
        clear hb5 hL5
        go_wp2_with fail
        refine (H2.out A5 c5 w5 hc5 HM5.out).mono ?_
        rintro e w6 ⟨⟨v6, rfl, hr6⟩, hb6⟩
        have HB6 := Lib.hid (HB5.out.trans (hb6.mono HB5.out.size))
        have HL6 := Lib.hid (HL5.out.below hb6)
        have HR6 := Lib.hid hr6
        clear hb6 hr6
        go_wp2_with fail
        refine (H3.out A2 c2 w6 hc2 HL6.out).mono ?_
        rintro e w7 ⟨⟨v7, rfl, hr7⟩, hb7⟩
        have HB7 := Lib.hid (HB6.out.trans (hb7.mono HB6.out.size))
        have HR7 := Lib.hid (HR6.out.below hb7)
        obtain ⟨A7, c7, rfl, hc7, hL7⟩ := hr7
        rw [M_length] at hc7
        simp only [M_length]
        have HM7 := Lib.hid hL7
        clear hb7 hL7
        go_wp2_with fail
        refine (H4.out A7 c7 w7 hc7 HM7.out).mono ?_
        rintro e w8 ⟨⟨v8, rfl, hr8⟩, hb8⟩
        have HB8 := Lib.hid (HB7.out.trans (hb8.mono HB7.out.size))
        have HSS := Lib.hid (HSM.out v6 v8 w8 (HR7.out.below hb8) hr8)
        clear hb8 hr8
        go_wp2_with fail
        refine HSS.out.mono ?_
        rintro e w9 ⟨rfl, hb9⟩
        have HB9 := Lib.hid (HB8.out.trans (hb9.mono HB8.out.size))
        clear hb9
        go_wp2_with fail
        go_ret
        exact ⟨rfl, HB9.out⟩
  · have HLL : Hid ((l.take 20).length ≤ 20) := Lib.hid (by rw [List.length_take]; omega)
    have hlen := HLL.out
    have hl24 : (l.take 20).length = 20 := by rw [List.length_take]; omega
    have HR := Lib.hid (fun W hW => rows_few A cp (l.take 20) (by omega) W ((HA.out.take 20).below (w := W) hW))
    rw [hl24] at HR
    have hgd := rows_gd (l.take 20) (l.take 20).length (by omega)
    have hrl := rowsK_length (l.take 20) (l.take 20).length
    rw [hl24] at hgd hrl
    obtain ⟨RL, hRL⟩ : ∃ RL, rowsK (l.take 20) 20 = RL := ⟨_, rfl⟩
    rw [hRL] at HR hgd hrl
    have hka := keyS_ne ka (by rw [← hkx]; exact (kix_spec q0).1)
    have hkb := keyS_ne kb (by rw [← hky]; exact (kix_spec q1).1)
    have hla := Bk.left_later RL (keyS ka) now d
    obtain ⟨e1, e2⟩ := later hgd.vl.rise (by omega) (keyS ka) (keyS kb) now hka hkb
    obtain ⟨SA, hsa⟩ : ∃ s, keyS ka = s := ⟨_, rfl⟩
    obtain ⟨SB, hsb⟩ : ∃ s, keyS kb = s := ⟨_, rfl⟩
    rw [hsa] at hla e1 e2 hka
    rw [hsb] at e1 e2 hkb
    have g1 := gd_take hgd SA now (by omega)
    have g2 := gd_take hgd SB now (by omega)
    have g3 := gd_take g1 SB now (by omega)
    have g4 := gd_take g2 SA now (by omega)
    have HT : Hid (∀ (X : List Bb), Gd X → ∀ (k : ByteArray) A' c' W, X.length ≤ c' → Lies (fun _ => False) W A' (bus (M X)) → Calls Try.prog 19 #[.slice A' X.length c', .string k, .int .i64 (now : Int)] W fun e w' => (∃ v, e = .returned (.tuple #[v, .int .i64 ((takeB X k now).2 : Int)]) ∧ Row (fun _ => False) (M (takeB X k now).1) v w') ∧ Below W.heap.size W w') :=
      Lib.hid (fun X hX k A' c' W hc hL => Take_any A' c' X hc hX k now (by omega) W hL)
    obtain ⟨nx, hnx⟩ : ∃ x, now + d = x := ⟨_, rfl⟩
    rw [hnx] at hla
    have HL0 : Hid (∀ A' c' W, Lies (fun _ => False) W A' (bus (M RL)) → Calls Try.prog 22 #[.slice A' RL.length c', .string SA, .int .i64 (now : Int)] W fun e w' => e = .returned (.int .i64 (Bk.left RL SA now : Int)) ∧ Below W.heap.size W w') := Lib.hid (fun A' c' W hL => Left_any A' c' RL hgd.vl SA now (by omega) W hL)
    have HL1 : Hid (∀ A' c' W, Lies (fun _ => False) W A' (bus (M RL)) → Calls Try.prog 22 #[.slice A' RL.length c', .string SA, .int .i64 (nx : Int)] W fun e w' => e = .returned (.int .i64 (Bk.left RL SA nx : Int)) ∧ Below W.heap.size W w') := Lib.hid (fun A' c' W hL => Left_any A' c' RL hgd.vl SA nx (by omega) W hL)
    have hv1 : IntKind.i64.wrap ((now : Int) + (d : Int)) = (nx : Int) := by rw [IntKind.wrap_i64]; omega
    generalize Bk.left RL SA now = m0 at hla HL0
    generalize Bk.left RL SA nx = m1 at hla HL1
    have hc1 : ¬ ((m1 : Int) < (m0 : Int)) := by omega
    have HG0 := Lib.hid hgd
    have H1 := Lib.hid (HT.out RL hgd SA)
    have H3 := Lib.hid (HT.out RL hgd SB)
    obtain ⟨T1, hT1⟩ : ∃ T, takeB RL SA now = T := ⟨_, rfl⟩
    obtain ⟨T3, hT3⟩ : ∃ T, takeB RL SB now = T := ⟨_, rfl⟩
    rw [hT1] at H1 g1 g3 e1 e2
    rw [hT3] at H3 g2 g4 e1 e2
    obtain ⟨X1, ec⟩ := T1
    obtain ⟨X3, gc⟩ := T3
    simp only at H1 H3 g1 g2 g3 g4 e1 e2
    have H2 := Lib.hid (HT.out X1 g1 SB)
    have H4 := Lib.hid (HT.out X3 g2 SA)
    obtain ⟨T2, hT2⟩ : ∃ T, takeB X1 SB now = T := ⟨_, rfl⟩
    obtain ⟨T4, hT4⟩ : ∃ T, takeB X3 SA now = T := ⟨_, rfl⟩
    rw [hT2] at H2 g3 e1 e2
    rw [hT4] at H4 g4 e1 e2
    obtain ⟨X2, fc⟩ := T2
    obtain ⟨X4, hc⟩ := T4
    simp only at H2 H4 g3 g4 e1 e2
    have l2 := g3.len
    have l4 := g4.len
    have m2 := M_length X2
    have m4 := M_length X4
    have HSM : Hid (∀ v u W, Row (fun _ => False) (M X2) v W → Row (fun _ => False) (M X4) u W → Calls Try.prog 21 #[v, u] W fun e w' => e = .returned (.bool (decide (M X2 = M X4))) ∧ Below W.heap.size W w') := Lib.hid (fun v u W hv hu => by
      obtain ⟨A', c', rfl, _, hA'⟩ := hv
      obtain ⟨B', d', rfl, _, hB'⟩ := hu
      exact Same_any A' B' c' d' (M X2) (M X4) (by omega) (by omega) W hA' hB')
    have hsame : ec = 0 → fc = 0 → gc = 0 → hc = 0 → decide (M X2 = M X4) = true := fun a b c d => by rw [e2 a b c d]; simp
    generalize decide (M X2 = M X4) = sm at HSM hsame
    have HB0 := Lib.hid hb0
    have hcut : ∀ W, (Instr.slice 22 (.slice A l.length cp) none (some (.int .i64 20)) none).run Try.prog W = .ok (.slice A 20 cp) W := run_pairs_to A l.length cp 20 (by omega) hcp
    have hgl : ((l.length : Int) > 20) := by omega
    clear hRL hgd hb0 g3 g4 e2 hT1 hT2 hT3 hT4 l2 l4 m2 m4 hla hka hkb hrl
    by_cases hab : SA = SB
    · have hke : (SA.toList == SB.toList) = true := by rw [str_beq, hab]; simp
      clear e1 hab
      by_cases z1 : ec = 0
      · by_cases z2 : fc = 0
        · by_cases z3 : gc = 0
          · by_cases z4 : hc = 0
            · have hs := hsame z1 z2 z3 z4
              subst z1 z2 z3 z4 hs
              clear hsame
              go_enter Try.func9, Try.ntmps9
              go_wp2_with fail
              refine (awake_any _).mono ?_
              rintro e w1 ⟨rfl, hb1⟩
              have HB1 := Lib.hid (HB0.out.trans (hb1.mono HB0.out.size))
              have HT1 := Lib.hid (HBX.out.of (hb1.block _ HBX.out.lt))
              clear hb1
              go_wp2_with fail
              refine (HR.out w1 HB1.out).mono ?_
              rintro e w2 ⟨⟨A2, c2, rfl, hc2, hL2⟩, hb2⟩
              have HB2 := Lib.hid (HB1.out.trans (hb2.mono HB1.out.size))
              have HT2 := Lib.hid (HT1.out.of (hb2.block _ HT1.out.lt))
              have HL2 := Lib.hid hL2
              have x0 := (HT2.out.cell 0).trans rfl
              have x1 := (HT2.out.cell 1).trans rfl
              have x2 := (HT2.out.cell 2).trans rfl
              have x3 := (HT2.out.cell 3).trans rfl
              clear hb2 hL2
              go_wp2_with fail
              refine (key_any q0 w2).mono ?_
              rintro e w2' ⟨rfl, rfl⟩
              simp only [hkx, hsa]
              go_wp2_with fail
              refine (key_any q1 w2).mono ?_
              rintro e w2' ⟨rfl, rfl⟩
              simp only [hky, hsb]
              go_wp2_with fail
              refine (HL1.out A2 c2 w2 HL2.out).mono ?_
              rintro e w3 ⟨rfl, hb3⟩
              have HB3 := Lib.hid (HB2.out.trans (hb3.mono HB2.out.size))
              have HL3 := Lib.hid (HL2.out.below hb3)
              clear hb3 x0 x1 x2 x3
              go_wp2_with fail
              refine (HL0.out A2 c2 w3 HL3.out).mono ?_
              rintro e w4 ⟨rfl, hb4⟩
              have HB4 := Lib.hid (HB3.out.trans (hb4.mono HB3.out.size))
              have HL4 := Lib.hid (HL3.out.below hb4)
              clear hb4
              go_wp2_with fail
              refine (H1.out A2 c2 w4 hc2 HL4.out).mono ?_
              rintro e w5 ⟨⟨v5, rfl, hr5⟩, hb5⟩
              have HB5 := Lib.hid (HB4.out.trans (hb5.mono HB4.out.size))
              have HL5 := Lib.hid (HL4.out.below hb5)
              obtain ⟨A5, c5, rfl, hc5, hL5⟩ := hr5
              rw [M_length] at hc5
              simp only [M_length]
              have HM5 := Lib.hid hL5
              clear hb5 hL5
              go_wp2_with fail
              refine (H2.out A5 c5 w5 hc5 HM5.out).mono ?_
              rintro e w6 ⟨⟨v6, rfl, hr6⟩, hb6⟩
              have HB6 := Lib.hid (HB5.out.trans (hb6.mono HB5.out.size))
              have HL6 := Lib.hid (HL5.out.below hb6)
              have HR6 := Lib.hid hr6
              clear hb6 hr6
              go_wp2_with fail
              refine (H3.out A2 c2 w6 hc2 HL6.out).mono ?_
              rintro e w7 ⟨⟨v7, rfl, hr7⟩, hb7⟩
              have HB7 := Lib.hid (HB6.out.trans (hb7.mono HB6.out.size))
              have HR7 := Lib.hid (HR6.out.below hb7)
              obtain ⟨A7, c7, rfl, hc7, hL7⟩ := hr7
              rw [M_length] at hc7
              simp only [M_length]
              have HM7 := Lib.hid hL7
              clear hb7 hL7
              go_wp2_with fail
              refine (H4.out A7 c7 w7 hc7 HM7.out).mono ?_
              rintro e w8 ⟨⟨v8, rfl, hr8⟩, hb8⟩
              have HB8 := Lib.hid (HB7.out.trans (hb8.mono HB7.out.size))
              have HSS := Lib.hid (HSM.out v6 v8 w8 (HR7.out.below hb8) hr8)
              clear hb8 hr8
              go_wp2_with fail
              refine HSS.out.mono ?_
              rintro e w9 ⟨rfl, hb9⟩
              have HB9 := Lib.hid (HB8.out.trans (hb9.mono HB8.out.size))
              clear hb9
              go_wp2_with fail
              go_ret
              exact ⟨rfl, HB9.out⟩
            · have y4 : ((hc : Int) != 0) = true := by rw [bne_iff_ne]; omega
              subst z1 z2 z3
              clear hsame
              go_enter Try.func9, Try.ntmps9
              go_wp2_with fail
              refine (awake_any _).mono ?_
              rintro e w1 ⟨rfl, hb1⟩
              have HB1 := Lib.hid (HB0.out.trans (hb1.mono HB0.out.size))
              have HT1 := Lib.hid (HBX.out.of (hb1.block _ HBX.out.lt))
              clear hb1
              go_wp2_with fail
              refine (HR.out w1 HB1.out).mono ?_
              rintro e w2 ⟨⟨A2, c2, rfl, hc2, hL2⟩, hb2⟩
              have HB2 := Lib.hid (HB1.out.trans (hb2.mono HB1.out.size))
              have HT2 := Lib.hid (HT1.out.of (hb2.block _ HT1.out.lt))
              have HL2 := Lib.hid hL2
              have x0 := (HT2.out.cell 0).trans rfl
              have x1 := (HT2.out.cell 1).trans rfl
              have x2 := (HT2.out.cell 2).trans rfl
              have x3 := (HT2.out.cell 3).trans rfl
              clear hb2 hL2
              go_wp2_with fail
              refine (key_any q0 w2).mono ?_
              rintro e w2' ⟨rfl, rfl⟩
              simp only [hkx, hsa]
              go_wp2_with fail
              refine (key_any q1 w2).mono ?_
              rintro e w2' ⟨rfl, rfl⟩
              simp only [hky, hsb]
              go_wp2_with fail
              refine (HL1.out A2 c2 w2 HL2.out).mono ?_
              rintro e w3 ⟨rfl, hb3⟩
              have HB3 := Lib.hid (HB2.out.trans (hb3.mono HB2.out.size))
              have HL3 := Lib.hid (HL2.out.below hb3)
              clear hb3 x0 x1 x2 x3
              go_wp2_with fail
              refine (HL0.out A2 c2 w3 HL3.out).mono ?_
              rintro e w4 ⟨rfl, hb4⟩
              have HB4 := Lib.hid (HB3.out.trans (hb4.mono HB3.out.size))
              have HL4 := Lib.hid (HL3.out.below hb4)
              clear hb4
              go_wp2_with fail
              refine (H1.out A2 c2 w4 hc2 HL4.out).mono ?_
              rintro e w5 ⟨⟨v5, rfl, hr5⟩, hb5⟩
              have HB5 := Lib.hid (HB4.out.trans (hb5.mono HB4.out.size))
              have HL5 := Lib.hid (HL4.out.below hb5)
              obtain ⟨A5, c5, rfl, hc5, hL5⟩ := hr5
              rw [M_length] at hc5
              simp only [M_length]
              have HM5 := Lib.hid hL5
              clear hb5 hL5
              go_wp2_with fail
              refine (H2.out A5 c5 w5 hc5 HM5.out).mono ?_
              rintro e w6 ⟨⟨v6, rfl, hr6⟩, hb6⟩
              have HB6 := Lib.hid (HB5.out.trans (hb6.mono HB5.out.size))
              have HL6 := Lib.hid (HL5.out.below hb6)
              have HR6 := Lib.hid hr6
              clear hb6 hr6
              go_wp2_with fail
              refine (H3.out A2 c2 w6 hc2 HL6.out).mono ?_
              rintro e w7 ⟨⟨v7, rfl, hr7⟩, hb7⟩
              have HB7 := Lib.hid (HB6.out.trans (hb7.mono HB6.out.size))
              have HR7 := Lib.hid (HR6.out.below hb7)
              obtain ⟨A7, c7, rfl, hc7, hL7⟩ := hr7
              rw [M_length] at hc7
              simp only [M_length]
              have HM7 := Lib.hid hL7
              clear hb7 hL7
              go_wp2_with fail
              refine (H4.out A7 c7 w7 hc7 HM7.out).mono ?_
              rintro e w8 ⟨⟨v8, rfl, hr8⟩, hb8⟩
              have HB8 := Lib.hid (HB7.out.trans (hb8.mono HB7.out.size))
              have HSS := Lib.hid (HSM.out v6 v8 w8 (HR7.out.below hb8) hr8)
              clear hb8 hr8
              go_wp2_with fail
              refine HSS.out.mono ?_
              rintro e w9 ⟨rfl, hb9⟩
              have HB9 := Lib.hid (HB8.out.trans (hb9.mono HB8.out.size))
              clear hb9
              go_wp2_with fail
              go_ret
              exact ⟨rfl, HB9.out⟩
          · have y3 : ((gc : Int) != 0) = true := by rw [bne_iff_ne]; omega
            subst z1 z2
            clear hsame
            go_enter Try.func9, Try.ntmps9
            go_wp2_with fail
            refine (awake_any _).mono ?_
            rintro e w1 ⟨rfl, hb1⟩
            have HB1 := Lib.hid (HB0.out.trans (hb1.mono HB0.out.size))
            have HT1 := Lib.hid (HBX.out.of (hb1.block _ HBX.out.lt))
            clear hb1
            go_wp2_with fail
            refine (HR.out w1 HB1.out).mono ?_
            rintro e w2 ⟨⟨A2, c2, rfl, hc2, hL2⟩, hb2⟩
            have HB2 := Lib.hid (HB1.out.trans (hb2.mono HB1.out.size))
            have HT2 := Lib.hid (HT1.out.of (hb2.block _ HT1.out.lt))
            have HL2 := Lib.hid hL2
            have x0 := (HT2.out.cell 0).trans rfl
            have x1 := (HT2.out.cell 1).trans rfl
            have x2 := (HT2.out.cell 2).trans rfl
            have x3 := (HT2.out.cell 3).trans rfl
            clear hb2 hL2
            go_wp2_with fail
            refine (key_any q0 w2).mono ?_
            rintro e w2' ⟨rfl, rfl⟩
            simp only [hkx, hsa]
            go_wp2_with fail
            refine (key_any q1 w2).mono ?_
            rintro e w2' ⟨rfl, rfl⟩
            simp only [hky, hsb]
            go_wp2_with fail
            refine (HL1.out A2 c2 w2 HL2.out).mono ?_
            rintro e w3 ⟨rfl, hb3⟩
            have HB3 := Lib.hid (HB2.out.trans (hb3.mono HB2.out.size))
            have HL3 := Lib.hid (HL2.out.below hb3)
            clear hb3 x0 x1 x2 x3
            go_wp2_with fail
            refine (HL0.out A2 c2 w3 HL3.out).mono ?_
            rintro e w4 ⟨rfl, hb4⟩
            have HB4 := Lib.hid (HB3.out.trans (hb4.mono HB3.out.size))
            have HL4 := Lib.hid (HL3.out.below hb4)
            clear hb4
            go_wp2_with fail
            refine (H1.out A2 c2 w4 hc2 HL4.out).mono ?_
            rintro e w5 ⟨⟨v5, rfl, hr5⟩, hb5⟩
            have HB5 := Lib.hid (HB4.out.trans (hb5.mono HB4.out.size))
            have HL5 := Lib.hid (HL4.out.below hb5)
            obtain ⟨A5, c5, rfl, hc5, hL5⟩ := hr5
            rw [M_length] at hc5
            simp only [M_length]
            have HM5 := Lib.hid hL5
            clear hb5 hL5
            go_wp2_with fail
            refine (H2.out A5 c5 w5 hc5 HM5.out).mono ?_
            rintro e w6 ⟨⟨v6, rfl, hr6⟩, hb6⟩
            have HB6 := Lib.hid (HB5.out.trans (hb6.mono HB5.out.size))
            have HL6 := Lib.hid (HL5.out.below hb6)
            have HR6 := Lib.hid hr6
            clear hb6 hr6
            go_wp2_with fail
            refine (H3.out A2 c2 w6 hc2 HL6.out).mono ?_
            rintro e w7 ⟨⟨v7, rfl, hr7⟩, hb7⟩
            have HB7 := Lib.hid (HB6.out.trans (hb7.mono HB6.out.size))
            have HR7 := Lib.hid (HR6.out.below hb7)
            obtain ⟨A7, c7, rfl, hc7, hL7⟩ := hr7
            rw [M_length] at hc7
            simp only [M_length]
            have HM7 := Lib.hid hL7
            clear hb7 hL7
            go_wp2_with fail
            refine (H4.out A7 c7 w7 hc7 HM7.out).mono ?_
            rintro e w8 ⟨⟨v8, rfl, hr8⟩, hb8⟩
            have HB8 := Lib.hid (HB7.out.trans (hb8.mono HB7.out.size))
            have HSS := Lib.hid (HSM.out v6 v8 w8 (HR7.out.below hb8) hr8)
            clear hb8 hr8
            go_wp2_with fail
            refine HSS.out.mono ?_
            rintro e w9 ⟨rfl, hb9⟩
            have HB9 := Lib.hid (HB8.out.trans (hb9.mono HB8.out.size))
            clear hb9
            go_wp2_with fail
            go_ret
            exact ⟨rfl, HB9.out⟩
        · have y2 : ((fc : Int) != 0) = true := by rw [bne_iff_ne]; omega
          subst z1
          clear hsame
          go_enter Try.func9, Try.ntmps9
          go_wp2_with fail
          refine (awake_any _).mono ?_
          rintro e w1 ⟨rfl, hb1⟩
          have HB1 := Lib.hid (HB0.out.trans (hb1.mono HB0.out.size))
          have HT1 := Lib.hid (HBX.out.of (hb1.block _ HBX.out.lt))
          clear hb1
          go_wp2_with fail
          refine (HR.out w1 HB1.out).mono ?_
          rintro e w2 ⟨⟨A2, c2, rfl, hc2, hL2⟩, hb2⟩
          have HB2 := Lib.hid (HB1.out.trans (hb2.mono HB1.out.size))
          have HT2 := Lib.hid (HT1.out.of (hb2.block _ HT1.out.lt))
          have HL2 := Lib.hid hL2
          have x0 := (HT2.out.cell 0).trans rfl
          have x1 := (HT2.out.cell 1).trans rfl
          have x2 := (HT2.out.cell 2).trans rfl
          have x3 := (HT2.out.cell 3).trans rfl
          clear hb2 hL2
          go_wp2_with fail
          refine (key_any q0 w2).mono ?_
          rintro e w2' ⟨rfl, rfl⟩
          simp only [hkx, hsa]
          go_wp2_with fail
          refine (key_any q1 w2).mono ?_
          rintro e w2' ⟨rfl, rfl⟩
          simp only [hky, hsb]
          go_wp2_with fail
          refine (HL1.out A2 c2 w2 HL2.out).mono ?_
          rintro e w3 ⟨rfl, hb3⟩
          have HB3 := Lib.hid (HB2.out.trans (hb3.mono HB2.out.size))
          have HL3 := Lib.hid (HL2.out.below hb3)
          clear hb3 x0 x1 x2 x3
          go_wp2_with fail
          refine (HL0.out A2 c2 w3 HL3.out).mono ?_
          rintro e w4 ⟨rfl, hb4⟩
          have HB4 := Lib.hid (HB3.out.trans (hb4.mono HB3.out.size))
          have HL4 := Lib.hid (HL3.out.below hb4)
          clear hb4
          go_wp2_with fail
          refine (H1.out A2 c2 w4 hc2 HL4.out).mono ?_
          rintro e w5 ⟨⟨v5, rfl, hr5⟩, hb5⟩
          have HB5 := Lib.hid (HB4.out.trans (hb5.mono HB4.out.size))
          have HL5 := Lib.hid (HL4.out.below hb5)
          obtain ⟨A5, c5, rfl, hc5, hL5⟩ := hr5
          rw [M_length] at hc5
          simp only [M_length]
          have HM5 := Lib.hid hL5
          clear hb5 hL5
          go_wp2_with fail
          refine (H2.out A5 c5 w5 hc5 HM5.out).mono ?_
          rintro e w6 ⟨⟨v6, rfl, hr6⟩, hb6⟩
          have HB6 := Lib.hid (HB5.out.trans (hb6.mono HB5.out.size))
          have HL6 := Lib.hid (HL5.out.below hb6)
          have HR6 := Lib.hid hr6
          clear hb6 hr6
          go_wp2_with fail
          refine (H3.out A2 c2 w6 hc2 HL6.out).mono ?_
          rintro e w7 ⟨⟨v7, rfl, hr7⟩, hb7⟩
          have HB7 := Lib.hid (HB6.out.trans (hb7.mono HB6.out.size))
          have HR7 := Lib.hid (HR6.out.below hb7)
          obtain ⟨A7, c7, rfl, hc7, hL7⟩ := hr7
          rw [M_length] at hc7
          simp only [M_length]
          have HM7 := Lib.hid hL7
          clear hb7 hL7
          go_wp2_with fail
          refine (H4.out A7 c7 w7 hc7 HM7.out).mono ?_
          rintro e w8 ⟨⟨v8, rfl, hr8⟩, hb8⟩
          have HB8 := Lib.hid (HB7.out.trans (hb8.mono HB7.out.size))
          have HSS := Lib.hid (HSM.out v6 v8 w8 (HR7.out.below hb8) hr8)
          clear hb8 hr8
          go_wp2_with fail
          refine HSS.out.mono ?_
          rintro e w9 ⟨rfl, hb9⟩
          have HB9 := Lib.hid (HB8.out.trans (hb9.mono HB8.out.size))
          clear hb9
          go_wp2_with fail
          go_ret
          exact ⟨rfl, HB9.out⟩
      · have y1 : ((ec : Int) != 0) = true := by rw [bne_iff_ne]; omega
        clear hsame
        go_enter Try.func9, Try.ntmps9
        go_wp2_with fail
        refine (awake_any _).mono ?_
        rintro e w1 ⟨rfl, hb1⟩
        have HB1 := Lib.hid (HB0.out.trans (hb1.mono HB0.out.size))
        have HT1 := Lib.hid (HBX.out.of (hb1.block _ HBX.out.lt))
        clear hb1
        go_wp2_with fail
        refine (HR.out w1 HB1.out).mono ?_
        rintro e w2 ⟨⟨A2, c2, rfl, hc2, hL2⟩, hb2⟩
        have HB2 := Lib.hid (HB1.out.trans (hb2.mono HB1.out.size))
        have HT2 := Lib.hid (HT1.out.of (hb2.block _ HT1.out.lt))
        have HL2 := Lib.hid hL2
        have x0 := (HT2.out.cell 0).trans rfl
        have x1 := (HT2.out.cell 1).trans rfl
        have x2 := (HT2.out.cell 2).trans rfl
        have x3 := (HT2.out.cell 3).trans rfl
        clear hb2 hL2
        go_wp2_with fail
        refine (key_any q0 w2).mono ?_
        rintro e w2' ⟨rfl, rfl⟩
        simp only [hkx, hsa]
        go_wp2_with fail
        refine (key_any q1 w2).mono ?_
        rintro e w2' ⟨rfl, rfl⟩
        simp only [hky, hsb]
        go_wp2_with fail
        refine (HL1.out A2 c2 w2 HL2.out).mono ?_
        rintro e w3 ⟨rfl, hb3⟩
        have HB3 := Lib.hid (HB2.out.trans (hb3.mono HB2.out.size))
        have HL3 := Lib.hid (HL2.out.below hb3)
        clear hb3 x0 x1 x2 x3
        go_wp2_with fail
        refine (HL0.out A2 c2 w3 HL3.out).mono ?_
        rintro e w4 ⟨rfl, hb4⟩
        have HB4 := Lib.hid (HB3.out.trans (hb4.mono HB3.out.size))
        have HL4 := Lib.hid (HL3.out.below hb4)
        clear hb4
        go_wp2_with fail
        refine (H1.out A2 c2 w4 hc2 HL4.out).mono ?_
        rintro e w5 ⟨⟨v5, rfl, hr5⟩, hb5⟩
        have HB5 := Lib.hid (HB4.out.trans (hb5.mono HB4.out.size))
        have HL5 := Lib.hid (HL4.out.below hb5)
        obtain ⟨A5, c5, rfl, hc5, hL5⟩ := hr5
        rw [M_length] at hc5
        simp only [M_length]
        have HM5 := Lib.hid hL5
        clear hb5 hL5
        go_wp2_with fail
        refine (H2.out A5 c5 w5 hc5 HM5.out).mono ?_
        rintro e w6 ⟨⟨v6, rfl, hr6⟩, hb6⟩
        have HB6 := Lib.hid (HB5.out.trans (hb6.mono HB5.out.size))
        have HL6 := Lib.hid (HL5.out.below hb6)
        have HR6 := Lib.hid hr6
        clear hb6 hr6
        go_wp2_with fail
        refine (H3.out A2 c2 w6 hc2 HL6.out).mono ?_
        rintro e w7 ⟨⟨v7, rfl, hr7⟩, hb7⟩
        have HB7 := Lib.hid (HB6.out.trans (hb7.mono HB6.out.size))
        have HR7 := Lib.hid (HR6.out.below hb7)
        obtain ⟨A7, c7, rfl, hc7, hL7⟩ := hr7
        rw [M_length] at hc7
        simp only [M_length]
        have HM7 := Lib.hid hL7
        clear hb7 hL7
        go_wp2_with fail
        refine (H4.out A7 c7 w7 hc7 HM7.out).mono ?_
        rintro e w8 ⟨⟨v8, rfl, hr8⟩, hb8⟩
        have HB8 := Lib.hid (HB7.out.trans (hb8.mono HB7.out.size))
        have HSS := Lib.hid (HSM.out v6 v8 w8 (HR7.out.below hb8) hr8)
        clear hb8 hr8
        go_wp2_with fail
        refine HSS.out.mono ?_
        rintro e w9 ⟨rfl, hb9⟩
        have HB9 := Lib.hid (HB8.out.trans (hb9.mono HB8.out.size))
        clear hb9
        go_wp2_with fail
        go_ret
        exact ⟨rfl, HB9.out⟩
    · have hke : (SA.toList == SB.toList) = false := str_ne hab
      obtain ⟨c1, c2⟩ := e1 hab
      subst c1
      subst c2
      clear e1 hab
      by_cases z1 : ec = 0
      · by_cases z2 : fc = 0
        · have hs := hsame z1 z2 z2 z1
          subst z1 z2 hs
          clear hsame
          go_enter Try.func9, Try.ntmps9
          go_wp2_with fail
          refine (awake_any _).mono ?_
          rintro e w1 ⟨rfl, hb1⟩
          have HB1 := Lib.hid (HB0.out.trans (hb1.mono HB0.out.size))
          have HT1 := Lib.hid (HBX.out.of (hb1.block _ HBX.out.lt))
          clear hb1
          go_wp2_with fail
          refine (HR.out w1 HB1.out).mono ?_
          rintro e w2 ⟨⟨A2, c2, rfl, hc2, hL2⟩, hb2⟩
          have HB2 := Lib.hid (HB1.out.trans (hb2.mono HB1.out.size))
          have HT2 := Lib.hid (HT1.out.of (hb2.block _ HT1.out.lt))
          have HL2 := Lib.hid hL2
          have x0 := (HT2.out.cell 0).trans rfl
          have x1 := (HT2.out.cell 1).trans rfl
          have x2 := (HT2.out.cell 2).trans rfl
          have x3 := (HT2.out.cell 3).trans rfl
          clear hb2 hL2
          go_wp2_with fail
          refine (key_any q0 w2).mono ?_
          rintro e w2' ⟨rfl, rfl⟩
          simp only [hkx, hsa]
          go_wp2_with fail
          refine (key_any q1 w2).mono ?_
          rintro e w2' ⟨rfl, rfl⟩
          simp only [hky, hsb]
          go_wp2_with fail
          refine (HL1.out A2 c2 w2 HL2.out).mono ?_
          rintro e w3 ⟨rfl, hb3⟩
          have HB3 := Lib.hid (HB2.out.trans (hb3.mono HB2.out.size))
          have HL3 := Lib.hid (HL2.out.below hb3)
          clear hb3 x0 x1 x2 x3
          go_wp2_with fail
          refine (HL0.out A2 c2 w3 HL3.out).mono ?_
          rintro e w4 ⟨rfl, hb4⟩
          have HB4 := Lib.hid (HB3.out.trans (hb4.mono HB3.out.size))
          have HL4 := Lib.hid (HL3.out.below hb4)
          clear hb4
          go_wp2_with fail
          refine (H1.out A2 c2 w4 hc2 HL4.out).mono ?_
          rintro e w5 ⟨⟨v5, rfl, hr5⟩, hb5⟩
          have HB5 := Lib.hid (HB4.out.trans (hb5.mono HB4.out.size))
          have HL5 := Lib.hid (HL4.out.below hb5)
          obtain ⟨A5, c5, rfl, hc5, hL5⟩ := hr5
          rw [M_length] at hc5
          simp only [M_length]
          have HM5 := Lib.hid hL5
          clear hb5 hL5
          go_wp2_with fail
          refine (H2.out A5 c5 w5 hc5 HM5.out).mono ?_
          rintro e w6 ⟨⟨v6, rfl, hr6⟩, hb6⟩
          have HB6 := Lib.hid (HB5.out.trans (hb6.mono HB5.out.size))
          have HL6 := Lib.hid (HL5.out.below hb6)
          have HR6 := Lib.hid hr6
          clear hb6 hr6
          go_wp2_with fail
          refine (H3.out A2 c2 w6 hc2 HL6.out).mono ?_
          rintro e w7 ⟨⟨v7, rfl, hr7⟩, hb7⟩
          have HB7 := Lib.hid (HB6.out.trans (hb7.mono HB6.out.size))
          have HR7 := Lib.hid (HR6.out.below hb7)
          obtain ⟨A7, c7, rfl, hc7, hL7⟩ := hr7
          rw [M_length] at hc7
          simp only [M_length]
          have HM7 := Lib.hid hL7
          clear hb7 hL7
          go_wp2_with fail
          refine (H4.out A7 c7 w7 hc7 HM7.out).mono ?_
          rintro e w8 ⟨⟨v8, rfl, hr8⟩, hb8⟩
          have HB8 := Lib.hid (HB7.out.trans (hb8.mono HB7.out.size))
          have HSS := Lib.hid (HSM.out v6 v8 w8 (HR7.out.below hb8) hr8)
          clear hb8 hr8
          go_wp2_with fail
          refine HSS.out.mono ?_
          rintro e w9 ⟨rfl, hb9⟩
          have HB9 := Lib.hid (HB8.out.trans (hb9.mono HB8.out.size))
          clear hb9
          go_wp2_with fail
          go_ret
          exact ⟨rfl, HB9.out⟩
        · have y2 : ((fc : Int) != 0) = true := by rw [bne_iff_ne]; omega
          subst z1
          clear hsame
          go_enter Try.func9, Try.ntmps9
          go_wp2_with fail
          refine (awake_any _).mono ?_
          rintro e w1 ⟨rfl, hb1⟩
          have HB1 := Lib.hid (HB0.out.trans (hb1.mono HB0.out.size))
          have HT1 := Lib.hid (HBX.out.of (hb1.block _ HBX.out.lt))
          clear hb1
          go_wp2_with fail
          refine (HR.out w1 HB1.out).mono ?_
          rintro e w2 ⟨⟨A2, c2, rfl, hc2, hL2⟩, hb2⟩
          have HB2 := Lib.hid (HB1.out.trans (hb2.mono HB1.out.size))
          have HT2 := Lib.hid (HT1.out.of (hb2.block _ HT1.out.lt))
          have HL2 := Lib.hid hL2
          have x0 := (HT2.out.cell 0).trans rfl
          have x1 := (HT2.out.cell 1).trans rfl
          have x2 := (HT2.out.cell 2).trans rfl
          have x3 := (HT2.out.cell 3).trans rfl
          clear hb2 hL2
          go_wp2_with fail
          refine (key_any q0 w2).mono ?_
          rintro e w2' ⟨rfl, rfl⟩
          simp only [hkx, hsa]
          go_wp2_with fail
          refine (key_any q1 w2).mono ?_
          rintro e w2' ⟨rfl, rfl⟩
          simp only [hky, hsb]
          go_wp2_with fail
          refine (HL1.out A2 c2 w2 HL2.out).mono ?_
          rintro e w3 ⟨rfl, hb3⟩
          have HB3 := Lib.hid (HB2.out.trans (hb3.mono HB2.out.size))
          have HL3 := Lib.hid (HL2.out.below hb3)
          clear hb3 x0 x1 x2 x3
          go_wp2_with fail
          refine (HL0.out A2 c2 w3 HL3.out).mono ?_
          rintro e w4 ⟨rfl, hb4⟩
          have HB4 := Lib.hid (HB3.out.trans (hb4.mono HB3.out.size))
          have HL4 := Lib.hid (HL3.out.below hb4)
          clear hb4
          go_wp2_with fail
          refine (H1.out A2 c2 w4 hc2 HL4.out).mono ?_
          rintro e w5 ⟨⟨v5, rfl, hr5⟩, hb5⟩
          have HB5 := Lib.hid (HB4.out.trans (hb5.mono HB4.out.size))
          have HL5 := Lib.hid (HL4.out.below hb5)
          obtain ⟨A5, c5, rfl, hc5, hL5⟩ := hr5
          rw [M_length] at hc5
          simp only [M_length]
          have HM5 := Lib.hid hL5
          clear hb5 hL5
          go_wp2_with fail
          refine (H2.out A5 c5 w5 hc5 HM5.out).mono ?_
          rintro e w6 ⟨⟨v6, rfl, hr6⟩, hb6⟩
          have HB6 := Lib.hid (HB5.out.trans (hb6.mono HB5.out.size))
          have HL6 := Lib.hid (HL5.out.below hb6)
          have HR6 := Lib.hid hr6
          clear hb6 hr6
          go_wp2_with fail
          refine (H3.out A2 c2 w6 hc2 HL6.out).mono ?_
          rintro e w7 ⟨⟨v7, rfl, hr7⟩, hb7⟩
          have HB7 := Lib.hid (HB6.out.trans (hb7.mono HB6.out.size))
          have HR7 := Lib.hid (HR6.out.below hb7)
          obtain ⟨A7, c7, rfl, hc7, hL7⟩ := hr7
          rw [M_length] at hc7
          simp only [M_length]
          have HM7 := Lib.hid hL7
          clear hb7 hL7
          go_wp2_with fail
          refine (H4.out A7 c7 w7 hc7 HM7.out).mono ?_
          rintro e w8 ⟨⟨v8, rfl, hr8⟩, hb8⟩
          have HB8 := Lib.hid (HB7.out.trans (hb8.mono HB7.out.size))
          have HSS := Lib.hid (HSM.out v6 v8 w8 (HR7.out.below hb8) hr8)
          clear hb8 hr8
          go_wp2_with fail
          refine HSS.out.mono ?_
          rintro e w9 ⟨rfl, hb9⟩
          have HB9 := Lib.hid (HB8.out.trans (hb9.mono HB8.out.size))
          clear hb9
          go_wp2_with fail
          go_ret
          exact ⟨rfl, HB9.out⟩
      · have y1 : ((ec : Int) != 0) = true := by rw [bne_iff_ne]; omega
        clear hsame
        go_enter Try.func9, Try.ntmps9
        go_wp2_with fail
        refine (awake_any _).mono ?_
        rintro e w1 ⟨rfl, hb1⟩
        have HB1 := Lib.hid (HB0.out.trans (hb1.mono HB0.out.size))
        have HT1 := Lib.hid (HBX.out.of (hb1.block _ HBX.out.lt))
        clear hb1
        go_wp2_with fail
        refine (HR.out w1 HB1.out).mono ?_
        rintro e w2 ⟨⟨A2, c2, rfl, hc2, hL2⟩, hb2⟩
        have HB2 := Lib.hid (HB1.out.trans (hb2.mono HB1.out.size))
        have HT2 := Lib.hid (HT1.out.of (hb2.block _ HT1.out.lt))
        have HL2 := Lib.hid hL2
        have x0 := (HT2.out.cell 0).trans rfl
        have x1 := (HT2.out.cell 1).trans rfl
        have x2 := (HT2.out.cell 2).trans rfl
        have x3 := (HT2.out.cell 3).trans rfl
        clear hb2 hL2
        go_wp2_with fail
        refine (key_any q0 w2).mono ?_
        rintro e w2' ⟨rfl, rfl⟩
        simp only [hkx, hsa]
        go_wp2_with fail
        refine (key_any q1 w2).mono ?_
        rintro e w2' ⟨rfl, rfl⟩
        simp only [hky, hsb]
        go_wp2_with fail
        refine (HL1.out A2 c2 w2 HL2.out).mono ?_
        rintro e w3 ⟨rfl, hb3⟩
        have HB3 := Lib.hid (HB2.out.trans (hb3.mono HB2.out.size))
        have HL3 := Lib.hid (HL2.out.below hb3)
        clear hb3 x0 x1 x2 x3
        go_wp2_with fail
        refine (HL0.out A2 c2 w3 HL3.out).mono ?_
        rintro e w4 ⟨rfl, hb4⟩
        have HB4 := Lib.hid (HB3.out.trans (hb4.mono HB3.out.size))
        have HL4 := Lib.hid (HL3.out.below hb4)
        clear hb4
        go_wp2_with fail
        refine (H1.out A2 c2 w4 hc2 HL4.out).mono ?_
        rintro e w5 ⟨⟨v5, rfl, hr5⟩, hb5⟩
        have HB5 := Lib.hid (HB4.out.trans (hb5.mono HB4.out.size))
        have HL5 := Lib.hid (HL4.out.below hb5)
        obtain ⟨A5, c5, rfl, hc5, hL5⟩ := hr5
        rw [M_length] at hc5
        simp only [M_length]
        have HM5 := Lib.hid hL5
        clear hb5 hL5
        go_wp2_with fail
        refine (H2.out A5 c5 w5 hc5 HM5.out).mono ?_
        rintro e w6 ⟨⟨v6, rfl, hr6⟩, hb6⟩
        have HB6 := Lib.hid (HB5.out.trans (hb6.mono HB5.out.size))
        have HL6 := Lib.hid (HL5.out.below hb6)
        have HR6 := Lib.hid hr6
        clear hb6 hr6
        go_wp2_with fail
        refine (H3.out A2 c2 w6 hc2 HL6.out).mono ?_
        rintro e w7 ⟨⟨v7, rfl, hr7⟩, hb7⟩
        have HB7 := Lib.hid (HB6.out.trans (hb7.mono HB6.out.size))
        have HR7 := Lib.hid (HR6.out.below hb7)
        obtain ⟨A7, c7, rfl, hc7, hL7⟩ := hr7
        rw [M_length] at hc7
        simp only [M_length]
        have HM7 := Lib.hid hL7
        clear hb7 hL7
        go_wp2_with fail
        refine (H4.out A7 c7 w7 hc7 HM7.out).mono ?_
        rintro e w8 ⟨⟨v8, rfl, hr8⟩, hb8⟩
        have HB8 := Lib.hid (HB7.out.trans (hb8.mono HB7.out.size))
        have HSS := Lib.hid (HSM.out v6 v8 w8 (HR7.out.below hb8) hr8)
        clear hb8 hr8
        go_wp2_with fail
        refine HSS.out.mono ?_
        rintro e w9 ⟨rfl, hb9⟩
        have HB9 := Lib.hid (HB8.out.trans (hb9.mono HB8.out.size))
        clear hb9
        go_wp2_with fail
        go_ret
        exact ⟨rfl, HB9.out⟩

/-! ### The row -/
theorem contract (H : Type) (enc : TypeId × Value → H) (W : World) (base : Nat) (args : Array Value) (ds gs : List (DataW H)) (before : List MemPlace)
    (hval : ∀ (j : Nat) t v, Try.f9.params[j]? = some t → args[j]? = some v → Value.okWide Try.prog W .any base t v)
    (hW : DataW.Whole enc Try.prog Try.f9.params.toList Rows.bucketLaterSpec.vars false W args.toList ds gs before) :
    Calls Try.prog 9 args W fun e W' => ∃ v, e = .returned v ∧ Rows.bucketLaterSpec.post enc Try.prog Try.f9 false true false false W args v W' := by
  have hW' := hW
  obtain ⟨p, q, hA0, hV, rfl, hfz, hnd⟩ := hW
  have hA : DataW.TrodAll enc Try.prog W 0 (fun _ => true) true Try.f9.params.toList args.toList ds p := hA0
  rw [Try.params9] at hA hval
  obtain ⟨v0, vs0, d0, ds0, p0, q0, hargs, rfl, rfl, h0, r0⟩ := trodAll_cons hA
  obtain ⟨v1, vs1, d1, ds1, p1, q1, rfl, rfl, rfl, h1, r1⟩ := trodAll_cons r0
  obtain ⟨rfl, rfl, rfl⟩ := trodAll_nil r1
  obtain rfl : args = #[v0, v1] := by cases args; simp_all
  obtain ⟨rfl, rfl⟩ := trodVars_none hV
  refine law_contract (tb := 4) laidOut (by kernel_rfl) rfl (by kernel_rfl) Try.underlying4 rfl hW' ?_
  clear hA0 hW' hA
  obtain ⟨A0, k0, l0, rfl, b0, g0⟩ := open_pairs (hval 0 22 v0 rfl rfl) h0
  have hcap0 := open_cap Try.underlying22 h0
  obtain ⟨zs1, rfl, hz1, wz1⟩ := open_array Try.underlying51 Try.underlying3 cells_i (by kernel_rfl) (hval 1 51 v1 rfl rfl) h1
  obtain ⟨z1_0, z1_1, z1_2, z1_3, rfl⟩ : ∃ z1_0 z1_1 z1_2 z1_3, zs1 = [z1_0, z1_1, z1_2, z1_3] := by
    match zs1, hz1 with
    | [a0, a1, a2, a3], _ => exact ⟨a0, a1, a2, a3, rfl⟩
  exact walk A0 k0 l0 hcap0 z1_0 z1_1 z1_2 z1_3 W g0

set_option maxRecDepth 100000 in
theorem lifted (os : Os) (started : os.Started) (H : Type) (enc : TypeId × Value → H) :
    ReturnsInHanded {} Try.checked os 9 .any (Rows.bucketLaterSpec.pre6 enc Try.prog Try.f9 Rows.bucketLaterRow.domain false) (Rows.bucketLaterSpec.post enc Try.prog Try.f9 false true false false) := by
  refine returnsInHanded_of_change (C := Try.checked) own started (by kernel_rfl) Try.func9
    (ChangeSpec.witness6 (enc := enc) (C := Try.checked) false ⟨#[], #[.slice none 0 0, .agg #[.int .i64 0, .int .i64 0, .int .i64 0, .int .i64 0]], []⟩ 8 (by kernel_rfl) (by kernel_rfl) (by kernel_rfl) (by kernel_rfl)) ?_
  intro W base args ds gs before hval hW _ _
  exact contract H enc W base args ds gs before hval hW

/-- THE STATEMENT. -/
theorem said : Rows.BucketLaterSaid :=
  OpenClaim.holds_of_wide 9 Try.f9 rfl rfl rfl rfl rfl rfl rfl ⟨rfl, rfl, rfl, rfl, rfl⟩ rfl rfl rfl rfl rfl (by kernel_rfl) Try.func9 (by kernel_rfl)
    (of_decide_eq_true (by kernel_rfl)) (by unfold Func.isWrapper; first | (rw [if_pos (by decide +kernel)]; kernel_rfl) | (rw [if_neg (by decide +kernel)]; exact ⟨rfl, rfl⟩))
    (fun os started H enc _ => lifted os started H enc)
#print axioms said
end Go.Proofs.Ytbldonkfboahmaa.bucketLater
