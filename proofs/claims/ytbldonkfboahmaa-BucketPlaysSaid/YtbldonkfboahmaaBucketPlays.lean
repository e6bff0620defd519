/-
  BucketPlays: rows go on, take by take, as the document says, and may be. No condition.
-/
import Derived.Test.YtbldonkfboahmaaBcZ
import Derived.Test.YtbldonkfboahmaaTkT
namespace Go.Proofs.Ytbldonkfboahmaa.bucketPlays
open Go.ChangeShapes Go.WideShapes Go.ChangeAt Go.RowKit
open Go.ChangeMaps (open_string shut_string)


set_option maxRecDepth 100000 in
set_option maxHeartbeats 8000000 in
theorem walk (A : Option Addr) (cp : Nat) (l : List (Int × Int)) (w : World) (hA : Prs w A l) :
    Calls Try.prog 4 #[.slice A l.length cp] w fun e w' => e = .returned (.bool true) ∧ Below w.heap.size w w' := by
  have HA := Lib.hid hA
  clear hA
  obtain ⟨mn, hmn⟩ : ∃ mn, min l.length 80 = mn := ⟨_, rfl⟩
  go_enter Try.func4, Try.ntmps4
  go_wp2_with fail
  refine (awake_any _).mono ?_
  rintro e w1 ⟨rfl, hb1⟩
  have HB1 := Lib.hid hb1
  clear hb1
  go_wp2_with fail
  go_loopw [4, 5, 6, 7, 8, 9, 10, 11, 12, 13] (fun a b nw ii _ _ _ _ _ _ wr => ∃ (k now : Nat) (L : List Bb), Gd L ∧ Row (fun _ => False) (M L) a wr ∧ Row (fun _ => False) (M L) b wr ∧ nw = .int .i64 (now : Int) ∧ now ≤ 63 * k ∧ ii = .int .i64 (k : Int) ∧ k ≤ mn ∧ Below w.heap.size w wr) (fun _ _ _ ii _ _ _ _ _ _ _ => mn - (intOf ii).toNat)
  case atStart => exact ⟨0, 0, [], gd_nil, ⟨none, 0, rfl, Nat.le_refl _, Lies.none _ _⟩, ⟨none, 0, rfl, Nat.le_refl _, Lies.none _ _⟩, rfl, by omega, rfl, by omega, HB1.out⟩
  case round =>
    obtain ⟨k, now, L, hgd, ⟨A1, c1, rfl, hc1, hL1⟩, ⟨A2, c2, rfl, hc2, hL2⟩, rfl, hnow, rfl, hk, hB⟩ := hrel
    rw [M_length] at hc1 hc2
    simp only [M_length]
    have HB := Lib.hid hB
    have HL1 := Lib.hid hL1
    have HL2 := Lib.hid hL2
    clear hB hL1 hL2
    by_cases hlt : k < mn
    · have hkl : k < l.length := by omega
      have hki : (k : Int) < (l.length : Int) := by omega
      have hk80 : (k : Int) < 80 := by omega
      obtain ⟨ad, rfl, sa0⟩ := HA.out k hkl
      have sa := sa0.below HB.out
      obtain ⟨q, hq0⟩ : ∃ q, ad.add (k * 2) = q := ⟨_, rfl⟩
      obtain ⟨x, hx⟩ : ∃ x, l[k] = x := ⟨_, rfl⟩
      rw [hq0, hx] at sa
      obtain ⟨x0, x1⟩ := x
      have s0 := sa.c0
      have s1 := sa.c1
      simp only at s0 s1
      have ha := and63 x1
      have hlo := lo_lt x1 64 (by decide)
      obtain ⟨tk, htk⟩ : ∃ t, lo x1 64 = t := ⟨_, rfl⟩
      rw [htk] at ha hlo
      obtain ⟨nw, hnw⟩ : ∃ n, now + tk = n := ⟨_, rfl⟩
      have hv : IntKind.i64.wrap ((now : Int) + (tk : Int)) = (nw : Int) := by rw [IntKind.wrap_i64]; omega
      have hnk : nw ≤ 63 * (k + 1) := by omega
      obtain ⟨SK, hsk⟩ : ∃ s, keyS (kix x0) = s := ⟨_, rfl⟩
      have hgt := gd_take hgd SK nw (by omega)
      have hck := gd_check hgt
      have H1 := Lib.hid (fun W (hW : Below wr.heap.size wr W) => Take_any A1 c1 L hc1 hgd SK nw (by omega) W (HL1.out.below hW))
      have H2 := Lib.hid (fun W (hW : Below wr.heap.size wr W) => RTake_any A2 c2 L hc2 hgd SK nw (by omega) W (HL2.out.below hW))
      have hml := M_length (takeB L SK nw).1
      have hl24 := hgt.len
      generalize takeB L SK nw = TT at H1 H2 hgt hck hml hl24
      obtain ⟨X, ec⟩ := TT
      simp only at H1 H2 hgt hck hml hl24
      have HSM := Lib.hid (fun v u W hv hu => Same_rows (S := fun _ => False) (T := fun _ => False) (M X) (by omega) v u W hv hu)
      have HCK : Hid (∀ B d W, Lies (fun _ => False) W B (bus (M X)) → Calls Try.prog 14 #[.slice B X.length d] W fun e w' => e = .returned (.bool true) ∧ Below W.heap.size W w') := Lib.hid (fun B d W hL => by
        have h := Check_any B d (M X) (by omega) W hL
        rw [hck, hml] at h
        exact h)
      have HLF := Lib.hid (fun (B : Option Addr) (d : Nat) W hL => Left_any (S := fun _ => False) B d X hgt.vl SK nw (by omega) W hL)
      have HRF := Lib.hid (fun (B : Option Addr) (d : Nat) W hL => RLeft_any (S := fun _ => False) B d X hgt.vl SK nw (by omega) W hL)
      generalize Bk.left X SK nw = lf at HLF HRF
      have HGT := Lib.hid hgt
      clear sa sa0 hx hnw htk hgt hck hml hl24 hgd hnow
      go_wp2_with fail
      refine (key_any x0 wr).mono ?_
      rintro e w2' ⟨rfl, rfl⟩
      simp only [hsk]
      clear s0 s1
      go_wp2_with fail
      refine (H1.out wr (Below.refl _ wr)).mono ?_
      rintro e w5 ⟨⟨v5, rfl, hr5⟩, hb5⟩
      have HB5 := Lib.hid (HB.out.trans (hb5.mono HB.out.size))
      have HX := Lib.hid (H2.out w5 hb5)
      obtain ⟨A5, c5, rfl, hc5, hL5⟩ := hr5
      rw [M_length] at hc5
      simp only [M_length]
      have HM5 := Lib.hid hL5
      clear hb5 hL5
      go_wp2_with fail
      refine HX.out.mono ?_
      rintro e w6 ⟨⟨v6, rfl, hr6⟩, hb6⟩
      have HB6 := Lib.hid (HB5.out.trans (hb6.mono HB5.out.size))
      have HM6 := Lib.hid (HM5.out.below hb6)
      obtain ⟨A6, c6, rfl, hc6, hL6⟩ := hr6
      rw [M_length] at hc6
      simp only [M_length]
      have HN6 := Lib.hid hL6
      have HSS := Lib.hid (HSM.out (.slice A5 X.length c5) (.slice A6 X.length c6) w6 ⟨A5, c5, by rw [M_length], by rw [M_length]; exact hc5, HM6.out⟩ ⟨A6, c6, by rw [M_length], by rw [M_length]; exact hc6, HN6.out⟩)
      clear hb6 hL6
      go_wp2_with fail
      refine HSS.out.mono ?_
      rintro e w7 ⟨rfl, hb7⟩
      have HB7 := Lib.hid (HB6.out.trans (hb7.mono HB6.out.size))
      have HM7 := Lib.hid (HM6.out.below hb7)
      have HN7 := Lib.hid (HN6.out.below hb7)
      clear hb7
      go_wp2_with fail
      refine (HCK.out A5 c5 w7 HM7.out).mono ?_
      rintro e w8 ⟨rfl, hb8⟩
      have HB8 := Lib.hid (HB7.out.trans (hb8.mono HB7.out.size))
      have HM8 := Lib.hid (HM7.out.below hb8)
      have HN8 := Lib.hid (HN7.out.below hb8)
      clear hb8
      go_wp2_with fail
      refine (HLF.out A5 c5 w8 HM8.out).mono ?_
      rintro e w9 ⟨rfl, hb9⟩
      have HB9 := Lib.hid (HB8.out.trans (hb9.mono HB8.out.size))
      have HM9 := Lib.hid (HM8.out.below hb9)
      have HN9 := Lib.hid (HN8.out.below hb9)
      clear hb9
      go_wp2_with fail
      refine (HRF.out A6 c6 w9 HN9.out).mono ?_
      rintro e w10 ⟨rfl, hb10⟩
      have HB10 := Lib.hid (HB9.out.trans (hb10.mono HB9.out.size))
      have HM10 := Lib.hid (HM9.out.below hb10)
      have HN10 := Lib.hid (HN9.out.below hb10)
      clear hb10
      go_wp2_with fail
      go_roundw
      case rel => exact ⟨k + 1, nw, X, HGT.out, ⟨A5, c5, by rw [M_length], by rw [M_length]; exact hc5, HM10.out⟩, ⟨A6, c6, by rw [M_length], by rw [M_length]; exact hc6, HN10.out⟩, rfl, hnk, by go_num, by omega, HB10.out⟩
      case measure => simp [intOf]; omega
    · obtain rfl : k = mn := by omega
      by_cases h1 : k < l.length
      · have hki : (k : Int) < (l.length : Int) := by omega
        have hk26 : ¬ (k : Int) < 80 := by omega
        go_wp2_with fail
        go_ret
        exact ⟨rfl, HB.out⟩
      · have hki : ¬ (k : Int) < (l.length : Int) := by omega
        go_wp2_with fail
        go_ret
        exact ⟨rfl, HB.out⟩

/-! ### The row -/
theorem contract (H : Type) (enc : TypeId × Value → H) (W : World) (base : Nat) (args : Array Value) (ds gs : List (DataW H)) (before : List MemPlace)
    (hval : ∀ (j : Nat) t v, Try.f4.params[j]? = some t → args[j]? = some v → Value.okWide Try.prog W .any base t v)
    (hW : DataW.Whole enc Try.prog Try.f4.params.toList Rows.bucketPlaysSpec.vars false W args.toList ds gs before) :
    Calls Try.prog 4 args W fun e W' => ∃ v, e = .returned v ∧ Rows.bucketPlaysSpec.post enc Try.prog Try.f4 false true false false W args v W' := by
  have hW' := hW
  obtain ⟨p, q, hA0, hV, rfl, hfz, hnd⟩ := hW
  have hA : DataW.TrodAll enc Try.prog W 0 (fun _ => true) true Try.f4.params.toList args.toList ds p := hA0
  rw [Try.params4] at hA hval
  obtain ⟨v0, vs0, d0, ds0, p0, q0, hargs, rfl, rfl, h0, r0⟩ := trodAll_cons hA
  obtain ⟨rfl, rfl, rfl⟩ := trodAll_nil r0
  obtain rfl : args = #[v0] := by cases args; simp_all
  obtain ⟨rfl, rfl⟩ := trodVars_none hV
  refine law_contract (tb := 4) laidOut (by kernel_rfl) rfl (by kernel_rfl) Try.underlying4 rfl hW' ?_
  clear hA0 hW' hA
  obtain ⟨A0, k0, l0, rfl, b0, g0⟩ := open_ops (hval 0 33 v0 rfl rfl) h0
  exact walk A0 k0 l0 W g0

set_option maxRecDepth 100000 in
theorem lifted (os : Os) (started : os.Started) (H : Type) (enc : TypeId × Value → H) :
    ReturnsInHanded {} Try.checked os 4 .any (Rows.bucketPlaysSpec.pre6 enc Try.prog Try.f4 Rows.bucketPlaysRow.domain false) (Rows.bucketPlaysSpec.post enc Try.prog Try.f4 false true false false) := by
  refine returnsInHanded_of_change (C := Try.checked) own started (by kernel_rfl) Try.func4
    (ChangeSpec.witness6 (enc := enc) (C := Try.checked) false ⟨#[], #[.slice none 0 0], []⟩ 8 (by kernel_rfl) (by kernel_rfl) (by kernel_rfl) (by kernel_rfl)) ?_
  intro W base args ds gs before hval hW _ _
  exact contract H enc W base args ds gs before hval hW

/-- THE STATEMENT. -/
theorem said : Rows.BucketPlaysSaid :=
  OpenClaim.holds_of_wide 4 Try.f4 rfl rfl rfl rfl rfl rfl rfl ⟨rfl, rfl, rfl, rfl, rfl⟩ rfl rfl rfl rfl rfl (by kernel_rfl) Try.func4 (by kernel_rfl)
    (of_decide_eq_true (by kernel_rfl)) (by unfold Func.isWrapper; first | (rw [if_pos (by decide +kernel)]; kernel_rfl) | (rw [if_neg (by decide +kernel)]; exact ⟨rfl, rfl⟩))
    (fun os started H enc _ => lifted os started H enc)
#print axioms said
end Go.Proofs.Ytbldonkfboahmaa.bucketPlays
