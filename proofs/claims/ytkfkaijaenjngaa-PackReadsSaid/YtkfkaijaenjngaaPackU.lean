/-
  Contracts of the document's own reader of layer 3 (package homecomingref03): fail, End, Num. Condition: the reader lies in memory as its calls lay it.
-/
import Derived.Test.YtkfkaijaenjngaaPackG
import Derived.Deep.Cut
namespace Go.Proofs.Ytkfkaijaenjngaa
open Go.RowKit

section
variable {w : World} {d : Nat} {st : Option ByteArray}
theorem reffail_any {x y : Value} (h : Blk w d 47 #[x, y]) :
    Calls Try.prog 34 #[.pointer (some ⟨d, 0, none⟩)] w fun e w' => e = .returned (.tuple #[]) ∧ RdAt 47 w' d none ∧ Kept (· = d) w w' := by
  have c0 := h.cell 0
  have c1 := h.cell 1
  have f0 := h.frozen 0
  have f1 := h.frozen 1
  simp only [List.getElem?_toArray, List.getElem?_cons_zero, List.getElem?_cons_succ] at c0 c1
  have HB := Lib.hid h
  clear h
  go_enter Try.func34, Try.ntmps34
  go_wp2_with fail
  go_end0
  exact ⟨rfl, ⟨(HB.out.set_ 0 _).set_ 1 _, fun s hs => by cases hs⟩, ((Kept.refl (· = d) w).setCell (p := ⟨d, 0, none⟩) (.inl rfl) _).setCell (p := ⟨d, 1, none⟩) (.inl rfl) _⟩
theorem refend_any (h : RdAt 47 w d st) :
    Calls Try.prog 29 #[.pointer (some ⟨d, 0, none⟩)] w fun e w' => e = .returned (.bool (endB st)) ∧ w = w' := by
  have c0 := h.blk.cell 0
  have c1 := h.blk.cell 1
  cases st with
  | none =>
    simp only [rd, List.getElem?_toArray, List.getElem?_cons_zero, List.getElem?_cons_succ] at c0 c1
    go_enter Try.func29, Try.ntmps29
    go_wp2_with fail
    go_ret
    exact ⟨rfl, rfl⟩
  | some s =>
    simp only [rd, List.getElem?_toArray, List.getElem?_cons_zero, List.getElem?_cons_succ] at c0 c1
    go_enter Try.func29, Try.ntmps29
    go_wp2_with fail
    go_ret
    exact ⟨rfl, rfl⟩
end

theorem add_step (acc i : Nat) (b : UInt8) (hacc : acc < 2 ^ (7 * i)) (hi : i ≤ 9) (h : ¬ (i = 9 ∧ 1 < b.toNat)) :
    IntKind.u64.wrap ((acc : Int) + IntKind.u64.wrap ((b.toNat : Int) % 128 * 2 ^ (7 * i))) = ((acc + b.toNat % 128 * 2 ^ (7 * i) : Nat) : Int) := by
  have hle := (step_le acc i b hacc hi h).1
  have e2 : (b.toNat : Int) % 128 * 2 ^ (7 * i) = ((b.toNat % 128 * 2 ^ (7 * i) : Nat) : Int) := by
    push_cast
    rfl
  rw [e2, IntKind.wrap_u64, IntKind.wrap_u64, Int.emod_eq_of_lt (by omega) (by omega), Int.emod_eq_of_lt (by omega) (by omega)]
  omega

theorem add_step9 (acc : Nat) (b : UInt8) (hacc : acc < 2 ^ (7 * 9)) (h : b.toNat ≤ 1) :
    IntKind.u64.wrap ((acc : Int) + (b.toNat : Int) % 128 * 9223372036854775808) = ((acc + b.toNat % 128 * 2 ^ (7 * 9) : Nat) : Int) := by
  have e : (2 : Nat) ^ (7 * 9) = 9223372036854775808 := by decide
  rw [e] at hacc ⊢
  rw [IntKind.wrap_u64]
  omega
/-- Where the loop of Num stands. -/
def DecRel2 (most : Nat) (l : List UInt8) (x y : Value) : Prop :=
  ∃ i acc : Nat, y = .int .i64 (i : Int) ∧ x = .int .u64 (acc : Int) ∧ i ≤ l.length ∧ i ≤ 9 ∧ acc < 2 ^ (7 * i) ∧ Pk.dec most 0 0 l = Pk.dec most i acc (l.drop i)

set_option maxRecDepth 100000 in
theorem refnumr_raw (w : World) (d most : Nat) (s : ByteArray) (y : Value) (h : Blk w d 47 #[.string s, y]) (hs : s.size ≤ 1000000) (_hm : most ≤ 18446744073709551615) :
    Calls Try.prog 26 #[.pointer (some ⟨d, 0, none⟩), .int .u64 (most : Int)] w fun e w' =>
      (Pk.dec most 0 0 s.data.toList = none ∧ e = .returned (.int .u64 0) ∧ RdAt 47 w' d none ∧ Kept (· = d) w w') ∨
      (∃ (v : Nat) (r : List UInt8), Pk.dec most 0 0 s.data.toList = some (v, r) ∧ e = .returned (.int .u64 (v : Int)) ∧ Blk w' d 47 #[.string (ba r), y] ∧ Kept (· = d) w w') := by
  have HL := Lib.hid (show s.data.toList.length = s.size by simp)
  have c0 := h.cell 0
  have f0 := h.frozen 0
  simp only [List.getElem?_toArray, List.getElem?_cons_zero] at c0
  have HB := Lib.hid h
  have HF := Lib.hid (reffail_any h)
  clear h
  go_enter Try.func26, Try.ntmps26
  go_wp2_with fail
  go_loop [5, 6] (DecRel2 most s.data.toList) (fun _ i => s.size - (intOf i).toNat)
  case atStart => exact ⟨0, 0, rfl, rfl, by omega, by omega, by simp, rfl⟩
  case round =>
    obtain ⟨i, acc, rfl, rfl, hi, hi9, hacc, hd⟩ := hrel
    rw [HL.out] at hi
    have HD := Lib.hid hd
    have HACC := Lib.hid hacc
    clear hd hacc
    by_cases hlt : i < s.size
    · have h7 := IntWalk.i64_in (7 * (i : Int)) (by omega)
      generalize hb : s[i] = b
      have hbb := b.toNat_lt
      have HDr := Lib.hid (show s.data.toList.drop i = b :: s.data.toList.drop (i + 1) by
        rw [List.drop_eq_getElem_cons (by rw [HL.out]; exact hlt), ← hb]
        rfl)
      by_cases h1 : i = 9 ∧ 1 < b.toNat
      · obtain ⟨rfl, h1⟩ := h1
        have HV : Hid (Pk.dec most 0 0 s.data.toList = none) := Lib.hid (by
          rw [HD.out, HDr.out]
          simp [Pk.dec, h1])
        go_wp2_with fail
        refine HF.out.mono ?_
        rintro e w' ⟨rfl, h2, h3⟩
        go_wp2_with fail
        go_ret
        exact .inl ⟨HV.out, rfl, h2, h3⟩
      · have H1 := Lib.hid h1
        have hcase : i = 9 → b.toNat ≤ 1 := by omega
        have HST := Lib.hid (step_le acc i b HACC.out hi9 h1)
        have HDD := Lib.hid (show Pk.dec most 0 0 s.data.toList = if 128 ≤ b.toNat then Pk.dec most (i + 1) (acc + b.toNat % 128 * 2 ^ (7 * i)) (s.data.toList.drop (i + 1)) else if (b.toNat = 0 ∧ 0 < i) ∨ most < acc + b.toNat % 128 * 2 ^ (7 * i) then none else some (acc + b.toNat % 128 * 2 ^ (7 * i), s.data.toList.drop (i + 1)) by
          rw [HD.out, HDr.out]
          simp only [Pk.dec]
          rw [if_neg (by omega)])
        clear h1
        by_cases h9 : i = 9
        · subst h9
          have hb1 : b.toNat ≤ 1 := hcase rfl
          have e9 := add_step9 acc b HACC.out hb1
          generalize acc + b.toNat % 128 * 2 ^ (7 * 9) = z at *
          have hz := HST.out.1
          clear hcase HD HDr HACC H1
          go_upto_if 43 with fail
          clear e9 h7 hb
          by_cases h3 : b.toNat = 0 ∧ 0 < 9
          · have HV : Hid (Pk.dec most 0 0 s.data.toList = none) := Lib.hid (by rw [HDD.out, if_neg (by omega), if_pos (.inl h3)])
            obtain ⟨h3, h4⟩ := h3
            clear HDD
            go_wp2_with fail
            refine HF.out.mono ?_
            rintro e w' ⟨rfl, h2', h3'⟩
            go_wp2_with fail
            go_ret
            exact .inl ⟨HV.out, rfl, h2', h3'⟩
          · by_cases h5 : most < z
            · have HV : Hid (Pk.dec most 0 0 s.data.toList = none) := Lib.hid (by rw [HDD.out, if_neg (by omega), if_pos (.inr h5)])
              clear HDD
              by_cases h4 : b.toNat = 0
              · exact absurd ⟨h4, by omega⟩ h3
              · have hb0 : ((b.toNat : Int) == 0) = false := by rw [beq_eq_false_iff_ne]; omega
                clear h3
                go_wp2_with fail
                refine HF.out.mono ?_
                rintro e w' ⟨rfl, h2', h3'⟩
                go_wp2_with fail
                go_ret
                exact .inl ⟨HV.out, rfl, h2', h3'⟩
            · have HV : Hid (Pk.dec most 0 0 s.data.toList = some (z, s.data.toList.drop (9 + 1))) := Lib.hid (by rw [HDD.out, if_neg (by omega), if_neg (by omega)])
              have HX := Lib.hid (ext_drop s (9 + 1))
              have hnm : decide (most < z) = false := decide_eq_false h5
              clear HDD HF
              by_cases h4 : b.toNat = 0
              · exact absurd ⟨h4, by omega⟩ h3
              · have hb0 : ((b.toNat : Int) == 0) = false := by rw [beq_eq_false_iff_ne]; omega
                clear h3
                go_wp2_with fail
                go_ret
                exact .inr ⟨z, _, HV.out, rfl, by rw [← HX.out]; exact HB.out.set_ 0 _, (Kept.refl (· = d) w).setCell (p := ⟨d, 0, none⟩) (.inl rfl) _⟩
        · have ei := add_step acc i b HACC.out hi9 H1.out
          generalize acc + b.toNat % 128 * 2 ^ (7 * i) = z at *
          have hz := HST.out.1
          clear hcase HD HDr HACC H1
          go_upto_if 43 with fail
          clear ei h7 hb
          by_cases h2 : 128 ≤ b.toNat
          · have HR := Lib.hid (show Pk.dec most 0 0 s.data.toList = Pk.dec most (i + 1) z (s.data.toList.drop (i + 1)) by rw [HDD.out, if_pos h2])
            clear HDD HF
            go_wp2_with fail
            go_round
            case rel => exact ⟨i + 1, z, by go_num, rfl, by rw [HL.out]; omega, by omega, HST.out.2 (by omega), HR.out⟩
            case measure => simp [intOf]; omega
          · by_cases h3 : b.toNat = 0 ∧ 0 < i
            · have HV : Hid (Pk.dec most 0 0 s.data.toList = none) := Lib.hid (by rw [HDD.out, if_neg h2, if_pos (.inl h3)])
              obtain ⟨h3, h4⟩ := h3
              clear HDD
              go_wp2_with fail
              refine HF.out.mono ?_
              rintro e w' ⟨rfl, h2', h3'⟩
              go_wp2_with fail
              go_ret
              exact .inl ⟨HV.out, rfl, h2', h3'⟩
            · by_cases h5 : most < z
              · have HV : Hid (Pk.dec most 0 0 s.data.toList = none) := Lib.hid (by rw [HDD.out, if_neg h2, if_pos (.inr h5)])
                clear HDD
                by_cases h4 : b.toNat = 0
                · obtain rfl : i = 0 := by omega
                  clear h2 h3
                  go_wp2_with fail
                  refine HF.out.mono ?_
                  rintro e w' ⟨rfl, h2', h3'⟩
                  go_wp2_with fail
                  go_ret
                  exact .inl ⟨HV.out, rfl, h2', h3'⟩
                · have hb0 : ((b.toNat : Int) == 0) = false := by rw [beq_eq_false_iff_ne]; omega
                  clear h3
                  go_wp2_with fail
                  refine HF.out.mono ?_
                  rintro e w' ⟨rfl, h2', h3'⟩
                  go_wp2_with fail
                  go_ret
                  exact .inl ⟨HV.out, rfl, h2', h3'⟩
              · have HV : Hid (Pk.dec most 0 0 s.data.toList = some (z, s.data.toList.drop (i + 1))) := Lib.hid (by rw [HDD.out, if_neg h2, if_neg (by omega)])
                have HX := Lib.hid (ext_drop s (i + 1))
                have hnm : decide (most < z) = false := decide_eq_false h5
                clear HDD HF
                by_cases h4 : b.toNat = 0
                · obtain rfl : i = 0 := by omega
                  clear h2 h3
                  go_wp2_with fail
                  go_ret
                  exact .inr ⟨z, _, HV.out, rfl, by rw [← HX.out]; exact HB.out.set_ 0 _, (Kept.refl (· = d) w).setCell (p := ⟨d, 0, none⟩) (.inl rfl) _⟩
                · have hb0 : ((b.toNat : Int) == 0) = false := by rw [beq_eq_false_iff_ne]; omega
                  clear h3
                  go_wp2_with fail
                  go_ret
                  exact .inr ⟨z, _, HV.out, rfl, by rw [← HX.out]; exact HB.out.set_ 0 _, (Kept.refl (· = d) w).setCell (p := ⟨d, 0, none⟩) (.inl rfl) _⟩
    · have HV : Hid (Pk.dec most 0 0 s.data.toList = none) := Lib.hid (by
        rw [HD.out, List.drop_of_length_le (by rw [HL.out]; omega)]
        rfl)
      obtain rfl : i = s.size := by omega
      go_wp2_with fail
      refine HF.out.mono ?_
      rintro e w' ⟨rfl, h2, h3⟩
      go_wp2_with fail
      go_ret
      exact .inl ⟨HV.out, rfl, h2, h3⟩
end Go.Proofs.Ytkfkaijaenjngaa
