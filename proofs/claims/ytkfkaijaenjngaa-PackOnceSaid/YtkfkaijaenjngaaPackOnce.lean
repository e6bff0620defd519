/-
  PackOnce: nothing is read in two ways, whatever is read as a number has just that number's bytes: for every text and every bound the statement's function returns true and changes nothing that was there. No condition.
-/
import Derived.Test.YtkfkaijaenjngaaPackF
import Derived.Test.YtkfkaijaenjngaaPackT
namespace Go.Proofs.Ytkfkaijaenjngaa.packOnce
open Go.ChangeShapes Go.WideShapes Go.ChangeAt Go.RowKit
open Go.ChangeMaps (open_string shut_string)

set_option maxRecDepth 100000 in
set_option maxHeartbeats 4000000 in
theorem walk (s : ByteArray) (most : Nat) (w : World) (hs : s.size ≤ maxLen) (hm : most ≤ 18446744073709551615) :
    Calls Try.prog 6 #[.string s, .int .u64 (most : Int)] w fun e w' => e = .returned (.bool true) ∧ Below w.heap.size w w' := by
  have HC := Lib.hid (fun W => short_any s 20 hs W)
  have hcs := cut_size s 20
  generalize cut s 20 = c at HC hcs
  clear hs
  go_enter Try.func6, Try.ntmps6
  go_wp2_with fail
  refine (awake_any _).mono ?_
  rintro e w1 ⟨rfl, hb1⟩
  have hz1 := hb1.size
  have HB1 := Lib.hid hb1
  clear hb1
  go_wp2_with fail
  refine (HC.out w1).mono ?_
  rintro e w' ⟨rfl, rfl⟩
  clear HC
  go_wp2_with fail
  refine (read_any w1 c (by omega)).mono ?_
  rintro e w2 ⟨rfl, hr2, hb2, hz2⟩
  generalize hd : w1.heap.size = d at *
  have hB2 : Below w.heap.size w w2 := HB1.out.trans (hb2.mono hz1)
  have HB2 := Lib.hid hB2
  have HN := Lib.hid (rnum_any hr2 most hm)
  have HE := Lib.hid (rNum_some most c)
  clear HB1 hB2 hb2 hr2 hd
  go_wp2_with fail
  refine HN.out.mono ?_
  rintro e w3 ⟨rfl, hr3, hk3⟩
  have hB3 : Below w.heap.size w w3 := Kept.below HB2.out hk3 (fun k hk => by rw [hk]; exact hz1) (by omega)
  have HB3 := Lib.hid hB3
  have hz3 := hB3.size
  clear HN HB2 hk3 hB3
  cases hd : Pk.dec most 0 0 c.data.toList with
  | none =>
    have he : rNum most (some c) = (0, none) := by rw [HE.out, hd]
    rw [he] at hr3 ⊢
    clear HE hd he
    have HR := Lib.hid hr3
    have HG := Lib.hid (good_any hr3)
    have HT := Lib.hid (rest_any hr3)
    have HN := Lib.hid (rnum_any hr3 most hm)
    clear hr3
    go_wp2_with fail
    refine HG.out.mono ?_
    rintro e w' ⟨rfl, rfl⟩
    clear HG
    go_wp2_with fail
    refine HT.out.mono ?_
    rintro e w' ⟨rfl, rfl⟩
    clear HT
    go_wp2_with fail
    refine HN.out.mono ?_
    rintro e w4 ⟨rfl, hr4, hk4⟩
    have HB4 : Hid (Below w.heap.size w w4) := Lib.hid (Kept.below HB3.out hk4 (fun k hk => by rw [hk]; exact hz1) (by omega))
    have hr4' : RdAt 62 w4 d none := hr4
    have HX := Lib.hid (rtext_any hr4' 9 (by omega) (by omega))
    rw [show rText 9 none = (⟨#[]⟩, none) from rfl] at HX
    clear HN HB3 hk4 hr4 hr4'
    go_wp2_with fail
    refine HX.out.mono ?_
    rintro e w5 ⟨rfl, hr5, hk5⟩
    have HB5 : Hid (Below w.heap.size w w5) := Lib.hid (Kept.below HB4.out hk5 (fun k hk => by rw [hk]; exact hz1) (by have := HB4.out.size; omega))
    clear HX hr5 hk5 HB4
    go_wp2_with fail
    go_ret
    exact ⟨rfl, HB5.out⟩
  | some p =>
    obtain ⟨v, r⟩ := p
    obtain ⟨hl, hvm, hv64⟩ := Pk.dec_some hd
    have he : rNum most (some c) = (v, some (ba r)) := by rw [HE.out, hd]
    rw [he] at hr3 ⊢
    have HL : Hid (ba (Pk.num v) ++ ba r = c) := Lib.hid (by rw [ba_append, ← hl, ba_back])
    have hz : (ba (Pk.num v)).size + (ba r).size ≤ 20 := by
      have := congrArg List.length hl
      rw [ba_size, ba_size]
      simp at this
      omega
    have hv : v ≤ 18446744073709551615 := by omega
    clear HE hd he hl hv64
    have HG := Lib.hid (good_any hr3)
    have HR := Lib.hid hr3
    clear hr3
    generalize ba r = R at *
    go_wp2_with fail
    refine HG.out.mono ?_
    rintro e w' ⟨rfl, rfl⟩
    clear HG
    have hw4 : Wr w.heap.size w _ _ _ _ := Wr.new HB3.out hz3
    have HW := Lib.hid (wnum_one hw4 v _ rfl (w3.heap.size + 1) (by simp) hv (by simp))
    have HR2 := Lib.hid (HR.out.below ((Below.refl _ w3).alloc (Nat.le_refl _) (.cells #[.slice none 0 0] 31)))
    have hd3 : d < w3.heap.size := HR.out.blk.lt
    clear hw4 HR
    go_wp2_with fail
    refine HW.out.mono ?_
    rintro e w5 ⟨rfl, v5, hw5, hk5, _⟩
    rw [List.nil_append] at hw5
    have hr5 := HR2.out.kept hk5 (fun hf => by have := foot_new hf; omega)
    have HB5 := Lib.hid hw5.bel
    have HS := Lib.hid (str_on hw5)
    have HT := Lib.hid (rest_any hr5)
    clear HW hw5 hk5 hr5 HR2 HB3
    generalize ba (Pk.num v) = S at *
    go_wp2_with fail
    refine HS.out.mono ?_
    rintro e w' ⟨rfl, rfl⟩
    clear HS
    go_wp2_with fail
    refine HT.out.mono ?_
    rintro e w' ⟨rfl, rfl⟩
    clear HT
    have hL := HL.out
    go_wp2_with fail
    go_ret
    exact ⟨rfl, HB5.out⟩

/-! ### The row -/
theorem contract (H : Type) (enc : TypeId × Value → H) (W : World) (base : Nat) (args : Array Value) (ds gs : List (DataW H)) (before : List MemPlace)
    (hval : ∀ (j : Nat) t v, Try.f6.params[j]? = some t → args[j]? = some v → Value.okWide Try.prog W .any base t v)
    (hW : DataW.Whole enc Try.prog Try.f6.params.toList Rows.packOnceSpec.vars false W args.toList ds gs before) :
    Calls Try.prog 6 args W fun e W' => ∃ v, e = .returned v ∧ Rows.packOnceSpec.post enc Try.prog Try.f6 false true false false W args v W' := by
  have hW' := hW
  obtain ⟨p, q, hA0, hV, rfl, hfz, hnd⟩ := hW
  have hA : DataW.TrodAll enc Try.prog W 0 (fun _ => true) true Try.f6.params.toList args.toList ds p := hA0
  rw [Try.params6] at hA hval
  obtain ⟨v0, vs0, d0, ds0, p0, q0, hargs, rfl, rfl, h0, r0⟩ := trodAll_cons hA
  obtain ⟨v1, vs1, d1, ds1, p1, q1, rfl, rfl, rfl, h1, r1⟩ := trodAll_cons r0
  obtain ⟨rfl, rfl, rfl⟩ := trodAll_nil r1
  obtain rfl : args = #[v0, v1] := by cases args; simp_all
  obtain ⟨rfl, rfl⟩ := trodVars_none hV
  refine law_contract (tb := 4) laidOut (by kernel_rfl) rfl (by kernel_rfl) Try.underlying4 rfl hW' ?_
  clear hA0 hW' hA
  obtain ⟨a0, rfl, _, _, w0⟩ := open_string Try.underlying9 (hval 0 9 v0 rfl rfl) h0
  obtain ⟨a1, rfl, rfl, rfl, w1⟩ := open_int Try.underlying33 (hval 1 33 v1 rfl rfl) h1
  obtain ⟨n1, rfl, b1⟩ := bounds_u64 w1
  exact walk a0 n1 W (by simpa [Lit.wf] using w0) b1

set_option maxRecDepth 100000 in
theorem lifted (os : Os) (started : os.Started) (H : Type) (enc : TypeId × Value → H) :
    ReturnsInHanded {} Try.checked os 6 .any (Rows.packOnceSpec.pre6 enc Try.prog Try.f6 Rows.packOnceRow.domain false) (Rows.packOnceSpec.post enc Try.prog Try.f6 false true false false) := by
  refine returnsInHanded_of_change (C := Try.checked) own started (by kernel_rfl) Try.func6
    (ChangeSpec.witness6 (enc := enc) (C := Try.checked) false ⟨#[], #[.string ⟨#[]⟩, .int .u64 0], []⟩ 8 (by kernel_rfl) (by kernel_rfl) (by kernel_rfl) (by kernel_rfl)) ?_
  intro W base args ds gs before hval hW _ _
  exact contract H enc W base args ds gs before hval hW

/-- THE STATEMENT. -/
theorem said : Rows.PackOnceSaid :=
  OpenClaim.holds_of_wide 6 Try.f6 rfl rfl rfl rfl rfl rfl rfl ⟨rfl, rfl, rfl, rfl, rfl⟩ rfl rfl rfl rfl rfl (by kernel_rfl) Try.func6 (by kernel_rfl)
    (of_decide_eq_true (by kernel_rfl)) (by unfold Func.isWrapper; first | (rw [if_pos (by decide +kernel)]; kernel_rfl) | (rw [if_neg (by decide +kernel)]; exact ⟨rfl, rfl⟩))
    (fun os started H enc _ => lifted os started H enc)
#print axioms said
end Go.Proofs.Ytkfkaijaenjngaa.packOnce
