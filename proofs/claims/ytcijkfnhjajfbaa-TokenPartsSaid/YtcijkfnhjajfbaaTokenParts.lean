/-
  Proves the statement of TokenParts: for every two texts the law returns true (texts of five bytes each are coded apart), and its arguments read as they did. No condition.
-/
import Derived.Test.YtcijkfnhjajfbaaTkF
import Derived.Test.YtcijkfnhjajfbaaTkT
namespace Go.Proofs.Ytcijkfnhjajfbaa.tokenParts
open Go.ChangeShapes Go.WideShapes Go.ChangeAt Go.RowKit
open Go.ChangeMaps (open_string shut_string)

theorem run_upto (s : ByteArray) (k : Nat) (hk : k ≤ s.size) (z : Int) (hz : z = (k : Int)) (W : World) : (Instr.slice 9 (.string s) none (some (.int .i64 z)) none).run Try.prog W = .ok (.string (ba (s.data.toList.take k))) W := by
  subst hz
  rw [run_slice_string_to_if _ _ _ _ _ Try.underlying9, if_pos (by omega), ← ext_take]
  simp
set_option maxRecDepth 100000 in
set_option maxHeartbeats 4000000 in
theorem walk (s0 o0 : ByteArray) (hs0 : s0.size ≤ maxLen) (ho0 : o0.size ≤ maxLen) (w : World) :
    Calls Try.prog 6 #[.string s0, .string o0] w fun e w' => e = .returned (.bool true) ∧ Below w.heap.size w w' := by
  have hcs := cut_size s0 40
  have hco := cut_size o0 40
  have HSs := Lib.hid (fun W => short_any s0 40 hs0 W)
  have HSo := Lib.hid (fun W => short_any o0 40 ho0 W)
  generalize cut s0 40 = s at hcs HSs
  generalize cut o0 40 = o at hco HSo
  have hup := run_upto s (s.size / 5 * 5) (by omega) ((s.size : Int) / 5 * 5) (by omega)
  have hxl : (s.data.toList.take (s.size / 5 * 5)).length = 5 * (s.size / 5) := by
    have hsl : s.data.toList.length = s.size := by simp
    rw [List.length_take]; omega
  generalize s.data.toList.take (s.size / 5 * 5) = X at hup hxl
  have hXz : (ba X).size = 5 * (s.size / 5) := by rw [ba_size]; exact hxl
  have HE1 := Lib.hid (fun W => encode_any (ba X ++ o) (by rw [ByteArray.size_append]; omega) W)
  have HE2 := Lib.hid (fun W => encode_any (ba X) (by omega) W)
  have HE3 := Lib.hid (fun W => encode_any o (by omega) W)
  have hjoin : (ba X ++ o).data.toList = X ++ o.data.toList := by
    conv => lhs; rw [← ba_back o, ba_append]
    exact ba_list _
  rw [hjoin, Tk.enc_append X _ (by omega), ← ba_append] at HE1
  rw [ba_list] at HE2
  have hE2z : (ba (Tk.enc X)).size = (8 * X.length + 4) / 5 := by rw [ba_size, Tk.enc_length]
  have hend : (((ba (Tk.enc X)).size : Int) == ((ba X).size : Int) / 5 * 8) = true := beq_iff_eq.2 (by omega)
  have hE2s : (ba (Tk.enc X)).size ≤ 100 := by omega
  have hE3s : (ba (Tk.enc o.data.toList)).size ≤ 100 := by
    have hol : o.data.toList.length = o.size := by simp
    rw [ba_size, Tk.enc_length]; omega
  generalize ba (Tk.enc X) = E2 at HE1 HE2 hend hE2s
  generalize ba (Tk.enc o.data.toList) = E3 at HE1 HE3 hE3s
  have hx40 : (ba X).size ≤ 40 := by omega
  clear hjoin hE2z hXz hxl
  generalize ba X = x at HE1 HE2 hup hend hx40
  clear hs0 ho0
  go_enter Try.func6, Try.ntmps6
  go_wp2_with fail
  refine (awake_any _).mono ?_
  rintro e w1 ⟨rfl, hb1⟩
  have HB1 := Lib.hid hb1
  clear hb1
  go_wp2_with fail
  refine (HSs.out _).mono ?_
  rintro e w2 ⟨rfl, rfl⟩
  go_wp2_with fail
  refine (HSo.out _).mono ?_
  rintro e w2 ⟨rfl, rfl⟩
  go_wp2_with fail
  refine (HE1.out _).mono ?_
  rintro e w2 ⟨rfl, hb⟩
  have HB2 := Lib.hid (HB1.out.trans (hb.mono HB1.out.size))
  clear hb
  go_wp2_with fail
  refine (HE2.out _).mono ?_
  rintro e w3 ⟨rfl, hb⟩
  have HB3 := Lib.hid (HB2.out.trans (hb.mono HB2.out.size))
  clear hb
  go_wp2_with fail
  refine (HE3.out _).mono ?_
  rintro e w4 ⟨rfl, hb⟩
  have HB4 := Lib.hid (HB3.out.trans (hb.mono HB3.out.size))
  clear hb
  go_wp2_with fail
  refine (HE2.out _).mono ?_
  rintro e w5 ⟨rfl, hb⟩
  have HB5 := Lib.hid (HB4.out.trans (hb.mono HB4.out.size))
  clear hb
  go_wp2_with fail
  go_ret
  exact ⟨rfl, HB5.out⟩

/-! ### The row -/
theorem contract (H : Type) (enc : TypeId × Value → H) (W : World) (base : Nat) (args : Array Value) (ds gs : List (DataW H)) (before : List MemPlace)
    (hval : ∀ (j : Nat) t v, Try.f6.params[j]? = some t → args[j]? = some v → Value.okWide Try.prog W .any base t v)
    (hW : DataW.Whole enc Try.prog Try.f6.params.toList Rows.tokenPartsSpec.vars false W args.toList ds gs before) :
    Calls Try.prog 6 args W fun e W' => ∃ v, e = .returned v ∧ Rows.tokenPartsSpec.post enc Try.prog Try.f6 false true false false W args v W' := by
  have hW' := hW
  obtain ⟨p, q, hA0, hV, rfl, hfz, hnd⟩ := hW
  have hA : DataW.TrodAll enc Try.prog W 0 (fun _ => true) true Try.f6.params.toList args.toList ds p := hA0
  rw [Try.params6] at hA hval
  obtain ⟨v0, vs0, d0, ds0, p0, q0, hargs, rfl, rfl, h0, r0⟩ := trodAll_cons hA
  obtain ⟨v1, vs1, d1, ds1, p1, q1, rfl, rfl, rfl, h1, r1⟩ := trodAll_cons r0
  obtain ⟨rfl, rfl, rfl⟩ := trodAll_nil r1
  obtain rfl : args = #[v0, v1] := by cases args; simp_all
  obtain ⟨rfl, rfl⟩ := trodVars_none hV
  refine law_contract (tb := 4) laidOut (by kernel_rfl) rfl (by kernel_rfl) Try.underlying4 rfl hW' ?_
  clear hA0 hW' hA
  obtain ⟨a0, rfl, _, _, w0⟩ := open_string Try.underlying9 (hval 0 9 v0 rfl rfl) h0
  obtain ⟨a1, rfl, _, _, w1⟩ := open_string Try.underlying9 (hval 1 9 v1 rfl rfl) h1
  exact walk a0 a1 w0 w1 W

set_option maxRecDepth 100000 in
theorem lifted (os : Os) (started : os.Started) (H : Type) (enc : TypeId × Value → H) :
    ReturnsInHanded {} Try.checked os 6 .any (Rows.tokenPartsSpec.pre6 enc Try.prog Try.f6 Rows.tokenPartsRow.domain false) (Rows.tokenPartsSpec.post enc Try.prog Try.f6 false true false false) := by
  refine returnsInHanded_of_change (C := Try.checked) own started (by kernel_rfl) Try.func6
    (ChangeSpec.witness6 (enc := enc) (C := Try.checked) false ⟨#[], #[.string ⟨#[]⟩, .string ⟨#[]⟩], []⟩ 8 (by kernel_rfl) (by kernel_rfl) (by kernel_rfl) (by kernel_rfl)) ?_
  intro W base args ds gs before hval hW _ _
  exact contract H enc W base args ds gs before hval hW

/-- THE STATEMENT. -/
theorem said : Rows.TokenPartsSaid :=
  OpenClaim.holds_of_wide 6 Try.f6 rfl rfl rfl rfl rfl rfl rfl ⟨rfl, rfl, rfl, rfl, rfl⟩ rfl rfl rfl rfl rfl (by kernel_rfl) Try.func6 (by kernel_rfl)
    (of_decide_eq_true (by kernel_rfl)) (by unfold Func.isWrapper; first | (rw [if_pos (by decide +kernel)]; kernel_rfl) | (rw [if_neg (by decide +kernel)]; exact ⟨rfl, rfl⟩))
    (fun os started H enc _ => lifted os started H enc)
#print axioms said
end Go.Proofs.Ytcijkfnhjajfbaa.tokenParts
