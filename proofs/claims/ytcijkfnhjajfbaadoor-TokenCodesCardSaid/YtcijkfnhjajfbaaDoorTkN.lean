/-
  Contracts of the document's own Token and IsToken, and of the law's tells. Condition: texts of at most 60 bytes.
-/
import Derived.Test.YtcijkfnhjajfbaaDoorTkL
namespace Go.Proofs.YtcijkfnhjajfbaaDoor
open Go.RowKit

theorem ref_token (s : ByteArray) (hs : s.size ≤ 100000) (w : World) :
    Calls Tryd.prog 17 #[.string s] w fun e w' => e = .returned (.string (tokS s.data.toList)) ∧ Below w.heap.size w w' := by
  have HE := Lib.hid (ref_encode s (by omega) w)
  have hl : s.data.toList.length = s.size := by simp
  unfold tokS
  rw [hl]
  by_cases h : s.size = 10
  · rw [if_pos h]
    have hz : (s.size : Int) = 10 := by omega
    clear hl
    go_enter Tryd.func17, Tryd.ntmps17
    go_wp2_with fail
    refine HE.out.mono ?_
    rintro e w1 ⟨rfl, hb⟩
    have HB := Lib.hid hb
    clear hb HE
    go_wp2_with fail
    go_ret
    exact ⟨rfl, HB.out⟩
  · rw [if_neg h]
    have hz : ¬ ((s.size : Int) = 10) := by omega
    clear hl HE
    go_enter Tryd.func17, Tryd.ntmps17
    go_wp2_with fail
    go_ret
    exact ⟨rfl, Below.refl _ _⟩
theorem ref_istoken (s : ByteArray) (hs : s.size ≤ 100000) (w : World) :
    Calls Tryd.prog 18 #[.string s] w fun e w' => e = .returned (.bool (isTok s.data.toList)) ∧ Below w.heap.size w w' := by
  have hd := ref_decode s hs w
  have hsz : (decS s.data.toList).size ≤ 10000000 := by
    unfold decS
    rw [ba_size]
    cases h : Tk.dec s.data.toList with
    | none => simp
    | some x =>
      have := congrArg List.length (Tk.dec_some.1 h)
      rw [Tk.enc_length] at this
      have hl : s.data.toList.length = s.size := by simp
      simp only [Option.getD_some]
      omega
  unfold isTok
  generalize decS s.data.toList = D at hd hsz ⊢
  generalize decB s.data.toList = b at hd ⊢
  have HE := Lib.hid hd
  clear hd
  go_enter Tryd.func18, Tryd.ntmps18
  go_wp2_with fail
  refine HE.out.mono ?_
  rintro e w1 ⟨rfl, hb⟩
  have HB := Lib.hid hb
  clear hb HE
  cases b with
  | false =>
    go_wp2_with fail
    go_ret
    exact ⟨rfl, HB.out⟩
  | true =>
    by_cases h : D.size = 10
    · have hz : (D.size : Int) = 10 := by omega
      go_wp2_with fail
      go_ret
      exact ⟨by rw [decide_eq_true h]; rfl, HB.out⟩
    · have hz : ¬ ((D.size : Int) = 10) := by omega
      go_wp2_with fail
      go_ret
      exact ⟨by show Ending.returned (.bool ((D.size : Int) == 10)) = _; rw [show ((D.size : Int) == 10) = false by simpa using hz, decide_eq_false h]; rfl, HB.out⟩

set_option maxRecDepth 100000 in
set_option maxHeartbeats 4000000 in
theorem tells_any (s : ByteArray) (hs : s.size ≤ 60) (w : World) :
    Calls Tryd.prog 7 #[.string s] w fun e w' => e = .returned (.bool true) ∧ Below w.heap.size w w' := by
  have HD1 := Lib.hid (fun W => decode_any s (by omega) W)
  have HD2 := Lib.hid (fun W => ref_decode s (by omega) W)
  have HE1 := Lib.hid (fun W => encode_any s (by omega) W)
  have HE2 := Lib.hid (fun W => ref_encode s (by omega) W)
  have HT1 := Lib.hid (fun W => token_any s (by omega) W)
  have HT2 := Lib.hid (fun W => ref_token s (by omega) W)
  have HI1 := Lib.hid (fun W => istoken_any s (by omega) W)
  have HI2 := Lib.hid (fun W => ref_istoken s (by omega) W)
  have HC1 := Lib.hid (fun W => iscode_any s (by omega) W)
  have HC2 := Lib.hid (fun W => ref_iscode s (by omega) W)
  have HL1 := Lib.hid (fun W => clean_any s (by omega) W)
  have HL2 := Lib.hid (fun W => ref_clean s (by omega) W)
  generalize decS s.data.toList = dS at HD1 HD2
  generalize decB s.data.toList = dB at HD1 HD2
  generalize ba (Tk.enc s.data.toList) = eS at HE1 HE2
  generalize tokS s.data.toList = tS at HT1 HT2
  generalize isTok s.data.toList = iB at HI1 HI2
  generalize Tk.isCode s.data.toList = cB at HC1 HC2
  generalize ba (Tk.clean s.data.toList) = lS at HL1 HL2
  have h1 : (dS.toList == dS.toList) = true := by simp
  have h2 : (dB == dB) = true := by simp
  have h3 : (eS.toList == eS.toList) = true := by simp
  have h4 : (tS.toList == tS.toList) = true := by simp
  have h5 : (iB == iB) = true := by simp
  have h6 : (cB == cB) = true := by simp
  have h7 : (lS.toList == lS.toList) = true := by simp
  go_enter Tryd.func7, Tryd.ntmps7
  go_wp2_with fail
  refine (HD1.out _).mono ?_
  rintro e w1 ⟨rfl, hb⟩
  have HB1 := Lib.hid hb
  clear hb
  go_wp2_with fail
  refine (HD2.out _).mono ?_
  rintro e w2 ⟨rfl, hb⟩
  have HB2 := Lib.hid (HB1.out.trans (hb.mono HB1.out.size))
  clear hb
  go_wp2_with fail
  refine (HE1.out _).mono ?_
  rintro e w3 ⟨rfl, hb⟩
  have HB3 := Lib.hid (HB2.out.trans (hb.mono HB2.out.size))
  clear hb
  go_wp2_with fail
  refine (HE2.out _).mono ?_
  rintro e w4 ⟨rfl, hb⟩
  have HB4 := Lib.hid (HB3.out.trans (hb.mono HB3.out.size))
  clear hb
  go_wp2_with fail
  refine (HT1.out _).mono ?_
  rintro e w5 ⟨rfl, hb⟩
  have HB5 := Lib.hid (HB4.out.trans (hb.mono HB4.out.size))
  clear hb
  go_wp2_with fail
  refine (HT2.out _).mono ?_
  rintro e w6 ⟨rfl, hb⟩
  have HB6 := Lib.hid (HB5.out.trans (hb.mono HB5.out.size))
  clear hb
  go_wp2_with fail
  refine (HI1.out _).mono ?_
  rintro e w7 ⟨rfl, hb⟩
  have HB7 := Lib.hid (HB6.out.trans (hb.mono HB6.out.size))
  clear hb
  go_wp2_with fail
  refine (HI2.out _).mono ?_
  rintro e w8 ⟨rfl, hb⟩
  have HB8 := Lib.hid (HB7.out.trans (hb.mono HB7.out.size))
  clear hb
  go_wp2_with fail
  refine (HC1.out _).mono ?_
  rintro e w9 ⟨rfl, rfl⟩
  go_wp2_with fail
  refine (HC2.out _).mono ?_
  rintro e w9 ⟨rfl, rfl⟩
  go_wp2_with fail
  refine (HL1.out _).mono ?_
  rintro e w9 ⟨rfl, hb⟩
  have HB9 := Lib.hid (HB8.out.trans (hb.mono HB8.out.size))
  clear hb
  go_wp2_with fail
  refine (HL2.out _).mono ?_
  rintro e wz ⟨rfl, hb⟩
  have HBZ := Lib.hid (HB9.out.trans (hb.mono HB9.out.size))
  clear hb
  go_wp2_with fail
  go_ret
  exact ⟨rfl, HBZ.out⟩
end Go.Proofs.YtcijkfnhjajfbaaDoor
