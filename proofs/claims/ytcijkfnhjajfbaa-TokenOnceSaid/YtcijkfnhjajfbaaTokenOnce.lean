/-
  Proves the statement of TokenOnce: for every text and every three numbers the law returns true (nothing is decoded from two texts), and its arguments read as they did. No condition.
-/
import Derived.Test.YtcijkfnhjajfbaaTkF
import Derived.Test.YtcijkfnhjajfbaaTkT
namespace Go.Proofs.Ytcijkfnhjajfbaa.tokenOnce
open Go.ChangeShapes Go.WideShapes Go.ChangeAt Go.RowKit
open Go.ChangeMaps (open_string shut_string)

theorem run_upto (s : ByteArray) (k : Nat) (hk : k ≤ s.size) (W : World) : (Instr.slice 9 (.string s) none (some (.int .i64 (k : Int))) none).run Try.prog W = .ok (.string (ba (s.data.toList.take k))) W := by
  rw [run_slice_string_to_if _ _ _ _ _ Try.underlying9, if_pos (by omega), ← ext_take]
  simp
theorem run_from (s : ByteArray) (z : Int) (k : Nat) (hz : z = (k : Int)) (hk : k ≤ s.size) (W : World) : (Instr.slice 9 (.string s) (some (.int .i64 z)) none none).run Try.prog W = .ok (.string (ba (s.data.toList.drop k))) W := by
  subst hz
  rw [run_slice_string_from_if _ _ _ _ _ Try.underlying9, if_pos (by omega), ← ext_drop]
  simp
theorem dec_facts (s X : ByteArray) : (decB X.data.toList = false → X ≠ ba (Tk.enc s.data.toList)) ∧ (decB X.data.toList = true → ba (Tk.enc (decS X.data.toList).data.toList) = X ∧ (decS X.data.toList = s ↔ X = ba (Tk.enc s.data.toList))) := by
  constructor
  · rintro h rfl
    rw [ba_list, (dec_at_some rfl).2] at h
    cases h
  · intro h
    unfold decB at h
    unfold decS
    cases hd : Tk.dec X.data.toList with
    | none => rw [hd] at h; cases h
    | some x =>
      have he := Tk.dec_some.1 hd
      show ba (Tk.enc (ba x).data.toList) = X ∧ (ba x = s ↔ _)
      rw [ba_list, he, ba_back]
      refine ⟨rfl, ?_, ?_⟩
      · rintro rfl
        rw [ba_list, he, ba_back]
      · intro h2
        have h3 : X.data.toList = Tk.enc s.data.toList := by rw [h2, ba_list]
        rw [h3] at he
        rw [Tk.enc_inj he, ba_back]
theorem dec_size (X : ByteArray) : (decS X.data.toList).size ≤ X.size := by
  unfold decS
  rw [ba_size]
  cases h : Tk.dec X.data.toList with
  | none => simp
  | some x =>
    have := congrArg List.length (Tk.dec_some.1 h)
    rw [Tk.enc_length] at this
    have hl : X.data.toList.length = X.size := by simp
    simp only [Option.getD_some]
    omega
theorem place (q : Int) (n : Nat) (hn : n ≤ 1000) : ∃ (t : Int) (K : Nat), q.tmod ((n : Int) + 1) = t ∧ -1001 ≤ t ∧ t ≤ 1000 ∧ K ≤ n ∧ (t + (n : Int) + 1).tmod ((n : Int) + 1) = (K : Int) := by
  have h1 := Int.tmod_lt_of_pos q (show (0 : Int) < (n : Int) + 1 by omega)
  have h2 : -((n : Int) + 1) < q.tmod ((n : Int) + 1) := by
    have := Int.tmod_lt_of_pos (-q) (show (0 : Int) < (n : Int) + 1 by omega)
    rw [Int.neg_tmod] at this
    omega
  generalize q.tmod ((n : Int) + 1) = t at h1 h2
  have h5 := Int.tmod_lt_of_pos (t + (n : Int) + 1) (show (0 : Int) < (n : Int) + 1 by omega)
  have h4 : 0 ≤ (t + (n : Int) + 1).tmod ((n : Int) + 1) := Int.tmod_nonneg _ (by omega)
  exact ⟨t, ((t + (n : Int) + 1).tmod ((n : Int) + 1)).toNat, rfl, by omega, by omega, by omega, by omega⟩
set_option maxRecDepth 100000 in
set_option maxHeartbeats 4000000 in
theorem walk (s0 : ByteArray) (a q0 q1 : Int) (hs0 : s0.size ≤ maxLen) (_ha : -9223372036854775808 ≤ a ∧ a ≤ 9223372036854775807) (w : World) :
    Calls Try.prog 4 #[.string s0, .int .i64 a, .agg #[.int .i64 q0, .int .i64 q1]] w fun e w' => e = .returned (.bool true) ∧ Below w.heap.size w w' := by
  have hcs := cut_size s0 40
  have HSs := Lib.hid (fun W => short_any s0 40 hs0 W)
  generalize cut s0 40 = s at hcs HSs
  have HE := Lib.hid (fun W => encode_any s (by omega) W)
  have hdz : (ba (Tk.enc s.data.toList)).size ≤ 64 := by
    have hsl : s.data.toList.length = s.size := by simp
    rw [ba_size, Tk.enc_length]; omega
  obtain ⟨d, hd⟩ : ∃ d, d = ba (Tk.enc s.data.toList) := ⟨_, rfl⟩
  rw [← hd] at HE hdz
  have HDD := Lib.hid hd
  obtain ⟨t, K, e1, t1, t2, hK, e2⟩ := place a d.size (by omega)
  obtain ⟨x, hx⟩ : ∃ x : UInt8, IntKind.u8.wrap q0 = (x.toNat : Int) := ⟨UInt8.ofNat (q0 % 256).toNat, by rw [IntKind.wrap_u8, UInt8.toNat_ofNat']; omega⟩
  clear hd hs0
  go_enter Try.func4, Try.ntmps4
  go_wp2_with fail
  refine (awake_any _).mono ?_
  rintro e w1 ⟨rfl, hb1⟩
  have HB1 := Lib.hid (((Below.refl w.heap.size w).alloc (Nat.le_refl _) (.cells #[.int .i64 q0, .int .i64 q1] 28)).trans (hb1.mono (by simp)))
  have HQ1 := Lib.hid ((Blk.new w 28 #[.int .i64 q0, .int .i64 q1]).of (hb1.block _ (by simp)))
  clear hb1
  go_wp2_with fail
  refine (HSs.out _).mono ?_
  rintro e w2 ⟨rfl, rfl⟩
  go_wp2_with fail
  refine (HE.out _).mono ?_
  rintro e w2 ⟨rfl, hb⟩
  have HB2 := Lib.hid (HB1.out.trans (hb.mono HB1.out.size))
  have HQ2 := Lib.hid (HQ1.out.of (hb.block _ HQ1.out.lt))
  clear hb
  have c0 := HQ2.out.cell 0
  have hcv := run_one (w2.alloc (.cells #[.int .u8 (x.toNat : Int)] 5)) w2.heap.size (x.toNat : Int) x rfl (by simp)
  simp only [List.getElem?_toArray, List.getElem?_cons_zero] at c0
  go_wp2_with fail
  have c1 := (HQ2.out.alloc (.cells #[.int .u8 (x.toNat : Int)] 5)).cell 1
  simp only [List.getElem?_toArray, List.getElem?_cons_zero, List.getElem?_cons_succ] at c1
  have HB3 := Lib.hid (HB2.out.alloc HB2.out.size (.cells #[.int .u8 (x.toNat : Int)] 5))
  generalize hW3 : w2.alloc _ = W3 at c1 HB3 ⊢
  clear hW3 c0 hcv
  have hdl : d.data.toList.length = d.size := by simp
  have hP1 := run_upto d K hK
  have hP3 := run_from d (K : Int) K rfl hK
  have z1 : (ba (d.data.toList.take K)).size ≤ 64 := by rw [ba_size, List.length_take]; omega
  have z3 : (ba (d.data.toList.drop K)).size ≤ 64 := by rw [ba_size, List.length_drop]; omega
  have zc : (ba [x]).size ≤ 1 := by rw [ba_size]; simp
  generalize ba (d.data.toList.take K) = P1 at hP1 z1
  generalize ba (d.data.toList.drop K) = P3 at hP3 z3
  generalize ba [x] = C at zc ⊢
  clear hdl
  have hXs : (P1 ++ C ++ P3).size ≤ 129 := by rw [ByteArray.size_append, ByteArray.size_append]; omega
  obtain ⟨v, hv⟩ : ∃ v, bits BinOp.and IntKind.i64 q1 1 = v := ⟨_, rfl⟩
  go_quiet (fail)
  generalize P1 ++ C ++ P3 = X at hXs ⊢
  have HB4 : Hid (Below w.heap.size w (W3.drewN nq)) := Lib.hid (below_drewN HB3.out _)
  have c1' : (W3.drewN nq).cell? ⟨w.heap.size, 1, none⟩ = some (.int .i64 q1) := c1
  generalize W3.drewN nq = W4 at HB4 c1' ⊢
  clear c1 hP3
  by_cases hv1 : v = 1
  · subst hv1
    by_cases hKl : K < d.size
    · have hki : (K : Int) < (d.size : Int) := by omega
      have hP4 := run_from d ((K : Int) + 1) (K + 1) (by omega) hKl
      have z4 : (ba (d.data.toList.drop (K + 1))).size ≤ 64 := by
        have hdl : d.data.toList.length = d.size := by simp
        rw [ba_size, List.length_drop]; omega
      generalize ba (d.data.toList.drop (K + 1)) = P4 at hP4 z4
      clear hXs
      have hXs : (P1 ++ C ++ P4).size ≤ 129 := by rw [ByteArray.size_append, ByteArray.size_append]; omega
      go_wp2_with fail
      go_quiet (fail)
      generalize P1 ++ C ++ P4 = X at hXs ⊢
      have HB5 : Hid (Below w.heap.size w (W4.drewN nq)) := Lib.hid (below_drewN HB4.out _)
      generalize W4.drewN nq = W5 at HB5 ⊢
      clear c1' hP4 hP1 z4 z1 z3 zc
      have hf := dec_facts s X
      rw [← HDD.out] at hf
      have HDC := Lib.hid (fun W => decode_any X (by omega) W)
      have hDs := dec_size X
      generalize decS X.data.toList = D at hf HDC hDs
      generalize decB X.data.toList = ok at hf HDC
      have hDz : D.size ≤ 1000000 := by omega
      have HF := Lib.hid hf
      clear hf hDs
      go_wp2_with fail
      refine (HDC.out _).mono ?_
      rintro e w6 ⟨rfl, hb⟩
      have HB6 := Lib.hid (HB5.out.trans (hb.mono HB5.out.size))
      clear hb HDC
      cases ok with
      | false =>
        have hne := str_ne (HF.out.1 rfl)
        go_wp2_with fail
        go_ret
        exact ⟨rfl, HB6.out⟩
      | true =>
        have h2 := HF.out.2 rfl
        have hE := encode_any D hDz w6
        rw [h2.1] at hE
        have HE6 := Lib.hid hE
        have hself : (X.toList == X.toList) = true := by simp
        clear hE
        by_cases hq : D = s
        · have q1' : (D.toList == s.toList) = true := by rw [str_beq]; exact decide_eq_true hq
          have q2' : (X.toList == d.toList) = true := by rw [str_beq]; exact decide_eq_true (h2.2.1 hq)
          clear hq h2
          go_wp2_with fail
          refine HE6.out.mono ?_
          rintro e w7 ⟨rfl, hb⟩
          have HB7 := Lib.hid (HB6.out.trans (hb.mono HB6.out.size))
          clear hb
          go_wp2_with fail
          go_ret
          exact ⟨rfl, HB7.out⟩
        · have q1' : (D.toList == s.toList) = false := str_ne hq
          have q2' : (X.toList == d.toList) = false := str_ne (fun h => hq (h2.2.2 h))
          clear hq h2
          go_wp2_with fail
          refine HE6.out.mono ?_
          rintro e w7 ⟨rfl, hb⟩
          have HB7 := Lib.hid (HB6.out.trans (hb.mono HB6.out.size))
          clear hb
          go_wp2_with fail
          go_ret
          exact ⟨rfl, HB7.out⟩
    · have hki : ¬ (K : Int) < (d.size : Int) := by omega
      have HB5 := HB4
      clear hP1 z1 z3 zc
      have hf := dec_facts s X
      rw [← HDD.out] at hf
      have HDC := Lib.hid (fun W => decode_any X (by omega) W)
      have hDs := dec_size X
      generalize decS X.data.toList = D at hf HDC hDs
      generalize decB X.data.toList = ok at hf HDC
      have hDz : D.size ≤ 1000000 := by omega
      have HF := Lib.hid hf
      clear hf hDs
      go_wp2_with fail
      refine (HDC.out _).mono ?_
      rintro e w6 ⟨rfl, hb⟩
      have HB6 := Lib.hid (HB5.out.trans (hb.mono HB5.out.size))
      clear hb HDC
      cases ok with
      | false =>
        have hne := str_ne (HF.out.1 rfl)
        go_wp2_with fail
        go_ret
        exact ⟨rfl, HB6.out⟩
      | true =>
        have h2 := HF.out.2 rfl
        have hE := encode_any D hDz w6
        rw [h2.1] at hE
        have HE6 := Lib.hid hE
        have hself : (X.toList == X.toList) = true := by simp
        clear hE
        by_cases hq : D = s
        · have q1' : (D.toList == s.toList) = true := by rw [str_beq]; exact decide_eq_true hq
          have q2' : (X.toList == d.toList) = true := by rw [str_beq]; exact decide_eq_true (h2.2.1 hq)
          clear hq h2
          go_wp2_with fail
          refine HE6.out.mono ?_
          rintro e w7 ⟨rfl, hb⟩
          have HB7 := Lib.hid (HB6.out.trans (hb.mono HB6.out.size))
          clear hb
          go_wp2_with fail
          go_ret
          exact ⟨rfl, HB7.out⟩
        · have q1' : (D.toList == s.toList) = false := str_ne hq
          have q2' : (X.toList == d.toList) = false := str_ne (fun h => hq (h2.2.2 h))
          clear hq h2
          go_wp2_with fail
          refine HE6.out.mono ?_
          rintro e w7 ⟨rfl, hb⟩
          have HB7 := Lib.hid (HB6.out.trans (hb.mono HB6.out.size))
          clear hb
          go_wp2_with fail
          go_ret
          exact ⟨rfl, HB7.out⟩
  · have hv2 : (v == 1) = false := beq_eq_false_iff_ne.2 hv1
    have HB5 := HB4
    clear hP1 z1 z3 zc
    have hf := dec_facts s X
    rw [← HDD.out] at hf
    have HDC := Lib.hid (fun W => decode_any X (by omega) W)
    have hDs := dec_size X
    generalize decS X.data.toList = D at hf HDC hDs
    generalize decB X.data.toList = ok at hf HDC
    have hDz : D.size ≤ 1000000 := by omega
    have HF := Lib.hid hf
    clear hf hDs
    go_wp2_with fail
    refine (HDC.out _).mono ?_
    rintro e w6 ⟨rfl, hb⟩
    have HB6 := Lib.hid (HB5.out.trans (hb.mono HB5.out.size))
    clear hb HDC
    cases ok with
    | false =>
      have hne := str_ne (HF.out.1 rfl)
      go_wp2_with fail
      go_ret
      exact ⟨rfl, HB6.out⟩
    | true =>
      have h2 := HF.out.2 rfl
      have hE := encode_any D hDz w6
      rw [h2.1] at hE
      have HE6 := Lib.hid hE
      have hself : (X.toList == X.toList) = true := by simp
      clear hE
      by_cases hq : D = s
      · have q1' : (D.toList == s.toList) = true := by rw [str_beq]; exact decide_eq_true hq
        have q2' : (X.toList == d.toList) = true := by rw [str_beq]; exact decide_eq_true (h2.2.1 hq)
        clear hq h2
        go_wp2_with fail
        refine HE6.out.mono ?_
        rintro e w7 ⟨rfl, hb⟩
        have HB7 := Lib.hid (HB6.out.trans (hb.mono HB6.out.size))
        clear hb
        go_wp2_with fail
        go_ret
        exact ⟨rfl, HB7.out⟩
      · have q1' : (D.toList == s.toList) = false := str_ne hq
        have q2' : (X.toList == d.toList) = false := str_ne (fun h => hq (h2.2.2 h))
        clear hq h2
        go_wp2_with fail
        refine HE6.out.mono ?_
        rintro e w7 ⟨rfl, hb⟩
        have HB7 := Lib.hid (HB6.out.trans (hb.mono HB6.out.size))
        clear hb
        go_wp2_with fail
        go_ret
        exact ⟨rfl, HB7.out⟩

/-! ### The row -/
theorem contract (H : Type) (enc : TypeId × Value → H) (W : World) (base : Nat) (args : Array Value) (ds gs : List (DataW H)) (before : List MemPlace)
    (hval : ∀ (j : Nat) t v, Try.f4.params[j]? = some t → args[j]? = some v → Value.okWide Try.prog W .any base t v)
    (hW : DataW.Whole enc Try.prog Try.f4.params.toList Rows.tokenOnceSpec.vars false W args.toList ds gs before) :
    Calls Try.prog 4 args W fun e W' => ∃ v, e = .returned v ∧ Rows.tokenOnceSpec.post enc Try.prog Try.f4 false true false false W args v W' := by
  have hW' := hW
  obtain ⟨p, q, hA0, hV, rfl, hfz, hnd⟩ := hW
  have hA : DataW.TrodAll enc Try.prog W 0 (fun _ => true) true Try.f4.params.toList args.toList ds p := hA0
  rw [Try.params4] at hA hval
  obtain ⟨v0, vs0, d0, ds0, p0, q0, hargs, rfl, rfl, h0, r0⟩ := trodAll_cons hA
  obtain ⟨v1, vs1, d1, ds1, p1, q1, rfl, rfl, rfl, h1, r1⟩ := trodAll_cons r0
  obtain ⟨v2, vs2, d2, ds2, p2, q2, rfl, rfl, rfl, h2, r2⟩ := trodAll_cons r1
  obtain ⟨rfl, rfl, rfl⟩ := trodAll_nil r2
  obtain rfl : args = #[v0, v1, v2] := by cases args; simp_all
  obtain ⟨rfl, rfl⟩ := trodVars_none hV
  refine law_contract (tb := 4) laidOut (by kernel_rfl) rfl (by kernel_rfl) Try.underlying4 rfl hW' ?_
  clear hA0 hW' hA
  obtain ⟨a0, rfl, _, _, w0⟩ := open_string Try.underlying9 (hval 0 9 v0 rfl rfl) h0
  obtain ⟨a1, rfl, rfl, rfl, w1⟩ := open_int Try.underlying3 (hval 1 3 v1 rfl rfl) h1
  obtain ⟨zs, rfl, hz, _⟩ := open_array Try.underlying28 Try.underlying3 cellsInt (by kernel_rfl) (hval 2 28 v2 rfl rfl) h2
  match zs, hz with
  | [z0, z1], _ =>
    exact walk a0 a1 z0 z1 w0 (bounds_int w1) W

set_option maxRecDepth 100000 in
theorem lifted (os : Os) (started : os.Started) (H : Type) (enc : TypeId × Value → H) :
    ReturnsInHanded {} Try.checked os 4 .any (Rows.tokenOnceSpec.pre6 enc Try.prog Try.f4 Rows.tokenOnceRow.domain false) (Rows.tokenOnceSpec.post enc Try.prog Try.f4 false true false false) := by
  refine returnsInHanded_of_change (C := Try.checked) own started (by kernel_rfl) Try.func4
    (ChangeSpec.witness6 (enc := enc) (C := Try.checked) false ⟨#[], #[.string ⟨#[]⟩, .int .i64 0, .agg #[.int .i64 0, .int .i64 0]], []⟩ 8 (by kernel_rfl) (by kernel_rfl) (by kernel_rfl) (by kernel_rfl)) ?_
  intro W base args ds gs before hval hW _ _
  exact contract H enc W base args ds gs before hval hW

/-- THE STATEMENT. -/
theorem said : Rows.TokenOnceSaid :=
  OpenClaim.holds_of_wide 4 Try.f4 rfl rfl rfl rfl rfl rfl rfl ⟨rfl, rfl, rfl, rfl, rfl⟩ rfl rfl rfl rfl rfl (by kernel_rfl) Try.func4 (by kernel_rfl)
    (of_decide_eq_true (by kernel_rfl)) (by unfold Func.isWrapper; first | (rw [if_pos (by decide +kernel)]; kernel_rfl) | (rw [if_neg (by decide +kernel)]; exact ⟨rfl, rfl⟩))
    (fun os started H enc _ => lifted os started H enc)
#print axioms said
end Go.Proofs.Ytcijkfnhjajfbaa.tokenOnce
