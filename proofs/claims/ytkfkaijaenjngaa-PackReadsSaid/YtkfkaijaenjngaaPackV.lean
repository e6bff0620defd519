/-
  Contracts of the document's own reader of layer 3 (package homecomingref03): Num, Text, Row. Condition: the reader lies in memory as its calls lay it.
-/
import Derived.Test.YtkfkaijaenjngaaPackU
namespace Go.Proofs.Ytkfkaijaenjngaa
open Go.RowKit

section
variable {w : World} {d : Nat} {st : Option ByteArray}
theorem refnumr_any (h : RdAt 47 w d st) (most : Nat) (hm : most ≤ 18446744073709551615) :
    Calls Try.prog 26 #[.pointer (some ⟨d, 0, none⟩), .int .u64 (most : Int)] w fun e w' => e = .returned (.int .u64 ((rNum most st).1 : Int)) ∧ RdAt 47 w' d (rNum most st).2 ∧ Kept (· = d) w w' := by
  cases st with
  | none =>
    refine (refnumr_raw w d most ⟨#[]⟩ (.bool true) h.blk (by decide) hm).mono ?_
    rintro e w' (⟨_, rfl, h1, h2⟩ | ⟨v, r, hd, _⟩)
    · exact ⟨rfl, h1, h2⟩
    · cases hd
  | some s =>
    have hs := h.le s rfl
    rw [rNum_some]
    refine (refnumr_raw w d most s (.bool false) h.blk hs hm).mono ?_
    rintro e w' (⟨hd, rfl, h1, h2⟩ | ⟨v, r, hd, rfl, h1, h2⟩)
    · rw [hd]
      exact ⟨rfl, h1, h2⟩
    · rw [hd]
      refine ⟨rfl, ⟨h1, fun x hx => ?_⟩, h2⟩
      injection hx with hx
      subst hx
      have h3 := Pk.dec_rest hd
      have e : s.data.toList.length = s.size := by simp
      rw [ba_size]
      omega
/-- How Text follows Num. -/
theorem rText_num (most : Nat) (s : ByteArray) : rText (most : Int) (some s) = match rNum most (some s) with
    | (n, some r) => if n ≤ r.size then (r.extract 0 n, some (r.extract n r.size)) else (⟨#[]⟩, none)
    | (_, none) => (⟨#[]⟩, none) := by
  rw [rText_count, rCount_some _ _ (by omega), show (most : Int).toNat = most from rfl]
  cases rNum most (some s) with
  | mk n st1 =>
    cases st1 with
    | none => rfl
    | some r =>
      simp only
      by_cases hn : n ≤ r.size
      · rw [if_pos hn, if_pos hn]
      · rw [if_neg hn, if_neg hn]
theorem wrap_neg (most : Int) (h0 : -9223372036854775808 ≤ most) (h : most < 0) : IntKind.u64.wrap most = ((most + 18446744073709551616).toNat : Int) := by
  rw [IntKind.wrap_u64]
  omega

theorem reftextr_any (h : RdAt 47 w d st) (most : Int) (hm0 : -9223372036854775808 ≤ most) (hm : most ≤ 9223372036854775807) :
    Calls Try.prog 21 #[.pointer (some ⟨d, 0, none⟩), .int .i64 most] w fun e w' => e = .returned (.string (rText most st).1) ∧ RdAt 47 w' d (rText most st).2 ∧ Kept (· = d) w w' := by
  by_cases hneg : most < 0
  · obtain ⟨x, y, hxy⟩ := rd_form st
    have hb := h.blk
    rw [hxy] at hb
    have HF := Lib.hid (reffail_any hb)
    have HN := Lib.hid (fun (W : World) (hW : RdAt 47 W d none) => refnumr_any hW (most + 18446744073709551616).toNat (by omega))
    rw [← wrap_neg most hm0 hneg] at HN
    have HT : Hid (rText most st = (⟨#[]⟩, none)) := Lib.hid (by
      cases st with
      | none => rfl
      | some s =>
        rw [rText_eq]
        unfold Pk.rtext
        rw [if_pos hneg])
    clear h hb hxy
    go_enter Try.func21, Try.ntmps21
    go_wp2_with fail
    refine HF.out.mono ?_
    rintro e w1 ⟨rfl, h1, hk1⟩
    have HC := Lib.hid (HN.out w1 h1)
    have HK1 := Lib.hid hk1
    clear HF HN h1 hk1
    go_wp2_with fail
    refine HC.out.mono ?_
    rintro e w2 ⟨rfl, h2, hk2⟩
    have h2' : RdAt 47 w2 d none := h2
    have HK2 : Hid (Kept (· = d) w w2) := Lib.hid (HK1.out.trans hk2 (fun x hx => .inl hx))
    have c1 := h2'.blk.cell 1
    have HF := Lib.hid (reffail_any h2'.blk)
    simp only [rd, List.getElem?_toArray, List.getElem?_cons_zero, List.getElem?_cons_succ] at c1
    rw [show rNum (most + 18446744073709551616).toNat none = (0, none) from rfl]
    clear HC HK1 h2 hk2 h2'
    go_wp2_with fail
    refine HF.out.mono ?_
    rintro e w3 ⟨rfl, h3, hk3⟩
    go_wp2_with fail
    go_ret
    rw [HT.out]
    exact ⟨rfl, h3, HK2.out.trans hk3 (fun x hx => .inl hx)⟩
  · obtain ⟨m, rfl⟩ : ∃ m : Nat, most = (m : Int) := ⟨most.toNat, by omega⟩
    have HN := Lib.hid (refnumr_any h m (by omega))
    have HE : Hid (rText (m : Int) st = match rNum m st with
      | (n, some r) => if n ≤ r.size then (r.extract 0 n, some (r.extract n r.size)) else (⟨#[]⟩, none)
      | (_, none) => (⟨#[]⟩, none)) := Lib.hid (by
        cases st with
        | none => rfl
        | some s => exact rText_num m s)
    have HLe := Lib.hid (rNum_le m st)
    clear h
    generalize rNum m st = p at *
    obtain ⟨n, st1⟩ := p
    have hnm : n ≤ m := HLe.out
    go_enter Try.func21, Try.ntmps21
    go_wp2_with fail
    refine HN.out.mono ?_
    rintro e w1 ⟨rfl, h1, hk1⟩
    have HK1 := Lib.hid hk1
    have c0 := h1.blk.cell 0
    have c1 := h1.blk.cell 1
    have f0 := h1.blk.frozen 0
    clear HN hk1 HLe
    cases st1 with
    | none =>
      have HF := Lib.hid (reffail_any h1.blk)
      simp only [rd, List.getElem?_toArray, List.getElem?_cons_zero, List.getElem?_cons_succ] at c0 c1
      clear h1
      go_wp2_with fail
      refine HF.out.mono ?_
      rintro e w2 ⟨rfl, h2, hk2⟩
      go_wp2_with fail
      go_ret
      rw [HE.out]
      exact ⟨rfl, h2, HK1.out.trans hk2 (fun x hx => .inl hx)⟩
    | some r =>
      have hr := h1.le r rfl
      have HF := Lib.hid (reffail_any h1.blk)
      have HH := Lib.hid h1
      simp only [rd, List.getElem?_toArray, List.getElem?_cons_zero, List.getElem?_cons_succ] at c0 c1
      clear h1
      by_cases hn : n ≤ r.size
      · have HE2 := Lib.hid (show rText (m : Int) st = (r.extract 0 n, some (r.extract n r.size)) by rw [HE.out]; simp only; rw [if_pos hn])
        have hnr : decide (r.size < n) = false := decide_eq_false (by omega)
        clear HF
        go_wp2_with fail
        go_ret
        rw [HE2.out]
        exact ⟨rfl, ⟨HH.out.blk.set_ 0 _, fun x hx => by injection hx with hx; subst hx; simp; omega⟩, HK1.out.setCell (p := ⟨d, 0, none⟩) (.inl rfl) _⟩
      · have HE2 := Lib.hid (show rText (m : Int) st = (⟨#[]⟩, none) by rw [HE.out]; simp only; rw [if_neg hn])
        go_wp2_with fail
        refine HF.out.mono ?_
        rintro e w2 ⟨rfl, h2, hk2⟩
        go_wp2_with fail
        go_ret
        rw [HE2.out]
        exact ⟨rfl, h2, HK1.out.trans hk2 (fun x hx => .inl hx)⟩

/-- How Row follows Num. -/
theorem rRow_num (many : Nat) (most : Int) (s : ByteArray) : rRow (many : Int) most (some s) = match rNum many (some s) with
    | (n, some r) => rowOf most n r
    | (_, none) => ([], none) := by
  rw [rNum_some]
  unfold rRow Pk.rrow
  simp only
  rw [if_neg (by omega), show (many : Int).toNat = many from rfl]
  cases Pk.dec many 0 0 s.data.toList with
  | none => rfl
  | some p =>
    obtain ⟨v, r⟩ := p
    simp only [rowOf, ba_list]
    cases Pk.rtexts most v r with
    | none => rfl
    | some p => rfl

/-- Where the loop of Row stands. -/
def RefRow (w : World) (d n : Nat) (most : Int) (r : ByteArray) (x y : Value) (wr : World) : Prop :=
  ∃ j : Nat, y = .int .u64 (j : Int) ∧ j ≤ n ∧
    ((∃ (q : ByteArray) (xs : List (List UInt8)) (A : Option Addr) (c : Nat), x = .slice A j c ∧ xs.length = j ∧ j + q.size ≤ r.size ∧
      wr.ownsRow w.heap.size 9 1 (.slice A j c) j (cs (xs.map ba)) ∧ RdAt 47 wr d (some q) ∧ Kept (· = d) w wr ∧
      Pk.rtexts most n r.data.toList = match Pk.rtexts most (n - j) q.data.toList with
        | some (ts, q') => some (xs ++ ts, q')
        | none => none) ∨
    (RdAt 47 wr d none ∧ Kept (· = d) w wr ∧ rowOf most n r = ([], none)))

set_option maxRecDepth 100000 in
theorem refrowr_nat (h : RdAt 47 w d st) (many : Nat) (most : Int) (hn : many ≤ 9223372036854775807) (hm0 : -9223372036854775808 ≤ most) (hm : most ≤ 9223372036854775807) :
    Calls Try.prog 24 #[.pointer (some ⟨d, 0, none⟩), .int .i64 (many : Int), .int .i64 most] w fun e w' =>
      ∃ A c, e = .returned (.slice A (rRow (many : Int) most st).1.length c) ∧ w'.ownsRow w.heap.size 9 1 (.slice A (rRow (many : Int) most st).1.length c) (rRow (many : Int) most st).1.length (cs (rRow (many : Int) most st).1) ∧ RdAt 47 w' d (rRow (many : Int) most st).2 ∧ Kept (· = d) w w' := by
  have HN := Lib.hid (refnumr_any h many (by omega))
  have HE : Hid (rRow (many : Int) most st = match rNum many st with
    | (n, some r) => rowOf most n r
    | (_, none) => ([], none)) := Lib.hid (by
      cases st with
      | none => rfl
      | some s => exact rRow_num many most s)
  have HZr : Hid ((rNum many st).2 = none → (rNum many st).1 = 0) := Lib.hid (by
    cases st with
    | none => intro _; rfl
    | some s =>
      rw [rNum_some]
      cases Pk.dec many 0 0 s.data.toList with
      | none => intro _; rfl
      | some p => intro h; cases h)
  have HLe := Lib.hid (rNum_le many st)
  have hd := h.blk.lt
  clear h
  generalize rNum many st = p at *
  obtain ⟨n, st1⟩ := p
  have hnm : n ≤ many := HLe.out
  obtain ⟨i0, hi0, hz0, hz1, hz2⟩ := info_str
  have HI := Lib.hid hi0
  have HZ := Lib.hid hz0
  have HZ1 := Lib.hid hz1
  have HZ2 := Lib.hid hz2
  clear hi0 hz0 hz1 hz2 HLe
  go_enter Try.func24, Try.ntmps24
  go_wp2_with fail
  refine HN.out.mono ?_
  rintro e w1 ⟨rfl, h1, hk1⟩
  clear HN
  cases st1 with
  | none =>
    have hn0 : n = 0 := HZr.out rfl
    subst hn0
    have HE2 := Lib.hid (show rRow (many : Int) most st = ([], none) from HE.out)
    have HH := Lib.hid h1
    have HK := Lib.hid hk1
    have c1 := h1.blk.cell 1
    simp only [rd, List.getElem?_toArray, List.getElem?_cons_zero, List.getElem?_cons_succ] at c1
    clear h1 hk1 HE HZr
    go_wp2_with fail
    go_loopw [8, 9] (fun x y wr => x = .slice none 0 0 ∧ y = .int .u64 0 ∧ wr = w1) (fun _ _ _ => 0)
    case atStart => exact ⟨rfl, rfl, rfl⟩
    case round =>
      obtain ⟨rfl, rfl, rfl⟩ := hrel
      go_wp2_with fail
      go_ret
      rw [HE2.out]
      exact ⟨none, 0, rfl, World.ownsRow_nil _ _ _ _, HH.out, HK.out⟩
  | some r =>
    have hr := h1.le r rfl
    have HE2 := Lib.hid (show rRow (many : Int) most st = rowOf most n r from HE.out)
    have HS : Hid (RefRow w d n most r (.slice none 0 0) (.int .u64 0) w1) := Lib.hid ⟨0, rfl, by omega, .inl ⟨r, [], none, 0, rfl, rfl, by omega, World.ownsRow_nil _ _ _ _, h1, hk1, by
      rw [Nat.sub_zero]
      cases Pk.rtexts most n r.data.toList with
      | none => rfl
      | some p => rfl⟩⟩
    clear h1 hk1 HE HZr
    go_wp2_with fail
    go_loopw [8, 9] (RefRow w d n most r) (fun _ i _ => n - (intOf i).toNat)
    case atStart => exact HS.out
    case round =>
      clear HS
      obtain ⟨j, rfl, hj, hcase⟩ := hrel
      rcases hcase with ⟨q, xs, A, c, rfl, hxl, hjq, hown, hrd, hk, hrt⟩ | ⟨hrd, hk, hro⟩
      · have hzk := hk.size
        have HO := Lib.hid hown
        have HK := Lib.hid hk
        have HRT := Lib.hid hrt
        have HXL := Lib.hid hxl
        have c1 := hrd.blk.cell 1
        simp only [rd, List.getElem?_toArray, List.getElem?_cons_zero, List.getElem?_cons_succ] at c1
        by_cases hlt : j < n
        · have HT := Lib.hid (reftextr_any hrd most hm0 hm)
          clear hown hk hrt hxl hrd
          go_wp2_with fail
          refine HT.out.mono ?_
          rintro e w2 ⟨rfl, hr2, hk2⟩
          rw [rText_eq] at hr2 ⊢
          have HK2 : Hid (Kept (· = d) w w2) := Lib.hid (HK.out.trans hk2 (fun x hx => .inl hx))
          have hne : ∀ b, (Value.slice A j c).ownBlock = some b → ¬ b = d := fun b hb hbd => by
            have := own_base HO.out hb
            omega
          have HO2 : Hid (w2.ownsRow w.heap.size 9 1 (.slice A j c) j (cs (xs.map ba))) := Lib.hid (own_of HO.out (fun b hb => hk2.block b (own_lt HO.out hb) (hne b hb)))
          have hz2 := hk2.size
          clear HT hk2 HO HK hne
          cases hq : Pk.rtext most q.data.toList with
          | none =>
            rw [hq] at hr2
            have hb := rowOf_bad hlt HRT.out hq
            have HRo := Lib.hid hb
            have HH := Lib.hid hr2
            clear hr2 HRT hq hb
            simp only
            generalize hX : (⟨#[]⟩ : ByteArray) = X
            clear hX
            have hblk0 := Blk.new w2 9 #[.string X]
            have hown0 : (w2.alloc (.cells #[.string X] 9)).ownsRow w.heap.size 9 1 (.slice A j c) j (cs (xs.map ba)) := own_of HO2.out (fun b e => Below.heap_alloc _ _ _ (own_lt HO2.out e))
            go_wp2_with
              (at_builtin
               refine wpList_append_lies _ rfl (.tmp 30) (.tmp 34) 23 rfl w.heap.size 9 i0 _ 1 16 Try.underlying23 HI.out HZ.out HZ1.out HZ2.out rfl (by decide) (.slice A j c) j _ rfl hown0 ⟨w2.heap.size, 0, none⟩ 1 1 [.string X] rfl rfl (World.news_of_block hblk0) (by intro u hu; simp at hu; subst hu; rfl) (by omega) (by unfold maxLen; omega) (by omega) (by simp; omega) (w2.heap.size + 1) (by simp) ?_
               intro g cap w4 hown1 hgrow hat hlt1
               have hk4 : Kept (fun k => (Value.slice A j c).ownBlock = some k) w2 w4 := ((Kept.refl _ w2).alloc _).grown hgrow (fun x hx => .inl hx)
               have HK4 : Hid (Kept (· = d) w w4) := Lib.hid (HK2.out.trans hk4 (fun k hk => .inr (own_base HO2.out hk)))
               have HH4 := Lib.hid (HH.out.kept hk4 (fun hf => by have := own_base HO2.out hf; omega))
               clear hown1 hgrow hat hown0 hblk0 hk4)
            go_roundw
            case rel => exact ⟨j + 1, by go_num, by omega, .inr ⟨HH4.out, HK4.out, HRo.out⟩⟩
            case measure => simp [intOf]; omega
          | some p =>
            obtain ⟨x, q2⟩ := p
            rw [hq] at hr2
            have HRT2 := Lib.hid (rtexts_on hlt HRT.out hq)
            have hq2 : q2.length < q.size := by
              obtain ⟨hl, _, _⟩ := Pk.rtext_some hq
              have h1 := Pk.num_pos x.length
              have h2 := congrArg List.length hl
              have h3 : (Pk.text x ++ q2).length = (Pk.num x.length).length + x.length + q2.length := by simp [Pk.text]; omega
              have h4 : q.data.toList.length = q.size := by simp
              omega
            have HH := Lib.hid hr2
            clear hr2 HRT hq
            simp only
            generalize hbx : ba x = X
            have HBX := Lib.hid hbx
            clear hbx
            have hblk0 := Blk.new w2 9 #[.string X]
            have hown0 : (w2.alloc (.cells #[.string X] 9)).ownsRow w.heap.size 9 1 (.slice A j c) j (cs (xs.map ba)) := own_of HO2.out (fun b e => Below.heap_alloc _ _ _ (own_lt HO2.out e))
            go_wp2_with
              (at_builtin
               refine wpList_append_lies _ rfl (.tmp 30) (.tmp 34) 23 rfl w.heap.size 9 i0 _ 1 16 Try.underlying23 HI.out HZ.out HZ1.out HZ2.out rfl (by decide) (.slice A j c) j _ rfl hown0 ⟨w2.heap.size, 0, none⟩ 1 1 [.string X] rfl rfl (World.news_of_block hblk0) (by intro u hu; simp at hu; subst hu; rfl) (by omega) (by unfold maxLen; omega) (by omega) (by simp; omega) (w2.heap.size + 1) (by simp) ?_
               intro g cap w4 hown1 hgrow hat hlt1
               have hk4 : Kept (fun k => (Value.slice A j c).ownBlock = some k) w2 w4 := ((Kept.refl _ w2).alloc _).grown hgrow (fun x hx => .inl hx)
               have HK4 : Hid (Kept (· = d) w w4) := Lib.hid (HK2.out.trans hk4 (fun k hk => .inr (own_base HO2.out hk)))
               have HH4 := Lib.hid (HH.out.kept hk4 (fun hf => by have := own_base HO2.out hf; omega))
               have HO4 := Lib.hid hown1
               clear hown1 hgrow hat hown0 hblk0 hk4)
            go_roundw
            case rel =>
              refine ⟨j + 1, by go_num, by omega, .inl ⟨ba q2, xs ++ [x], _, _, rfl, by have := HXL.out; simp; omega, by rw [ba_size]; omega, ?_, HH4.out, HK4.out, HRT2.out⟩⟩
              have e : cs ((xs ++ [x]).map ba) = cs (xs.map ba) ++ [.string X] := by simp [cs, HBX.out]
              rw [e]
              exact HO4.out
            case measure => simp [intOf]; omega
        · obtain rfl : j = n := by omega
          have HRo := Lib.hid (show rRow (many : Int) most st = (xs.map ba, some q) by
            rw [HE2.out]
            unfold rowOf
            rw [HRT.out, Nat.sub_self]
            simp only [Pk.rtexts, List.append_nil, ba_back])
          have HH := Lib.hid hrd
          clear hown hk hrt hxl hrd HE2 HRT
          go_wp2_with fail
          go_ret
          rw [HRo.out]
          have hl : (xs.map ba).length = j := by rw [List.length_map, HXL.out]
          simp only
          rw [hl]
          exact ⟨A, c, rfl, HO.out, HH.out, HK.out⟩
      · have c1 := hrd.blk.cell 1
        simp only [rd, List.getElem?_toArray, List.getElem?_cons_zero, List.getElem?_cons_succ] at c1
        have HH := Lib.hid hrd
        have HK := Lib.hid hk
        have HRo := Lib.hid (HE2.out.trans hro)
        clear hrd hk hro HE2
        by_cases hlt : j < n
        · go_wp2_with fail
          go_ret
          rw [HRo.out]
          exact ⟨none, 0, rfl, World.ownsRow_nil _ _ _ _, HH.out, HK.out⟩
        · go_wp2_with fail
          go_ret
          rw [HRo.out]
          exact ⟨none, 0, rfl, World.ownsRow_nil _ _ _ _, HH.out, HK.out⟩

theorem refrowr_any (h : RdAt 47 w d st) (many most : Int) (hn0 : -9223372036854775808 ≤ many) (hn : many ≤ 9223372036854775807) (hm0 : -9223372036854775808 ≤ most) (hm : most ≤ 9223372036854775807) :
    Calls Try.prog 24 #[.pointer (some ⟨d, 0, none⟩), .int .i64 many, .int .i64 most] w fun e w' =>
      ∃ A c, e = .returned (.slice A (rRow many most st).1.length c) ∧ w'.ownsRow w.heap.size 9 1 (.slice A (rRow many most st).1.length c) (rRow many most st).1.length (cs (rRow many most st).1) ∧ RdAt 47 w' d (rRow many most st).2 ∧ Kept (· = d) w w' := by
  by_cases hneg : many < 0
  · obtain ⟨x, y, hxy⟩ := rd_form st
    have hb := h.blk
    rw [hxy] at hb
    have HF := Lib.hid (reffail_any hb)
    have HN := Lib.hid (fun (W : World) (hW : RdAt 47 W d none) => refnumr_any hW (many + 18446744073709551616).toNat (by omega))
    rw [← wrap_neg many hn0 hneg] at HN
    have HT : Hid (rRow many most st = ([], none)) := Lib.hid (by
      cases st with
      | none => rfl
      | some s =>
        unfold rRow Pk.rrow
        simp only
        rw [if_pos hneg])
    clear h hb hxy
    go_enter Try.func24, Try.ntmps24
    go_wp2_with fail
    refine HF.out.mono ?_
    rintro e w1 ⟨rfl, h1, hk1⟩
    have HC := Lib.hid (HN.out w1 h1)
    have HK1 := Lib.hid hk1
    clear HF HN h1 hk1
    go_wp2_with fail
    refine HC.out.mono ?_
    rintro e w2 ⟨rfl, h2, hk2⟩
    have h2' : RdAt 47 w2 d none := h2
    have HH := Lib.hid h2'
    have HK2 : Hid (Kept (· = d) w w2) := Lib.hid (HK1.out.trans hk2 (fun x hx => .inl hx))
    have c1 := h2'.blk.cell 1
    simp only [rd, List.getElem?_toArray, List.getElem?_cons_zero, List.getElem?_cons_succ] at c1
    rw [show rNum (many + 18446744073709551616).toNat none = (0, none) from rfl]
    clear HC HK1 h2 hk2 h2'
    go_wp2_with fail
    go_loopw [8, 9] (fun x y wr => x = .slice none 0 0 ∧ y = .int .u64 0 ∧ wr = w2) (fun _ _ _ => 0)
    case atStart => exact ⟨rfl, rfl, rfl⟩
    case round =>
      obtain ⟨rfl, rfl, rfl⟩ := hrel
      go_wp2_with fail
      go_ret
      rw [HT.out]
      exact ⟨none, 0, rfl, World.ownsRow_nil _ _ _ _, HH.out, HK2.out⟩
  · obtain ⟨m, rfl⟩ : ∃ m : Nat, many = (m : Int) := ⟨many.toNat, by omega⟩
    exact refrowr_nat h m most (by omega) hm0 hm
end
end Go.Proofs.Ytkfkaijaenjngaa
