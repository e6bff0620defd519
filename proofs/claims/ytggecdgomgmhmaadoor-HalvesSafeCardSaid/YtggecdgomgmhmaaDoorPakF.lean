/-
  Contracts of package pack, the reader: Read, Good, Rest, End, fail, Num, count, Text. What a reader is in memory. Condition: the reader lies in memory as its calls lay it.
-/
import Derived.Test.YtggecdgomgmhmaaDoorPakE
namespace Go.Proofs.YtggecdgomgmhmaaDoor
open Go.RowKit

/-- A reader's cells: good, with its rest; or not good. -/
def rd : Option ByteArray → Array Value
  | some s => #[.string s, .bool false]
  | none => #[.string ⟨#[]⟩, .bool true]
structure RdAt (t : TypeId) (w : World) (d : Nat) (st : Option ByteArray) : Prop where
  blk : Blk w d t (rd st)
  le : ∀ s, st = some s → s.size ≤ 1000000
theorem RdAt.of {t : TypeId} {w w' : World} {d : Nat} {st : Option ByteArray} (h : RdAt t w d st) (e : w'.heap[d]? = w.heap[d]?) : RdAt t w' d st := ⟨h.blk.of e, h.le⟩
theorem RdAt.kept {t : TypeId} {S : Nat → Prop} {w w' : World} {d : Nat} {st : Option ByteArray} (h : RdAt t w d st) (hk : Kept S w w') (hd : ¬ S d) : RdAt t w' d st := h.of (hk.block d h.blk.lt hd)
theorem RdAt.below {t : TypeId} {w w' : World} {d : Nat} {st : Option ByteArray} (h : RdAt t w d st) (hk : Below w.heap.size w w') : RdAt t w' d st := h.of (hk.block d h.blk.lt)

/-- What Num answers. -/
def rNum (most : Nat) : Option ByteArray → Nat × Option ByteArray
  | none => (0, none)
  | some s => match Pk.dec most 0 0 s.data.toList with
    | some (v, r) => (v, some (ba r))
    | none => (0, none)
/-- What Text answers. -/
def rText (most : Int) : Option ByteArray → ByteArray × Option ByteArray
  | none => (⟨#[]⟩, none)
  | some s => match Pk.rtext most s.data.toList with
    | some (x, r) => (ba x, some (ba r))
    | none => (⟨#[]⟩, none)
/-- What Row answers. -/
def rRow (many most : Int) : Option ByteArray → List ByteArray × Option ByteArray
  | none => ([], none)
  | some s => match Pk.rrow many most s.data.toList with
    | some (x, r) => (x.map ba, some (ba r))
    | none => ([], none)
def rCount (most : Int) : Option ByteArray → Nat × Option ByteArray
  | none => (0, none)
  | some s => if most < 0 then (0, none) else match Pk.dec most.toNat 0 0 s.data.toList with
    | some (n, r) => if n ≤ r.length then (n, some (ba r)) else (0, none)
    | none => (0, none)

theorem dec_most (most M : Nat) (h : most ≤ M) : ∀ (l : List UInt8) (i acc : Nat), Pk.dec most i acc l = match Pk.dec M i acc l with
    | some (v, r) => if v ≤ most then some (v, r) else none
    | none => none
  | [], _, _ => rfl
  | b :: l, i, acc => by
    simp only [Pk.dec]
    by_cases h1 : 10 ≤ i ∨ (i = 9 ∧ 1 < b.toNat)
    · rw [if_pos h1, if_pos h1]
    · rw [if_neg h1, if_neg h1]
      by_cases h2 : 128 ≤ b.toNat
      · rw [if_pos h2, if_pos h2]
        exact dec_most most M h l _ _
      · rw [if_neg h2, if_neg h2]
        by_cases h3 : b.toNat = 0 ∧ 0 < i
        · rw [if_pos (.inl h3), if_pos (.inl h3)]
        · by_cases h4 : M < acc + b.toNat % 128 * 2 ^ (7 * i)
          · rw [if_pos (.inr (by omega)), if_pos (.inr h4)]
          · rw [if_neg (show ¬ ((b.toNat = 0 ∧ 0 < i) ∨ M < acc + b.toNat % 128 * 2 ^ (7 * i)) by omega)]
            by_cases h5 : most < acc + b.toNat % 128 * 2 ^ (7 * i)
            · rw [if_pos (.inr h5)]
              simp only
              rw [if_neg (by omega)]
            · rw [if_neg (show ¬ ((b.toNat = 0 ∧ 0 < i) ∨ most < acc + b.toNat % 128 * 2 ^ (7 * i)) by omega)]
              simp only
              rw [if_pos (by omega)]
theorem rNum_some (most : Nat) (s : ByteArray) : rNum most (some s) = match Pk.dec most 0 0 s.data.toList with
    | some (v, r) => (v, some (ba r))
    | none => (0, none) := rfl
/-- The ways of Num. -/
theorem rNum_bad {most : Nat} {s : ByteArray} (hm : most ≤ 18446744073709551615) (h : (numV s.data.toList).2 = 0 ∨ most < (numV s.data.toList).1) : rNum most (some s) = (0, none) := by
  rw [rNum_some, dec_most most _ hm]
  unfold numV at h
  cases hd : Pk.dec 18446744073709551615 0 0 s.data.toList with
  | none => rfl
  | some p =>
    obtain ⟨v, r⟩ := p
    rw [hd] at h
    have := Pk.dec_rest hd
    simp only at h ⊢
    rw [if_neg (by omega)]
theorem rNum_good {most : Nat} {s : ByteArray} (hm : most ≤ 18446744073709551615) (h : (numV s.data.toList).2 ≠ 0) (h' : (numV s.data.toList).1 ≤ most) : rNum most (some s) = ((numV s.data.toList).1, some (s.extract (numV s.data.toList).2 s.size)) ∧ (numV s.data.toList).2 ≤ s.size := by
  rw [rNum_some, dec_most most _ hm]
  unfold numV at h h' ⊢
  cases hd : Pk.dec 18446744073709551615 0 0 s.data.toList with
  | none => rw [hd] at h; exact absurd rfl h
  | some p =>
    obtain ⟨v, r⟩ := p
    rw [hd] at h h'
    obtain ⟨hl, _, _⟩ := Pk.dec_some hd
    simp only at h h' ⊢
    rw [if_pos h', ext_drop]
    have e1 : s.data.toList.length = s.size := by simp
    have e2 : s.data.toList.length = (Pk.num v).length + r.length := by rw [hl]; simp
    refine ⟨?_, by omega⟩
    simp only
    have e3 : s.data.toList.drop (s.data.toList.length - r.length) = r := by
      rw [show s.data.toList.length - r.length = (Pk.num v).length by omega, hl]
      simp
    rw [e3]

theorem read_any (w : World) (s : ByteArray) (hs : s.size ≤ 1000000) :
    Calls Tryd.prog 52 #[.string s] w fun e w' => e = .returned (.pointer (some ⟨w.heap.size, 0, none⟩)) ∧ RdAt 118 w' w.heap.size (some s) ∧ Below w.heap.size w w' ∧ w'.heap.size = w.heap.size + 1 := by
  have hb := Blk.new w 118 (rd (some s))
  go_enter Tryd.func52, Tryd.ntmps52
  go_wp2_with fail
  go_ret
  exact ⟨rfl, ⟨hb, fun x hx => by injection hx with hx; subst hx; exact hs⟩, (Below.refl _ w).alloc (Nat.le_refl _) _, by simp⟩

section
variable {w : World} {d : Nat} {st : Option ByteArray}
theorem good_any (h : RdAt 118 w d st) :
    Calls Tryd.prog 67 #[.pointer (some ⟨d, 0, none⟩)] w fun e w' => e = .returned (.bool st.isSome) ∧ w = w' := by
  have c1 := h.blk.cell 1
  cases st with
  | none =>
    simp only [rd, List.getElem?_toArray, List.getElem?_cons_zero, List.getElem?_cons_succ] at c1
    go_enter Tryd.func67, Tryd.ntmps67
    go_wp2_with fail
    go_ret
    exact ⟨rfl, rfl⟩
  | some s =>
    simp only [rd, List.getElem?_toArray, List.getElem?_cons_zero, List.getElem?_cons_succ] at c1
    go_enter Tryd.func67, Tryd.ntmps67
    go_wp2_with fail
    go_ret
    exact ⟨rfl, rfl⟩
def endB : Option ByteArray → Bool
  | some s => s.toList.isEmpty
  | none => false
theorem end_any (h : RdAt 118 w d st) :
    Calls Tryd.prog 55 #[.pointer (some ⟨d, 0, none⟩)] w fun e w' => e = .returned (.bool (endB st)) ∧ w = w' := by
  have c0 := h.blk.cell 0
  have HG := Lib.hid (good_any h)
  cases st with
  | none =>
    simp only [rd, List.getElem?_toArray, List.getElem?_cons_zero] at c0
    go_enter Tryd.func55, Tryd.ntmps55
    go_wp2_with fail
    refine HG.out.mono ?_
    rintro e w' ⟨rfl, rfl⟩
    go_wp2_with fail
    go_ret
    exact ⟨rfl, rfl⟩
  | some s =>
    simp only [rd, List.getElem?_toArray, List.getElem?_cons_zero] at c0
    go_enter Tryd.func55, Tryd.ntmps55
    go_wp2_with fail
    refine HG.out.mono ?_
    rintro e w' ⟨rfl, rfl⟩
    go_wp2_with fail
    go_ret
    exact ⟨rfl, rfl⟩
theorem rd_form (st : Option ByteArray) : ∃ x y, rd st = #[x, y] := by
  cases st with
  | none => exact ⟨_, _, rfl⟩
  | some s => exact ⟨_, _, rfl⟩
theorem fail_any (h : RdAt 118 w d st) :
    Calls Tryd.prog 69 #[.pointer (some ⟨d, 0, none⟩)] w fun e w' => e = .returned (.tuple #[]) ∧ RdAt 118 w' d none ∧ Kept (· = d) w w' := by
  obtain ⟨x, y, hxy⟩ := rd_form st
  have hb := h.blk
  rw [hxy] at hb
  have c0 := hb.cell 0
  have c1 := hb.cell 1
  have f0 := hb.frozen 0
  have f1 := hb.frozen 1
  simp only [List.getElem?_toArray, List.getElem?_cons_zero, List.getElem?_cons_succ] at c0 c1
  have HB := Lib.hid hb
  clear h hb hxy
  go_enter Tryd.func69, Tryd.ntmps69
  go_wp2_with fail
  go_end0
  exact ⟨rfl, ⟨(HB.out.set_ 0 _).set_ 1 _, fun s hs => by cases hs⟩, ((Kept.refl (· = d) w).setCell (p := ⟨d, 0, none⟩) (.inl rfl) _).setCell (p := ⟨d, 1, none⟩) (.inl rfl) _⟩

theorem rnum_any (h : RdAt 118 w d st) (most : Nat) (hm : most ≤ 18446744073709551615) :
    Calls Tryd.prog 53 #[.pointer (some ⟨d, 0, none⟩), .int .u64 (most : Int)] w fun e w' => e = .returned (.int .u64 ((rNum most st).1 : Int)) ∧ RdAt 118 w' d (rNum most st).2 ∧ Kept (· = d) w w' := by
  have HG := Lib.hid (good_any h)
  cases st with
  | none =>
    go_enter Tryd.func53, Tryd.ntmps53
    go_wp2_with fail
    refine HG.out.mono ?_
    rintro e w' ⟨rfl, rfl⟩
    go_wp2_with fail
    go_ret
    exact ⟨rfl, h, Kept.refl _ _⟩
  | some s =>
    have hs := h.le s rfl
    have hb := h.blk
    have c0 := hb.cell 0
    have f0 := hb.frozen 0
    simp only [rd, List.getElem?_toArray, List.getElem?_cons_zero] at c0
    have HN := Lib.hid (num_any w s (by unfold maxLen; omega))
    have HB1 := Lib.hid (fun hc => rNum_bad (most := most) (s := s) hm hc)
    have HB2 := Lib.hid (fun hc hc' => rNum_good (most := most) (s := s) hm hc hc')
    have HF := Lib.hid (fail_any h)
    have HBk := Lib.hid hb
    clear h hb
    generalize (numV s.data.toList).1 = v at *
    generalize (numV s.data.toList).2 = k at *
    by_cases hk : k = 0 ∨ most < v
    · rw [HB1.out hk]
      clear HB1 HB2
      go_enter Tryd.func53, Tryd.ntmps53
      go_wp2_with fail
      refine HG.out.mono ?_
      rintro e w' ⟨rfl, rfl⟩
      go_wp2_with fail
      refine HN.out.mono ?_
      rintro e w' ⟨rfl, rfl⟩
      clear HG HN
      rcases hk with rfl | hk
      · go_wp2_with fail
        refine HF.out.mono ?_
        rintro e w' ⟨rfl, h1, h2⟩
        go_wp2_with fail
        go_ret
        exact ⟨rfl, h1, h2⟩
      · by_cases hk0 : k = 0
        · subst hk0
          go_wp2_with fail
          refine HF.out.mono ?_
          rintro e w' ⟨rfl, h1, h2⟩
          go_wp2_with fail
          go_ret
          exact ⟨rfl, h1, h2⟩
        · go_wp2_with fail
          refine HF.out.mono ?_
          rintro e w' ⟨rfl, h1, h2⟩
          go_wp2_with fail
          go_ret
          exact ⟨rfl, h1, h2⟩
    · have hk0 : k ≠ 0 := by omega
      have hvm : v ≤ most := by omega
      obtain ⟨e1, hks⟩ := HB2.out hk0 hvm
      rw [e1]
      clear HB1 HB2 e1 hk HF
      go_enter Tryd.func53, Tryd.ntmps53
      go_wp2_with fail
      refine HG.out.mono ?_
      rintro e w' ⟨rfl, rfl⟩
      go_wp2_with fail
      refine HN.out.mono ?_
      rintro e w' ⟨rfl, rfl⟩
      clear HG HN
      have hkb : ((k : Int) == 0) = false := by rw [beq_eq_false_iff_ne]; omega
      have hnm : decide (most < v) = false := by rw [decide_eq_false_iff_not]; omega
      go_wp2_with fail
      go_ret
      exact ⟨rfl, ⟨HBk.out.set_ 0 _, fun x hx => by injection hx with hx; subst hx; simp; omega⟩, (Kept.refl (· = d) w).setCell (p := ⟨d, 0, none⟩) (.inl rfl) _⟩

theorem rCount_some (most : Int) (s : ByteArray) (h : 0 ≤ most) : rCount most (some s) = match rNum most.toNat (some s) with
    | (n, some r) => if n ≤ r.size then (n, some r) else (0, none)
    | (_, none) => (0, none) := by
  unfold rCount
  rw [rNum_some]
  simp only
  rw [if_neg (by omega)]
  cases Pk.dec most.toNat 0 0 s.data.toList with
  | none => rfl
  | some p =>
    obtain ⟨v, r⟩ := p
    simp only [ba_size]
theorem rNum_le (most : Nat) (st : Option ByteArray) : (rNum most st).1 ≤ most := by
  cases st with
  | none => exact Nat.zero_le _
  | some s =>
    rw [rNum_some]
    cases hd : Pk.dec most 0 0 s.data.toList with
    | none => exact Nat.zero_le _
    | some p => exact (Pk.dec_some hd).2.1
theorem count_any (h : RdAt 118 w d st) (most : Int) (hm0 : -9223372036854775808 ≤ most) (hm : most ≤ 9223372036854775807) :
    Calls Tryd.prog 70 #[.pointer (some ⟨d, 0, none⟩), .int .i64 most] w fun e w' => e = .returned (.int .i64 ((rCount most st).1 : Int)) ∧ RdAt 118 w' d (rCount most st).2 ∧ Kept (· = d) w w' := by
  have HG := Lib.hid (good_any h)
  cases st with
  | none =>
    go_enter Tryd.func70, Tryd.ntmps70
    go_wp2_with fail
    refine HG.out.mono ?_
    rintro e w' ⟨rfl, rfl⟩
    go_wp2_with fail
    go_ret
    exact ⟨rfl, h, Kept.refl _ _⟩
  | some s =>
    by_cases hneg : most < 0
    · have HF := Lib.hid (fail_any h)
      have e1 : rCount most (some s) = (0, none) := by unfold rCount; simp only; rw [if_pos hneg]
      rw [e1]
      clear h e1
      go_enter Tryd.func70, Tryd.ntmps70
      go_wp2_with fail
      refine HG.out.mono ?_
      rintro e w' ⟨rfl, rfl⟩
      clear HG
      go_wp2_with fail
      refine HF.out.mono ?_
      rintro e w' ⟨rfl, h1, h2⟩
      go_wp2_with fail
      go_ret
      exact ⟨rfl, h1, h2⟩
    · obtain ⟨m, rfl⟩ : ∃ m : Nat, most = (m : Int) := ⟨most.toNat, by omega⟩
      have HN := Lib.hid (rnum_any h m (by omega))
      have HLe := Lib.hid (rNum_le m (some s))
      have HE := Lib.hid (rCount_some (m : Int) s (by omega))
      rw [show (m : Int).toNat = m from rfl] at HE
      clear h
      generalize rNum m (some s) = p at *
      obtain ⟨v, st1⟩ := p
      have hvm : v ≤ m := HLe.out
      clear HLe
      go_enter Tryd.func70, Tryd.ntmps70
      go_wp2_with fail
      refine HG.out.mono ?_
      rintro e w' ⟨rfl, rfl⟩
      clear HG
      go_wp2_with fail
      refine HN.out.mono ?_
      rintro e w1 ⟨rfl, h1, hk1⟩
      have HK := Lib.hid hk1
      clear HN hk1
      have hb := h1.blk
      have c0 := hb.cell 0
      cases st1 with
      | none =>
        simp only [rd, List.getElem?_toArray, List.getElem?_cons_zero] at c0
        have HH := Lib.hid h1
        have HF := Lib.hid (fail_any h1)
        clear h1 hb
        by_cases hv : 0 < v
        · go_wp2_with fail
          refine HF.out.mono ?_
          rintro e w2 ⟨rfl, h2, hk2⟩
          go_wp2_with fail
          go_ret
          rw [HE.out]
          exact ⟨rfl, h2, HK.out.trans hk2 (fun x hx => .inl hx)⟩
        · obtain rfl : v = 0 := by omega
          go_wp2_with fail
          go_ret
          rw [HE.out]
          exact ⟨rfl, HH.out, HK.out⟩
      | some r =>
        simp only [rd, List.getElem?_toArray, List.getElem?_cons_zero] at c0
        have hr := h1.le r rfl
        have HH := Lib.hid h1
        have HF := Lib.hid (fail_any h1)
        clear h1 hb
        by_cases hv : v ≤ r.size
        · have HE2 := Lib.hid (show rCount (m : Int) (some s) = (v, some r) by rw [HE.out]; simp only; rw [if_pos hv])
          go_wp2_with fail
          go_ret
          rw [HE2.out]
          exact ⟨by go_num, HH.out, HK.out⟩
        · have HE2 := Lib.hid (show rCount (m : Int) (some s) = (0, none) by rw [HE.out]; simp only; rw [if_neg hv])
          go_wp2_with fail
          refine HF.out.mono ?_
          rintro e w2 ⟨rfl, h2, hk2⟩
          go_wp2_with fail
          go_ret
          rw [HE2.out]
          exact ⟨rfl, h2, HK.out.trans hk2 (fun x hx => .inl hx)⟩

theorem rText_count (most : Int) (s : ByteArray) : rText most (some s) = match rCount most (some s) with
    | (n, some r) => (r.extract 0 n, some (r.extract n r.size))
    | (_, none) => (⟨#[]⟩, none) := by
  unfold rText rCount Pk.rtext
  simp only
  by_cases h : most < 0
  · rw [if_pos h, if_pos h]
  · rw [if_neg h, if_neg h]
    cases Pk.dec most.toNat 0 0 s.data.toList with
    | none => rfl
    | some p =>
      obtain ⟨v, r⟩ := p
      simp only
      by_cases hv : v ≤ r.length
      · rw [if_pos hv, if_pos hv]
        simp only [ext_take, ext_drop, ba_list]
      · rw [if_neg hv, if_neg hv]
theorem rCount_le (most : Int) (s : ByteArray) {n : Nat} {r : ByteArray} (h : rCount most (some s) = (n, some r)) : n ≤ r.size := by
  unfold rCount at h
  simp only at h
  by_cases h0 : most < 0
  · rw [if_pos h0] at h; cases h
  · rw [if_neg h0] at h
    cases hd : Pk.dec most.toNat 0 0 s.data.toList with
    | none => rw [hd] at h; cases h
    | some p =>
      obtain ⟨v, q⟩ := p
      rw [hd] at h
      simp only at h
      by_cases hv : v ≤ q.length
      · rw [if_pos hv] at h
        injection h with e1 e2
        injection e2 with e2
        subst e1; subst e2
        rwa [ba_size]
      · rw [if_neg hv] at h; cases h
theorem rtext_any (h : RdAt 118 w d st) (most : Int) (hm0 : -9223372036854775808 ≤ most) (hm : most ≤ 9223372036854775807) :
    Calls Tryd.prog 54 #[.pointer (some ⟨d, 0, none⟩), .int .i64 most] w fun e w' => e = .returned (.string (rText most st).1) ∧ RdAt 118 w' d (rText most st).2 ∧ Kept (· = d) w w' := by
  have HC := Lib.hid (count_any h most hm0 hm)
  have HE : Hid (rText most st = match rCount most st with
    | (n, some r) => (r.extract 0 n, some (r.extract n r.size))
    | (_, none) => (⟨#[]⟩, none)) := Lib.hid (by
      cases st with
      | none => rfl
      | some s => exact rText_count most s)
  have HLe : Hid (∀ r, (rCount most st).2 = some r → (rCount most st).1 ≤ r.size) := Lib.hid (by
    intro r hr
    cases st with
    | none => cases hr
    | some s => exact rCount_le most s (Prod.ext rfl hr))
  clear h
  generalize rCount most st = p at *
  obtain ⟨n, st1⟩ := p
  go_enter Tryd.func54, Tryd.ntmps54
  go_wp2_with fail
  refine HC.out.mono ?_
  rintro e w1 ⟨rfl, h1, hk1⟩
  have HK := Lib.hid hk1
  have HG := Lib.hid (good_any h1)
  have HH := Lib.hid h1
  clear hk1 HC
  cases st1 with
  | none =>
    clear h1
    go_wp2_with fail
    refine HG.out.mono ?_
    rintro e w2 ⟨rfl, rfl⟩
    clear HG
    go_wp2_with fail
    go_ret
    rw [HE.out]
    exact ⟨rfl, HH.out, HK.out⟩
  | some r =>
    have hr := h1.le r rfl
    have hn : n ≤ r.size := HLe.out r rfl
    have c0 := h1.blk.cell 0
    have f0 := h1.blk.frozen 0
    simp only [rd, List.getElem?_toArray, List.getElem?_cons_zero] at c0
    clear h1 HLe
    go_wp2_with fail
    refine HG.out.mono ?_
    rintro e w2 ⟨rfl, rfl⟩
    clear HG
    go_wp2_with fail
    go_ret
    rw [HE.out]
    exact ⟨rfl, ⟨HH.out.blk.set_ 0 _, fun x hx => by injection hx with hx; subst hx; simp; omega⟩, HK.out.setCell (p := ⟨d, 0, none⟩) (.inl rfl) _⟩
end
end Go.Proofs.YtggecdgomgmhmaaDoor
