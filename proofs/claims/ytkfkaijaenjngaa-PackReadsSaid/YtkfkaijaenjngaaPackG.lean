/-
  Contracts of package pack, the reader: Row. Condition: the reader lies in memory as its calls lay it.
-/
import Derived.Test.YtkfkaijaenjngaaPackF
namespace Go.Proofs.Ytkfkaijaenjngaa
open Go.RowKit

theorem rtexts_succ (most : Int) (n : Nat) (s : List UInt8) : Pk.rtexts most (n + 1) s = match Pk.rtext most s with
    | none => none
    | some (t, r) => match Pk.rtexts most n r with
      | none => none
      | some (ts, r') => some (t :: ts, r') := rfl
theorem rtexts_none (most : Int) : ∀ (n : Nat) (s : List UInt8), s.length < n → Pk.rtexts most n s = none
  | 0, _, h => by omega
  | n + 1, s, h => by
    rw [rtexts_succ]
    cases ht : Pk.rtext most s with
    | none => rfl
    | some p =>
      obtain ⟨t, r⟩ := p
      obtain ⟨rfl, _, _⟩ := Pk.rtext_some ht
      have h1 := Pk.num_pos t.length
      have h2 : (Pk.text t ++ r).length = (Pk.num t.length).length + t.length + r.length := by simp [Pk.text]; omega
      simp only
      rw [rtexts_none most n r (by omega)]
/-- How Row follows count. -/
def rowOf (most : Int) (n : Nat) (r : ByteArray) : List ByteArray × Option ByteArray := match Pk.rtexts most n r.data.toList with
  | some (x, q) => (x.map ba, some (ba q))
  | none => ([], none)
theorem rRow_count (many most : Int) (s : ByteArray) : rRow many most (some s) = match rCount many (some s) with
    | (n, some r) => rowOf most n r
    | (_, none) => ([], none) := by
  unfold rRow rCount Pk.rrow
  simp only
  by_cases h : many < 0
  · rw [if_pos h, if_pos h]
  · rw [if_neg h, if_neg h]
    cases Pk.dec many.toNat 0 0 s.data.toList with
    | none => rfl
    | some p =>
      obtain ⟨v, r⟩ := p
      simp only
      by_cases hv : v ≤ r.length
      · rw [if_pos hv]
        simp only [rowOf, ba_list]
        cases Pk.rtexts most v r with
        | none => rfl
        | some p => rfl
      · rw [if_neg hv, rtexts_none most v r (by omega)]
theorem rCount_none (many : Int) (st : Option ByteArray) (h : (rCount many st).2 = none) : (rCount many st).1 = 0 := by
  cases st with
  | none => rfl
  | some s =>
    unfold rCount at h ⊢
    simp only at h ⊢
    by_cases h0 : many < 0
    · rw [if_pos h0]
    · rw [if_neg h0] at h ⊢
      cases hd : Pk.dec many.toNat 0 0 s.data.toList with
      | none => rfl
      | some p =>
        obtain ⟨v, r⟩ := p
        rw [hd] at h
        simp only at h ⊢
        by_cases hv : v ≤ r.length
        · rw [if_pos hv] at h; cases h
        · rw [if_neg hv]

/-- Where the loop of Row stands. -/
def RRel (t : TypeId) (w : World) (d n : Nat) (most : Int) (r : ByteArray) (j : Nat) (x : Value) (wr : World) : Prop :=
  ∃ (q : ByteArray) (xs : List (List UInt8)) (A : Option Addr) (c : Nat), j ≤ n ∧ x = .slice A j c ∧ xs.length = j ∧
    wr.ownsRow w.heap.size 9 1 (.slice A j c) j (cs (xs.map ba)) ∧ RdAt t wr d (some q) ∧ Kept (· = d) w wr ∧
    Pk.rtexts most n r.data.toList = match Pk.rtexts most (n - j) q.data.toList with
      | some (ts, q') => some (xs ++ ts, q')
      | none => none
theorem rowOf_bad {n j : Nat} {most : Int} {r q : ByteArray} {xs : List (List UInt8)} (hj : j < n)
    (h : Pk.rtexts most n r.data.toList = match Pk.rtexts most (n - j) q.data.toList with
      | some (ts, q') => some (xs ++ ts, q')
      | none => none) (hq : Pk.rtext most q.data.toList = none) : rowOf most n r = ([], none) := by
  unfold rowOf
  rw [h, show n - j = (n - j - 1) + 1 by omega, rtexts_succ, hq]
theorem rtexts_on {n j : Nat} {most : Int} {r q : ByteArray} {xs : List (List UInt8)} {x q2 : List UInt8} (hj : j < n)
    (h : Pk.rtexts most n r.data.toList = match Pk.rtexts most (n - j) q.data.toList with
      | some (ts, q') => some (xs ++ ts, q')
      | none => none) (hq : Pk.rtext most q.data.toList = some (x, q2)) : Pk.rtexts most n r.data.toList = match Pk.rtexts most (n - (j + 1)) (ba q2).data.toList with
      | some (ts, q') => some ((xs ++ [x]) ++ ts, q')
      | none => none := by
  rw [h, show n - j = (n - (j + 1)) + 1 by omega, rtexts_succ, hq, ba_list]
  simp only
  cases Pk.rtexts most (n - (j + 1)) q2 with
  | none => rfl
  | some p => simp
theorem rText_eq (most : Int) (s : ByteArray) : rText most (some s) = match Pk.rtext most s.data.toList with
    | some (x, r) => (ba x, some (ba r))
    | none => (⟨#[]⟩, none) := rfl

set_option maxRecDepth 100000 in
theorem rrow_any {w : World} {d : Nat} {st : Option ByteArray} (h : RdAt 62 w d st) (many most : Int) (hn0 : -9223372036854775808 ≤ many) (hn : many ≤ 9223372036854775807) (hm0 : -9223372036854775808 ≤ most) (hm : most ≤ 9223372036854775807) :
    Calls Try.prog 23 #[.pointer (some ⟨d, 0, none⟩), .int .i64 many, .int .i64 most] w fun e w' =>
      ∃ A c, e = .returned (.slice A (rRow many most st).1.length c) ∧ w'.ownsRow w.heap.size 9 1 (.slice A (rRow many most st).1.length c) (rRow many most st).1.length (cs (rRow many most st).1) ∧ RdAt 62 w' d (rRow many most st).2 ∧ Kept (· = d) w w' := by
  have HC := Lib.hid (count_any h many hn0 hn)
  have HE : Hid (rRow many most st = match rCount many st with
    | (n, some r) => rowOf most n r
    | (_, none) => ([], none)) := Lib.hid (by
      cases st with
      | none => rfl
      | some s => exact rRow_count many most s)
  have HLe : Hid (∀ r, (rCount many st).2 = some r → (rCount many st).1 ≤ r.size) := Lib.hid (by
    intro r hr
    cases st with
    | none => cases hr
    | some s => exact rCount_le many s (Prod.ext rfl hr))
  have HN := Lib.hid (rCount_none many st)
  have hd := h.blk.lt
  clear h
  generalize rCount many st = p at *
  obtain ⟨n, st1⟩ := p
  obtain ⟨i0, hi0, hz0, hz1, hz2⟩ := info_str
  have HI := Lib.hid hi0
  have HZ := Lib.hid hz0
  have HZ1 := Lib.hid hz1
  have HZ2 := Lib.hid hz2
  clear hi0 hz0 hz1 hz2
  go_enter Try.func23, Try.ntmps23
  go_wp2_with fail
  refine HC.out.mono ?_
  rintro e w1 ⟨rfl, h1, hk1⟩
  clear HC
  cases st1 with
  | none =>
    have hn0 : n = 0 := HN.out rfl
    subst hn0
    have HH := Lib.hid h1
    have HK := Lib.hid hk1
    have HE2 := Lib.hid (show rRow many most st = ([], none) from HE.out)
    clear h1 hk1 HN HLe HE
    go_wp2_with fail
    go_loopw [7, 12] (fun x y wr => x = .slice none 0 0 ∧ y = .int .i64 0 ∧ wr = w1) (fun _ _ _ => 0)
    case atStart => exact ⟨rfl, rfl, rfl⟩
    case round =>
      obtain ⟨rfl, rfl, rfl⟩ := hrel
      go_wp2_with fail
      go_ret
      rw [HE2.out]
      exact ⟨none, 0, rfl, World.ownsRow_nil _ _ _ _, HH.out, HK.out⟩
  | some r =>
    have hnr : n ≤ r.size := HLe.out r rfl
    have hr := h1.le r rfl
    have HE2 := Lib.hid (show rRow many most st = rowOf most n r from HE.out)
    have HS : Hid (RRel 62 w d n most r 0 (.slice none 0 0) w1) := Lib.hid ⟨r, [], none, 0, by omega, rfl, rfl, World.ownsRow_nil _ _ _ _, h1, hk1, by
      rw [Nat.sub_zero]
      cases Pk.rtexts most n r.data.toList with
      | none => rfl
      | some p => rfl⟩
    clear h1 hk1 HN HLe HE
    go_wp2_with fail
    go_loopw [7, 12] (fun x y wr => ∃ j : Nat, y = .int .i64 (j : Int) ∧ RRel 62 w d n most r j x wr) (fun _ i _ => n - (intOf i).toNat)
    case atStart => exact ⟨0, rfl, HS.out⟩
    case round =>
      clear HS
      obtain ⟨j, rfl, q, xs, A, c, hj, rfl, hxl, hown, hrd, hk, hrt⟩ := hrel
      have hzk := hk.size
      have HO := Lib.hid hown
      have HK := Lib.hid hk
      have HRT := Lib.hid hrt
      have HXL := Lib.hid hxl
      by_cases hlt : j < n
      · have HT := Lib.hid (rtext_any hrd most hm0 hm)
        clear hown hk hrt hxl hrd
        go_wp2_with fail
        refine HT.out.mono ?_
        rintro e w2 ⟨rfl, hr2, hk2⟩
        rw [rText_eq] at hr2 ⊢
        have HK2 : Hid (Kept (· = d) w w2) := Lib.hid (HK.out.trans hk2 (fun x hx => .inl hx))
        have hne : ∀ b, (Value.slice A j c).ownBlock = some b → ¬ b = d := fun b hb hbd => by
          have := own_base HO.out hb
          omega
        have HO2 : Hid (w2.ownsRow w.heap.size 9 1 (.slice A j c) j (cs (xs.map ba))) := Lib.hid (own_of HO.out (fun b hb => hk2.block b (own_lt HO.out hb) (hne b hb)))
        have hz2 := hk2.size
        clear HT hk2 HO HK hne
        cases hq : Pk.rtext most q.data.toList with
        | none =>
          rw [hq] at hr2
          have hb := rowOf_bad hlt HRT.out hq
          have HRo := Lib.hid (HE2.out.trans hb)
          have HG := Lib.hid (good_any hr2)
          have HH := Lib.hid hr2
          clear hr2 HRT hq hb HE2
          go_wp2_with fail
          refine HG.out.mono ?_
          rintro e w3 ⟨rfl, rfl⟩
          clear HG
          go_wp2_with fail
          go_ret
          rw [HRo.out]
          exact ⟨none, 0, rfl, World.ownsRow_nil _ _ _ _, HH.out, HK2.out⟩
        | some p =>
          obtain ⟨x, q2⟩ := p
          rw [hq] at hr2
          have HRT2 := Lib.hid (rtexts_on hlt HRT.out hq)
          have HG := Lib.hid (good_any hr2)
          have HH := Lib.hid hr2
          clear hr2 HRT hq
          simp only
          generalize hbx : ba x = X
          have HBX := Lib.hid hbx
          clear hbx
          go_wp2_with fail
          refine HG.out.mono ?_
          rintro e w3 ⟨rfl, rfl⟩
          clear HG
          have hblk0 := Blk.new w2 9 #[.string X]
          have hown0 : (w2.alloc (.cells #[.string X] 9)).ownsRow w.heap.size 9 1 (.slice A j c) j (cs (xs.map ba)) := own_of HO2.out (fun b e => Below.heap_alloc _ _ _ (own_lt HO2.out e))
          go_wp2_with
            (at_builtin
             refine wpList_append_lies _ rfl (.tmp 20) (.tmp 22) 23 rfl w.heap.size 9 i0 _ 1 16 Try.underlying23 HI.out HZ.out HZ1.out HZ2.out rfl (by decide) (.slice A j c) j _ rfl hown0 ⟨w2.heap.size, 0, none⟩ 1 1 [.string X] rfl rfl (World.news_of_block hblk0) (by intro u hu; simp at hu; subst hu; rfl) (by omega) (by unfold maxLen; omega) (by omega) (by simp; omega) (w2.heap.size + 1) (by simp) ?_
             intro g cap w4 hown1 hgrow hat hlt1
             have hk4 : Kept (fun k => (Value.slice A j c).ownBlock = some k) w2 w4 := ((Kept.refl _ w2).alloc _).grown hgrow (fun x hx => .inl hx)
             have HK4 : Hid (Kept (· = d) w w4) := Lib.hid (HK2.out.trans hk4 (fun k hk => .inr (own_base HO2.out hk)))
             have HH4 := Lib.hid (HH.out.kept hk4 (fun hf => by have := own_base HO2.out hf; omega))
             have HO4 := Lib.hid hown1
             clear hown1 hgrow hat hown0 hblk0 hk4)
          go_roundw
          case rel =>
            refine ⟨j + 1, by go_num, ba q2, xs ++ [x], _, _, by omega, rfl, by have := HXL.out; simp; omega, ?_, HH4.out, HK4.out, HRT2.out⟩
            have e : cs ((xs ++ [x]).map ba) = cs (xs.map ba) ++ [.string X] := by simp [cs, HBX.out]
            rw [e]
            exact HO4.out
          case measure => simp [intOf]; omega
      · obtain rfl : j = n := by omega
        have HRo := Lib.hid (show rRow many most st = (xs.map ba, some q) by
          rw [HE2.out]
          unfold rowOf
          rw [HRT.out, Nat.sub_self]
          simp only [Pk.rtexts, List.append_nil, ba_back])
        have HH := Lib.hid hrd
        clear hown hk hrt hxl hrd HE2 HRT
        go_wp2_with fail
        go_ret
        rw [HRo.out]
        have hl : (xs.map ba).length = j := by rw [List.length_map, HXL.out]
        simp only
        rw [hl]
        exact ⟨A, c, rfl, HO.out, HH.out, HK.out⟩
end Go.Proofs.Ytkfkaijaenjngaa
