/-
  Contracts of the statements' helper few (layer 4), of frame.All and of frame.Empty. Condition: the arguments lie in memory; for All the table of crc holds what its text says, and each text has at most 40000 bytes.
-/
import Derived.Test.YtgbopohbhnpceaaDoorFrameL
import Derived.Test.YtgbopohbhnpceaaDoorBld
import Derived.Lib.MinMax
namespace Go.Proofs.YtgbopohbhnpceaaDoor
open Go.RowKit

/-- What few makes of a text. -/
def fx (s : ByteArray) : ByteArray := if (cut s 80).toList == [] then ⟨#[45]⟩ else cut s 80
def fw (l : List ByteArray) : List ByteArray := (l.take 6).map fx
theorem fw_len (l : List ByteArray) : (fw l).length ≤ 6 := by simp [fw]; omega
theorem fx_ok (s : ByteArray) : 1 ≤ (fx s).size ∧ (fx s).size ≤ 80 := by
  unfold fx
  have := cut_size s 80
  by_cases h : ((cut s 80).toList == []) = true
  · rw [if_pos h]; decide
  · rw [if_neg h]
    refine ⟨?_, this⟩
    rcases Nat.eq_zero_or_pos (cut s 80).size with h0 | h0
    · exfalso
      apply h
      have : (cut s 80).data.toList = [] := List.eq_nil_of_length_eq_zero (by rw [size_list]; exact h0)
      rw [ByteArray.toList_eq, this]
      rfl
    · exact h0
theorem fw_ok (l : List ByteArray) : ∀ s ∈ fw l, 1 ≤ s.size ∧ s.size ≤ 80 := by
  intro s hs
  obtain ⟨t, _, rfl⟩ := List.mem_map.1 hs
  exact fx_ok t
theorem fw_fr (l : List ByteArray) : ∀ t ∈ tx (fw l), Fr.ok t.length := by
  intro t ht
  obtain ⟨s, hs, rfl⟩ := List.mem_map.1 ht
  have := fw_ok l s hs
  unfold Fr.ok
  rw [size_list]
  omega
theorem fw_one (s : ByteArray) : fw [s] = [fx s] := rfl

/-- Where the loop of few stands. -/
def FewRel (w : World) (l : List ByteArray) (x y _z : Value) (wr : World) : Prop :=
  ∃ (j : Nat) (A : Option Addr) (c : Nat), j ≤ l.length ∧ j ≤ 6 ∧ y = .int .i64 (j : Int) ∧ x = .slice A j c ∧ wr.ownsRow w.heap.size 9 1 (.slice A j c) j (cs ((l.take j).map fx)) ∧ Below w.heap.size w wr
set_option maxHeartbeats 1000000 in
theorem few_any (w : World) (A : Option Addr) (c : Nat) (l : List ByteArray) (hl : l.length ≤ maxLen) (hs : ∀ s ∈ l, s.size ≤ maxLen) (hA : Lies (fun _ => False) w A (cs l)) :
    Calls Tryd.prog 12 #[.slice A l.length c] w fun e w' => ∃ A' c', e = .returned (.slice A' (fw l).length c') ∧ w'.ownsRow w.heap.size 9 1 (.slice A' (fw l).length c') (fw l).length (cs (fw l)) ∧ Below w.heap.size w w' := by
  obtain ⟨i0, hi0, hz0, hz1, hz2⟩ := info_str
  have HI := Lib.hid hi0
  have HZ := Lib.hid hz0
  have HZ1 := Lib.hid hz1
  have HZ2 := Lib.hid hz2
  have HA := Lib.hid hA
  have HS := Lib.hid hs
  unfold maxLen at hl
  clear hi0 hz0 hz1 hz2 hA hs
  go_enter Tryd.func12, Tryd.ntmps12
  go_wp2_with fail
  go_loopw [3, 4, 5] (FewRel w l) (fun _ i _ _ => 6 - (intOf i).toNat)
  case atStart => exact ⟨0, none, 0, by omega, by omega, rfl, rfl, World.ownsRow_nil _ _ _ _, Below.refl _ _⟩
  case round =>
    obtain ⟨j, A1, c1, hj, hj8, rfl, rfl, hown, hb⟩ := hrel
    have hz := hb.size
    by_cases hlt : j < l.length ∧ j < 6
    · obtain ⟨hlt, hlt8⟩ := hlt
      obtain ⟨a, rfl, _, _, hc⟩ := HA.out.below hb j _ (cs_get l j hlt)
      have HC := Lib.hid (short_any l[j] 80 (HS.out _ (List.getElem_mem hlt)) wr)
      have HFX : Hid (fx l[j] = if (cut l[j] 80).toList == [] then ⟨#[45]⟩ else cut l[j] 80) := (rfl : fx l[j] = if (cut l[j] 80).toList == [] then ⟨#[45]⟩ else cut l[j] 80)
      have HSN : Hid (cs ((l.take (j + 1)).map fx) = cs ((l.take j).map fx) ++ [.string (fx l[j])]) := by
        show cs ((l.take (j + 1)).map fx) = cs ((l.take j).map fx) ++ [.string (fx l[j])]
        rw [take_more l j hlt, List.map_append]
        simp [cs]
      go_wp2_with fail
      refine HC.out.mono ?_
      rintro e w1 ⟨rfl, rfl⟩
      clear HC
      generalize cut l[j] 80 = q at HFX ⊢
      obtain ⟨t, ht⟩ : ∃ t, fx l[j] = t := ⟨_, rfl⟩
      rw [ht] at HFX HSN
      clear ht
      have hblk0 := Blk.new wr 9 #[.string t]
      have hown0 : (wr.alloc (.cells #[.string t] 9)).ownsRow w.heap.size 9 1 (.slice A1 j c1) j (cs ((l.take j).map fx)) := own_of hown (fun b e => Below.heap_alloc _ _ _ (own_lt hown e))
      cases hq : (q.toList == []) with
      | true =>
        obtain rfl : t = ⟨#[45]⟩ := by rw [HFX.out, if_pos hq]
        go_wp2_with
          (at_builtin
           refine wpList_append_lies _ rfl (.tmp 23) (.tmp 25) 22 rfl w.heap.size 9 i0 _ 1 16 Tryd.underlying22 HI.out HZ.out HZ1.out HZ2.out rfl (by decide) (.slice A1 j c1) j _ rfl hown0 ⟨wr.heap.size, 0, none⟩ 1 1 [.string ⟨#[45]⟩] rfl rfl (World.news_of_block hblk0) (by intro u hu; simp at hu; subst hu; rfl) (by omega) (by unfold maxLen; omega) (by omega) (by simp; omega) (wr.heap.size + 1) (by simp) ?_
           intro g cap w1 hown1 hgrow hat hlt1
           have HB := Lib.hid (Kept.below (B := w.heap.size) (hb.alloc hz _) ((Kept.refl (fun k => (Value.slice A1 j c1).ownBlock = some k) _).grown hgrow (fun x hx => .inl hx)) (fun k hk => own_base hown hk) (by simp; omega))
           have HO := Lib.hid hown1
           clear hown1 hgrow hat hown0 hblk0 hc)
        go_roundw
        case rel => exact ⟨j + 1, _, _, by omega, by omega, by go_num, rfl, by rw [HSN.out]; exact HO.out, HB.out⟩
        case measure => simp [intOf]; omega
      | false =>
        obtain rfl : t = q := by rw [HFX.out, if_neg (by rw [hq]; decide)]
        go_wp2_with
          (at_builtin
           refine wpList_append_lies _ rfl (.tmp 23) (.tmp 25) 22 rfl w.heap.size 9 i0 _ 1 16 Tryd.underlying22 HI.out HZ.out HZ1.out HZ2.out rfl (by decide) (.slice A1 j c1) j _ rfl hown0 ⟨wr.heap.size, 0, none⟩ 1 1 [.string t] rfl rfl (World.news_of_block hblk0) (by intro u hu; simp at hu; subst hu; rfl) (by omega) (by unfold maxLen; omega) (by omega) (by simp; omega) (wr.heap.size + 1) (by simp) ?_
           intro g cap w1 hown1 hgrow hat hlt1
           have HB := Lib.hid (Kept.below (B := w.heap.size) (hb.alloc hz _) ((Kept.refl (fun k => (Value.slice A1 j c1).ownBlock = some k) _).grown hgrow (fun x hx => .inl hx)) (fun k hk => own_base hown hk) (by simp; omega))
           have HO := Lib.hid hown1
           clear hown1 hgrow hat hown0 hblk0 hc)
        go_roundw
        case rel => exact ⟨j + 1, _, _, by omega, by omega, by go_num, rfl, by rw [HSN.out]; exact HO.out, HB.out⟩
        case measure => simp [intOf]; omega
    · have e : (l.take j).map fx = fw l := by
        unfold fw
        congr 1
        rcases Nat.lt_or_ge 6 l.length with h8 | h8
        · rw [show j = 6 by omega]
        · rw [show j = l.length by omega, List.take_length, List.take_of_length_le h8]
      have HL := Lib.hid (show (fw l).length = j by simp [fw]; omega)
      have HO := Lib.hid hown
      have HE := Lib.hid e
      clear e hown
      go_wp2_with fail
      all_goals go_ret
      all_goals
        refine ⟨A1, c1, by rw [HL.out]; rfl, ?_, hb⟩
        rw [HL.out, ← HE.out]
        exact HO.out

theorem tx_snoc (l : List ByteArray) (s : ByteArray) : tx (l ++ [s]) = tx l ++ [s.data.toList] := by unfold tx; rw [List.map_append]; rfl
theorem allT_length (l : List ByteArray) (h : ∀ s ∈ l, s.size ≤ 40000) : (Fr.all (tx l)).length ≤ 40010 * l.length := by
  induction l with
  | nil => exact Nat.le_refl _
  | cons s l ih =>
    have h1 := ih (fun t ht => h t (by simp [ht]))
    have h2 := h s (by simp)
    have h3 : (Fr.wrap s.data.toList).length ≤ 40010 := by
      unfold Fr.wrap
      split
      · rw [Fr.rec_length, size_list]; omega
      · simp
    rw [show tx (s :: l) = s.data.toList :: tx l from rfl, Fr.all_cons, List.length_append, List.length_cons]
    omega
def AllRel (w : World) (l : List ByteArray) (_x y : Value) (wr : World) : Prop :=
  ∃ j : Nat, j ≤ l.length ∧ y = .int .i64 (j : Int) ∧ Bld w.heap.size w.heap.size (Fr.all (tx (l.take j))) wr ∧ Below w.heap.size w wr
set_option maxHeartbeats 1000000 in
theorem all_any (w : World) (A : Option Addr) (c : Nat) (l : List ByteArray) (ht : Tab w) (hl : l.length ≤ 10000) (hs : ∀ s ∈ l, s.size ≤ 40000) (hA : Lies (fun _ => False) w A (cs l)) :
    Calls Tryd.prog 16 #[.slice A l.length c] w fun e w' => e = .returned (.string (ba (Fr.all (tx l)))) ∧ Below w.heap.size w w' := by
  have HA := Lib.hid hA
  have HS := Lib.hid hs
  have HT := Lib.hid ht
  have HN := Lib.hid (bld_new w)
  clear hA hs ht
  go_enter Tryd.func16, Tryd.ntmps16
  go_wp2_with fail
  go_loopw [5, 8] (AllRel w l) (fun _ i _ => l.length - (intOf i).toNat)
  case atStart => exact ⟨0, by omega, rfl, HN.out, (Below.refl _ w).alloc (Nat.le_refl _) _⟩
  case round =>
    obtain ⟨j, hj, rfl, hbld, hb⟩ := hrel
    have hz := hb.size
    by_cases hlt : j < l.length
    · obtain ⟨a, rfl, _, _, hc⟩ := HA.out.below hb j _ (cs_get l j hlt)
      have HC := Lib.hid (wrap_any l[j] wr (HT.out.below hb HT.out.lt) (HS.out _ (List.getElem_mem hlt)))
      have HLn : Hid ((Fr.all (tx (l.take j))).length + (ba (Fr.wrap (l[j]).data.toList)).size ≤ 1000000000) := by
        show (Fr.all (tx (l.take j))).length + (ba (Fr.wrap (l[j]).data.toList)).size ≤ 1000000000
        have h1 := allT_length (l.take (j + 1)) (fun s hs => HS.out s (List.mem_of_mem_take hs))
        rw [take_more l j hlt, tx_snoc, Fr.all_snoc, List.length_append, List.length_append, List.length_take, List.length_singleton] at h1
        rw [ba_size]
        omega
      have HSN : Hid (Fr.all (tx (l.take (j + 1))) = Fr.all (tx (l.take j)) ++ (ba (Fr.wrap (l[j]).data.toList)).data.toList) := by
        show Fr.all (tx (l.take (j + 1))) = Fr.all (tx (l.take j)) ++ (ba (Fr.wrap (l[j]).data.toList)).data.toList
        rw [ba_list, take_more l j hlt, tx_snoc, Fr.all_snoc]
      have HB := Lib.hid hbld
      clear hbld
      generalize ba (Fr.wrap (l[j]).data.toList) = q at HC HLn HSN
      go_wp2_with fail
      refine HC.out.mono ?_
      rintro e w1 ⟨rfl, hb1⟩
      have HC2 := Lib.hid (bld_write w.heap.size w.heap.size _ q w1 (HB.out.below hb1) HLn.out (by have := hb1.size; omega))
      clear HC
      go_wp2_with fail
      refine HC2.out.mono ?_
      rintro e w2 ⟨rfl, hbld2, hb2⟩
      go_wp2_with fail
      go_roundw
      case rel => exact ⟨j + 1, by omega, by go_num, by rw [HSN.out]; exact hbld2, hb.trans ((hb1.mono hz).trans hb2)⟩
      case measure => simp [intOf]; omega
    · obtain rfl : j = l.length := by omega
      rw [List.take_length] at hbld
      have HC := Lib.hid (bld_string w.heap.size w.heap.size _ wr hbld hz)
      go_wp2_with fail
      refine HC.out.mono ?_
      rintro e w1 ⟨rfl, hb1⟩
      go_wp2_with fail
      go_ret
      exact ⟨rfl, hb.trans hb1⟩

theorem empty_end {L : List UInt8} {j : Nat} (h : L.length ≤ j) : (L.drop j).all (· == 0) = true := by rw [List.drop_eq_nil_of_le h]; rfl
theorem empty_step {L : List UInt8} {j : Nat} (h : j < L.length) : (L.drop j).all (· == 0) = ((L[j] == 0) && (L.drop (j + 1)).all (· == 0)) := by rw [List.drop_eq_getElem_cons h, List.all_cons]
def EmptyRel (w : World) (s : ByteArray) (r : Bool) (y : Value) (wr : World) : Prop := ∃ j : Nat, j ≤ 9223372036854775807 ∧ y = .int .i64 (j : Int) ∧ (s.data.toList.drop j).all (· == 0) = r ∧ w = wr
theorem empty_any (s : ByteArray) (z : Int) (_h1 : -9223372036854775808 ≤ z) (h2 : z ≤ 9223372036854775807) (_hs : s.size ≤ maxLen) (w : World) :
    Calls Tryd.prog 21 #[.string s, .int .i64 z] w fun e w' => e = .returned (.bool (Fr.empty s.data.toList z)) ∧ w = w' := by
  obtain ⟨r, hr⟩ : ∃ r, Fr.empty s.data.toList z = r := ⟨_, rfl⟩
  rw [hr]
  unfold Fr.empty at hr
  have HR := Lib.hid hr
  have HM : Hid (max z 0 = (z.toNat : Int)) := by show max z 0 = (z.toNat : Int); omega
  unfold maxLen at _hs
  clear hr
  go_enter Tryd.func21, Tryd.ntmps21
  go_wp2_with fail
  rw [HM.out]
  go_loopw [5] (EmptyRel w s r) (fun i _ => s.size - (intOf i).toNat)
  case atStart => exact ⟨z.toNat, by omega, rfl, HR.out, rfl⟩
  case round =>
    obtain ⟨j, hj, rfl, hr, rfl⟩ := hrel
    by_cases hlt : j < s.size
    · have hlt' : (j : Int) < (s.size : Int) := by omega
      have hL : j < s.data.toList.length := by rw [size_list]; exact hlt
      rw [empty_step hL] at hr
      have e : s.data.toList[j] = s[j] := rfl
      rw [e] at hr
      have HE := Lib.hid hr
      clear hr e
      by_cases h0 : s[j] = 0
      · have h0' : s[j].toNat = 0 := by rw [h0]; rfl
        go_wp2_with fail
        go_roundw
        case rel => exact ⟨j + 1, by omega, by go_num, by have := HE.out; rw [h0] at this; simpa using this, rfl⟩
        case measure => simp [intOf]; omega
      · have h0' : ¬ s[j].toNat = 0 := by
          intro h
          apply h0
          apply UInt8.toNat_inj.1
          rw [h]; rfl
        go_wp2_with fail
        go_ret
        refine ⟨?_, rfl⟩
        have := HE.out
        rw [beq_false_of_ne h0] at this
        rw [← this]
        rfl
    · have hlt' : ¬ (j : Int) < (s.size : Int) := by omega
      rw [empty_end (by rw [size_list]; omega)] at hr
      subst hr
      go_wp2_with fail
      go_ret
      exact ⟨rfl, rfl⟩
end Go.Proofs.YtgbopohbhnpceaaDoor
