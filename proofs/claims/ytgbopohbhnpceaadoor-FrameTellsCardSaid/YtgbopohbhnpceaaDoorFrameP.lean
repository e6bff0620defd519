/-
  Contract of the statements' helper tells (layer 4): whatever text it is handed, the program's answers are the document's. Condition: the table of crc holds what its text says; the text has at most 1000 bytes.
-/
import Derived.Test.YtgbopohbhnpceaaDoorFrameQ
namespace Go.Proofs.YtgbopohbhnpceaaDoor
open Go.RowKit

theorem Lies.made {S : Nat → Prop} (w : World) (t : TypeId) (vs : List Value) (hS : ∀ k, S k → k < w.heap.size) : Lies S (w.alloc (.cells vs.toArray t)) (some ⟨w.heap.size, 0, .none⟩) vs := by
  intro i x hi
  refine ⟨_, rfl, by simp, fun hf => by have := hS _ hf; simp at this, ?_⟩
  have e : (⟨w.heap.size, 0, .none⟩ : Addr).add i = ⟨w.heap.size, i, .none⟩ := by cases i <;> simp [Addr.add]
  rw [e, (Blk.new w t _).cell]
  simpa using hi
theorem tx_map (l : List (List UInt8)) : tx (l.map ba) = l := by
  unfold tx
  rw [List.map_map]
  conv => rhs; rw [← List.map_id l]
  apply List.map_congr_left
  intro t _
  exact ba_list t
theorem refScan_at (s : ByteArray) (hs : s.size ≤ 1000) (m : List ByteArray) (k : Nat) (hm : Fr.scan s.data.toList = (tx m, k)) (w : World) :
    Calls Tryd.prog 24 #[.string s] w fun e w' => ∃ A c, e = .returned (.tuple #[.slice A m.length c, .int .i64 (k : Int)]) ∧ Lies (fun _ => False) w' A (cs m) ∧ Below w.heap.size w w' := by
  have h := refScan_any s hs w
  rw [hm] at h
  simp only [tx_ba, tx_length] at h
  exact h
theorem nB_eq (L : List UInt8) : nB L = decide ((0 : Int) < nN L) := by
  cases h : Fr.next L with
  | none =>
    obtain ⟨_, q2, q3⟩ := n_none h
    rw [q2, q3]
    rfl
  | some t =>
    obtain ⟨_, q2, q3⟩ := n_some h
    rw [q2, q3, decide_eq_true (by omega)]

set_option maxRecDepth 100000 in
set_option maxHeartbeats 4000000 in
theorem tells_any (s : ByteArray) (hs : s.size ≤ 900) (z : Int) (hz1 : -9223372036854775808 ≤ z) (hz2 : z ≤ 9223372036854775807) (w : World) (ht : Tab w) :
    Calls Tryd.prog 13 #[.string s, .int .i64 z] w fun e w' => e = .returned (.bool true) ∧ Below w.heap.size w w' := by
  obtain ⟨m, k, hm⟩ : ∃ m k, Fr.scan s.data.toList = (tx m, k) := ⟨(Fr.scan s.data.toList).1.map ba, (Fr.scan s.data.toList).2, by rw [tx_map]⟩
  have hkl : k ≤ s.size := by have := Fr.scan_le s.data.toList.length s.data.toList (Nat.le_refl _); rw [hm, size_list] at this; exact this
  have hml : m.length ≤ 1000 := by have := scan_count s.data.toList.length s.data.toList (Nat.le_refl _); rw [hm, tx_length] at this; have h2 : m.length ≤ k := this; omega
  have HN := Lib.hid (fun W (hW : Tab W) => next_any' s W (by omega) hW)
  have HN2 := Lib.hid (fun W => refNext_any s W (by omega))
  have HS := Lib.hid (fun W (hW : Tab W) => scan_at s (by omega) m k hm W hW)
  have HS2 := Lib.hid (fun W => refScan_at s (by omega) m k hm W)
  have HW := Lib.hid (fun W (hW : Tab W) => wrap_any s W hW (by omega))
  have HW2 := Lib.hid (fun W => refWrap_any s W (by omega))
  have hx3 : ∀ t ∈ [s, (⟨#[120]⟩ : ByteArray), s], t.size ≤ 1000 := by
    intro t h
    simp at h
    rcases h with rfl | rfl | rfl
    · omega
    · decide
    · omega
  have HA := Lib.hid (fun W c (hW : Tab W) (h : Lies (fun _ => False) W c (cs [s, (⟨#[120]⟩ : ByteArray), s])) => all_any W c 3 [s, (⟨#[120]⟩ : ByteArray), s] hW (by simp) (fun t h => by have := hx3 t h; omega) h)
  have HA2 := Lib.hid (fun W c (h : Lies (fun _ => False) W c (cs [s, (⟨#[120]⟩ : ByteArray), s])) => refAll_any W c 3 [s, (⟨#[120]⟩ : ByteArray), s] (by simp) hx3 h)
  have HE := Lib.hid (fun W => empty_any s z hz1 hz2 (by unfold maxLen; omega) W)
  have HE2 := Lib.hid (fun W => refEmpty_any s z hz1 hz2 (by unfold maxLen; omega) W)
  have HF := Lib.hid (fun W => empty_any s (k : Int) (by omega) (by omega) (by unfold maxLen; omega) W)
  have HF2 := Lib.hid (fun W => refEmpty_any s (k : Int) (by omega) (by omega) (by unfold maxLen; omega) W)
  have hnb := nB_eq s.data.toList
  unfold gotV at HN2
  generalize nS s.data.toList = S1 at HN HN2
  generalize nN s.data.toList = n1 at HN HN2 hnb
  generalize nB s.data.toList = b1 at HN hnb
  generalize ba (Fr.wrap s.data.toList) = Y at HW HW2
  generalize ba (Fr.all (tx [s, (⟨#[120]⟩ : ByteArray), s])) = Z at HA HA2
  generalize Fr.empty s.data.toList z = e1 at HE HE2
  generalize Fr.empty s.data.toList (k : Int) = e2 at HF HF2
  simp only [List.length_cons, List.length_nil, Nat.zero_add, Nat.reduceAdd] at HA HA2
  subst hnb
  have hS1 : (S1.toList == S1.toList) = true := by rw [str_beq]; simp
  have hY1 : (Y.toList == Y.toList) = true := by rw [str_beq]; simp
  have hZ1 : (Z.toList == Z.toList) = true := by rw [str_beq]; simp
  clear hm hx3
  have HT := Lib.hid ht
  go_enter Tryd.func13, Tryd.ntmps13
  go_wp2_with fail
  refine (HN.out _ (by exact HT.out)).mono ?_
  rintro e w1 ⟨rfl, hb1⟩
  have HT1 := Lib.hid (HT.out.below hb1 HT.out.lt)
  have HB1 := Lib.hid hb1
  clear hb1
  go_wp2_with fail
  refine (HN2.out _).mono ?_
  rintro e w2 ⟨rfl, hb2⟩
  have HT2 := Lib.hid (HT1.out.below hb2 HT1.out.lt)
  have HB2 := Lib.hid (HB1.out.trans (hb2.mono HB1.out.size))
  clear hb2
  go_wp2_with fail
  have hb3 : Below w2.heap.size w2 (w2.alloc (.cells #[.string S1, .int .i64 n1] 43)) := (Below.refl _ w2).alloc (Nat.le_refl _) _
  have HT3 := Lib.hid (HT2.out.below hb3 HT2.out.lt)
  have HB3 := Lib.hid (HB2.out.trans (hb3.mono HB2.out.size))
  have HK3 := Lib.hid (Blk.new w2 43 #[.string S1, .int .i64 n1])
  clear hb3
  refine (HS.out _ (by exact HT3.out)).mono ?_
  rintro e w4 ⟨A4, c4, rfl, hl4, hb4⟩
  have HT4 := Lib.hid (HT3.out.below hb4 HT3.out.lt)
  have HB4 := Lib.hid (HB3.out.trans (hb4.mono HB3.out.size))
  have HK4 := Lib.hid (HK3.out.below hb4 HK3.out.lt)
  have HL4 := Lib.hid hl4
  clear hb4 hl4 HK3
  generalize w2.heap.size = g at HK4 ⊢
  go_wp2_with fail
  refine (HS2.out _).mono ?_
  rintro e w5 ⟨A5, c5, rfl, hl5, hb5⟩
  have HT5 := Lib.hid (HT4.out.below hb5 HT4.out.lt)
  have HB5 := Lib.hid (HB4.out.trans (hb5.mono HB4.out.size))
  have HK5 := Lib.hid (HK4.out.below hb5 HK4.out.lt)
  have HL5 := Lib.hid (HL4.out.below hb5)
  have HM5 := Lib.hid hl5
  clear hb5 hl5
  go_wp2_with fail
  refine (same_self _ _ _ _ _ m (by omega) (by exact HL5.out) (by exact HM5.out)).mono ?_
  rintro e w6 ⟨rfl, hb6⟩
  have HT6 := Lib.hid (HT5.out.below hb6 HT5.out.lt)
  have HB6 := Lib.hid (HB5.out.trans (hb6.mono HB5.out.size))
  have hk6 := HK5.out.below hb6 HK5.out.lt
  have hd0 := hk6.cell 0
  have hd1 := hk6.cell 1
  simp only [List.getElem?_toArray, List.getElem?_cons_zero, List.getElem?_cons_succ] at hd0 hd1
  clear hb6 hk6
  go_wp2_with fail
  refine (HW.out _ (by exact HT6.out)).mono ?_
  rintro e w7 ⟨rfl, hb7⟩
  have HT7 := Lib.hid (HT6.out.below hb7 HT6.out.lt)
  have HB7 := Lib.hid (HB6.out.trans (hb7.mono HB6.out.size))
  clear hb7
  go_wp2_with fail
  refine (HW2.out _).mono ?_
  rintro e w8 ⟨rfl, hb8⟩
  have HT8 := Lib.hid (HT7.out.below hb8 HT7.out.lt)
  have HB8 := Lib.hid (HB7.out.trans (hb8.mono HB7.out.size))
  clear hb8
  go_wp2_with fail
  have hb9 : Below w8.heap.size w8 (w8.alloc (.cells #[.string s, .string ⟨#[120]⟩, .string s] 9)) := (Below.refl _ w8).alloc (Nat.le_refl _) _
  have HT9 := Lib.hid (HT8.out.below hb9 HT8.out.lt)
  have HB9 := Lib.hid (HB8.out.trans (hb9.mono HB8.out.size))
  have HL9 := Lib.hid (Lies.made (S := fun _ => False) w8 9 (cs [s, (⟨#[120]⟩ : ByteArray), s]) (fun _ h => h.elim))
  clear hb9
  refine (HA.out _ _ (by exact HT9.out) (by exact HL9.out)).mono ?_
  rintro e wa ⟨rfl, hba⟩
  have HTa := Lib.hid (HT9.out.below hba HT9.out.lt)
  have HBa := Lib.hid (HB9.out.trans (hba.mono HB9.out.size))
  clear hba
  go_wp2_with fail
  have hbb : Below wa.heap.size wa (wa.alloc (.cells #[.string s, .string ⟨#[120]⟩, .string s] 9)) := (Below.refl _ wa).alloc (Nat.le_refl _) _
  have HBb := Lib.hid (HBa.out.trans (hbb.mono HBa.out.size))
  have HLb := Lib.hid (Lies.made (S := fun _ => False) wa 9 (cs [s, (⟨#[120]⟩ : ByteArray), s]) (fun _ h => h.elim))
  clear hbb
  refine (HA2.out _ _ (by exact HLb.out)).mono ?_
  rintro e wc ⟨rfl, hbc⟩
  have HBc := Lib.hid (HBb.out.trans (hbc.mono HBb.out.size))
  clear hbc
  go_wp2_with fail
  refine (HE.out _).mono ?_
  rintro e wd ⟨rfl, rfl⟩
  go_wp2_with fail
  refine (HE2.out _).mono ?_
  rintro e wd ⟨rfl, rfl⟩
  go_wp2_with fail
  refine (HF.out _).mono ?_
  rintro e wd ⟨rfl, rfl⟩
  go_wp2_with fail
  refine (HF2.out _).mono ?_
  rintro e wd ⟨rfl, rfl⟩
  go_wp2_with fail
  go_ret
  exact ⟨rfl, HBc.out⟩
end Go.Proofs.YtgbopohbhnpceaaDoor
