/-
  Contracts of address.lower, withoutTag, without. Condition: texts of at most 1000000 bytes; one variable of the library's holds some number.
-/
import Derived.Test.YtpcbbmafallogaaDoorAdA
namespace Go.Proofs.YtpcbbmafallogaaDoor
open Go.RowKit

theorem set_mid {α : Type} (A B : List α) (x y : α) (k : Nat) (h : A.length = k) : (A ++ x :: B).set k y = A ++ y :: B := by
  subst h
  induction A with
  | nil => rfl
  | cons a A ih => simp
theorem low_up (x : UInt8) (h : 65 ≤ x.toNat ∧ x.toNat ≤ 90) : ((Ad.low1 x).toNat : Int) = (x.toNat : Int) + 97 - 65 := by
  have : ∀ n, n < 256 → 65 ≤ n ∧ n ≤ 90 → (Ad.low1 (UInt8.ofNat n)).toNat = n + 32 := by decide +kernel
  have h2 := this x.toNat x.toNat_lt h
  rw [UInt8.ofNat_toNat] at h2
  omega
theorem low_not (x : UInt8) (h : ¬ (65 ≤ x.toNat ∧ x.toNat ≤ 90)) : Ad.low1 x = x := by
  unfold Ad.low1
  rw [if_neg h]
/-- Lowered so far. -/
def lowTo (L : List UInt8) (k : Nat) : List UInt8 := Ad.low (L.take k) ++ L.drop k
theorem lowTo_length (L : List UInt8) (k : Nat) : (lowTo L k).length = L.length := by
  unfold lowTo Ad.low
  rw [List.length_append, List.length_map, List.length_take, List.length_drop]
  omega
theorem lowTo_get (L : List UInt8) (k : Nat) (h : k < L.length) : lowTo L k = Ad.low (L.take k) ++ L[k] :: L.drop (k + 1) := by
  unfold lowTo
  rw [List.drop_eq_getElem_cons h]
theorem lowTo_at (L : List UInt8) (k : Nat) (h : k < L.length) : (lowTo L k)[k]'(by rw [lowTo_length]; exact h) = L[k] := by
  have hl : (Ad.low (L.take k)).length = k := by simp [Ad.low]; omega
  have h1 : (lowTo L k)[k]? = some L[k] := by
    rw [lowTo_get L k h, List.getElem?_append_right (by omega), hl]
    simp
  rw [List.getElem?_eq_getElem (by rw [lowTo_length]; exact h)] at h1
  exact Option.some.inj h1
theorem lowTo_set (L : List UInt8) (k : Nat) (h : k < L.length) : (lowTo L k).set k (Ad.low1 L[k]) = lowTo L (k + 1) := by
  have hl : (Ad.low (L.take k)).length = k := by simp [Ad.low]; omega
  rw [lowTo_get L k h, set_mid _ _ _ _ k hl]
  unfold lowTo
  rw [List.take_succ_eq_append_getElem h, Ad.low_append, List.append_assoc]
  rfl
theorem lowTo_same (L : List UInt8) (k : Nat) (h : k < L.length) (he : Ad.low1 L[k] = L[k]) : lowTo L k = lowTo L (k + 1) := by
  rw [← lowTo_set L k h, he]
  have := lowTo_at L k h
  conv => rhs; arg 3; rw [← this]
  rw [List.set_getElem_self]

set_option maxHeartbeats 4000000 in
set_option maxRecDepth 100000 in
theorem lower_any (s : ByteArray) (hs : s.size ≤ 1000000) (w : World) :
    Calls Tryd.prog 25 #[.string s] w fun e w' => e = .returned (.string (ba (Ad.low s.data.toList))) ∧ Below w.heap.size w w' := by
  have hcv := run_bytes_of w s
  have HL0 := Lib.hid (BL.new w s)
  have HB0 := Lib.hid (below_bytes w s)
  have hcp := grownCap_ge w s.size 0 5
  obtain ⟨L, hL⟩ : ∃ L, s.data.toList = L := ⟨_, rfl⟩
  have hLl : L.length = s.size := by rw [← hL]; simp
  rw [hL] at HL0 ⊢
  have HLE := Lib.hid hL
  clear hL
  generalize Lib.bytesWorld w 5 s = w1 at hcv HL0 HB0
  generalize grownCap w s.size 0 5 = cp at hcv hcp
  obtain ⟨g, hg⟩ : ∃ g, w.heap.size = g := ⟨_, rfl⟩
  rw [hg] at hcv HL0 HB0 ⊢
  go_enter Tryd.func25, Tryd.ntmps25
  go_wp2_with fail
  go_loopw [4, 5, 10] (fun _ _ i wr => ∃ k : Nat, i = .int .i64 (k : Int) ∧ k ≤ s.size ∧ BL wr g (lowTo L k) ∧ Below g w wr) (fun _ _ i _ => s.size - (intOf i).toNat)
  case atStart => exact ⟨0, rfl, by omega, HL0.out, HB0.out⟩
  case round =>
    clear HL0 HB0
    obtain ⟨k, rfl, hk, hbl, hB⟩ := hrel
    have HB := Lib.hid hB
    clear hB
    by_cases hlt : k < s.size
    · have hki : (k : Int) < (s.size : Int) := by omega
      have hkL : k < L.length := by omega
      obtain ⟨x, hx⟩ : ∃ x, L[k] = x := ⟨_, rfl⟩
      have hxl := x.toNat_lt
      have h2 := hbl k (by rw [lowTo_length]; exact hkL)
      rw [lowTo_at L k hkL, hx] at h2
      obtain ⟨hc, hf⟩ := h2
      have hset := lowTo_set L k hkL
      have hsame := lowTo_same L k hkL
      rw [hx] at hset hsame
      by_cases h65 : 65 ≤ x.toNat
      · have g4 : (65 : Int) ≤ (x.toNat : Int) := by omega
        by_cases h90 : x.toNat ≤ 90
        · have g5 : (x.toNat : Int) ≤ 90 := by omega
          have HLO := Lib.hid (low_up x ⟨h65, h90⟩)
          have HST := Lib.hid (BL.set hbl k (by rw [lowTo_length]; exact hkL) (Ad.low1 x))
          rw [hset, HLO.out] at HST
          have HB2 : Hid (Below g w (wr.setCell ⟨g, k, none⟩ (.int .u8 ((x.toNat : Int) + 97 - 65)))) := Lib.hid (HB.out.setCell (p := ⟨g, k, none⟩) (Nat.le_refl _) _)
          clear hset hsame hbl hx
          go_wp2_with fail
          go_roundw
          case rel => exact ⟨k + 1, by go_num, by omega, HST.out, HB2.out⟩
          case measure => simp [intOf]; omega
        · have g5 : ¬ ((x.toNat : Int) ≤ 90) := by omega
          have he := hsame (low_not x (by omega))
          rw [he] at hbl
          have HBL := Lib.hid hbl
          clear hset hsame hbl hx he
          go_wp2_with fail
          go_roundw
          case rel => exact ⟨k + 1, by go_num, by omega, HBL.out, HB.out⟩
          case measure => simp [intOf]; omega
      · have g4 : ¬ ((65 : Int) ≤ (x.toNat : Int)) := by omega
        have he := hsame (low_not x (by omega))
        rw [he] at hbl
        have HBL := Lib.hid hbl
        clear hset hsame hbl hx he
        go_wp2_with fail
        go_roundw
        case rel => exact ⟨k + 1, by go_num, by omega, HBL.out, HB.out⟩
        case measure => simp [intOf]; omega
    · obtain rfl : k = s.size := by omega
      have he : lowTo L s.size = Ad.low L := by
        unfold lowTo
        rw [List.take_of_length_le (by omega), List.drop_of_length_le (by omega), List.append_nil]
      have hcv2 := BL.text hbl s.size cp (by rw [lowTo_length]; exact hLl)
      rw [he] at hcv2
      clear hbl he
      go_wp2_with fail
      go_ret
      exact ⟨rfl, HB.out⟩

theorem index_at (s : ByteArray) (w : World) : Calls Tryd.prog 34 #[.string s, .int .u8 64] w fun e w' => e = .returned (.int .i64 (Lib.indexByte s.data.toList 64)) ∧ w' = w := index_any s 64 w
theorem run_from (C : List UInt8) (n : Nat) (hn : n ≤ C.length) (W : World) : (Instr.slice 9 (.string (ba C)) (some (.int .i64 (n : Int))) none none).run Tryd.prog W = .ok (.string (ba (C.drop n))) W := by
  rw [run_slice_string_from_if _ _ _ _ _ Tryd.underlying9, if_pos (by rw [ba_size]; omega)]
  have := ext_drop (ba C) n
  rw [ba_list] at this
  rw [← this]
  simp
theorem tag_any (s : ByteArray) (hs : s.size ≤ 1000000) (w : World) (hm : MaxIs w) :
    Calls Tryd.prog 24 #[.string s] w fun e w' => e = .returned (.string (ba (Ad.untag s.data.toList))) ∧ Below w.heap.size w w' := by
  obtain ⟨L, hL⟩ : ∃ L, s.data.toList = L := ⟨_, rfl⟩
  have hLl : L.length = s.size := by rw [← hL]; simp
  have HC := Lib.hid (cut_any s 43 w (by omega) hm)
  rw [hL] at HC
  have h1 := Ad.bef_length_le L 43
  have h2 := Ad.aft_length L 43
  have hno := Ad.untag_no (l := L)
  have hyes := Ad.untag_yes (l := L)
  have hback : s = ba L := by rw [← hL, ba_back]
  rw [hL]
  generalize Ad.bef L 43 = N at HC h1 hyes
  generalize Ad.aft L 43 = A at HC h2 hyes hno
  have HI := Lib.hid (fun W => index_at (ba A) W)
  rw [ba_list, Ad.indexByte_eq] at HI
  have hbl := Ad.bef_length_le A 64
  cases hc : A.contains 64 with
  | false =>
    rw [hc, if_neg (by decide)] at HI
    have hu := hno hc
    have HU := Lib.hid (hu.symm ▸ hback : s = ba (Ad.untag L))
    clear hno hyes hu hback
    generalize Ad.untag L = U at HU ⊢
    clear hc hm hL
    go_enter Tryd.func24, Tryd.ntmps24
    go_wp2_with fail
    refine HC.out.mono ?_
    rintro e w1 ⟨rfl, hb⟩
    have HB := Lib.hid hb
    clear hb HC
    go_wp2_with fail
    refine (HI.out _).mono ?_
    rintro e w2 ⟨rfl, rfl⟩
    go_wp2_with fail
    go_ret
    exact ⟨by rw [← HU.out]; rfl, HB.out⟩
  | true =>
    rw [hc, if_pos rfl] at HI
    have hu := hyes hc
    rw [hu]
    clear hno hyes hu hback
    generalize (Ad.bef A 64).length = n at HI hbl ⊢
    have hsl := run_from A n hbl
    have hz1 : (ba N).size ≤ 1000000 := by rw [ba_size]; omega
    have hz2 : (ba (A.drop n)).size ≤ 1000000 := by rw [ba_size, List.length_drop]; omega
    have HE := Lib.hid (ba_append N (A.drop n))
    generalize ba (A.drop n) = T at hsl hz2 HE
    generalize ba (N ++ A.drop n) = R at HE ⊢
    generalize ba N = NN at HC hz1 HE
    clear hc hm hL
    go_enter Tryd.func24, Tryd.ntmps24
    go_wp2_with fail
    refine HC.out.mono ?_
    rintro e w1 ⟨rfl, hb⟩
    have HB := Lib.hid hb
    clear hb HC
    go_wp2_with fail
    refine (HI.out _).mono ?_
    rintro e w2 ⟨rfl, rfl⟩
    go_wp2_with fail
    go_ret
    exact ⟨by rw [← HE.out]; rfl, HB.out⟩

theorem filter_take_succ (q : UInt8 → Bool) (L : List UInt8) (k : Nat) (h : k < L.length) : (L.take (k + 1)).filter q = (L.take k).filter q ++ (if q L[k] = true then [L[k]] else []) := by
  rw [List.take_succ_eq_append_getElem h, List.filter_append]
  congr 1
  cases hq : q L[k] with
  | true => simp [hq]
  | false => simp [hq]
theorem filter_len (q : UInt8 → Bool) (L : List UInt8) (k : Nat) : ((L.take k).filter q).length ≤ k := by
  have h1 := List.length_filter_le q (L.take k)
  rw [List.length_take] at h1
  omega
set_option maxHeartbeats 4000000 in
set_option maxRecDepth 100000 in
theorem without_any (S s : ByteArray) (q : UInt8 → Bool) (hq : ∀ c, S.data.toList.contains c = !q c) (hs : s.size ≤ 1000000) (w : World) :
    Calls Tryd.prog 31 #[.string S, .string s] w fun e w' => e = .returned (.string (ba (s.data.toList.filter q))) ∧ Below w.heap.size w w' := by
  obtain ⟨i0, hi, hz, hsz, hy⟩ := info_u8
  have HI := Lib.hid hi
  have HZ := Lib.hid hz
  have HZ1 := Lib.hid hsz
  have HZ2 := Lib.hid hy
  obtain ⟨L, hL⟩ : ∃ L, s.data.toList = L := ⟨_, rfl⟩
  have hLl : L.length = s.size := by rw [← hL]; simp
  have HL := Lib.hid hL
  have HQ := Lib.hid hq
  rw [hL]
  have HO1 := Lib.hid (oneof1 S w.heap.size (w.alloc (.cells #[.string S] 9)) ((Blk.new w _ _).cell 0))
  clear hi hz hsz hy hL hq
  go_enter Tryd.func31, Tryd.ntmps31
  go_wp2_with fail
  refine HO1.out.mono ?_
  rintro e w1 ⟨b, rfl, hbox, hb⟩
  have HB1 := Lib.hid (((Below.refl _ w).alloc (Nat.le_refl _) _).trans (hb.mono (by simp)))
  obtain ⟨w2, hmk, hown, hgr⟩ := run_make_own (P := Tryd.prog) w1 w1.heap.size 31 5 i0 (.int .u8 0) 1 Tryd.underlying31 HI.out HZ.out HZ1.out .i64 .i64 s.size (by rw [HZ2.out]; omega) (by unfold maxLen; omega) (Nat.le_refl _)
  have HB2 : Hid (Below w1.heap.size w1 w2) := Lib.hid ((Below.refl _ w1).grown hgr (Nat.le_refl _) (fun k hk => by cases hk))
  have HO := Lib.hid hown
  have blt := World.block_lt_of_cell? _ _ hbox
  have HBX := Lib.hid hbox
  clear hb hown hgr hbox HO1
  unfold isIn
  go_wp2_with fail
  go_loopw [6, 7, 16] (fun v _ i wr => ∃ k n : Nat, ∃ A c, v = .slice A n c ∧ i = .int .i64 (k : Int) ∧ k ≤ s.size ∧ n = ((L.take k).filter q).length ∧ wr.ownsRow w1.heap.size 5 1 (.slice A n c) n (cb ((L.take k).filter q)) ∧ Below w1.heap.size w1 wr) (fun _ _ i _ => s.size - (intOf i).toNat)
  case atStart => exact ⟨0, 0, _, _, rfl, rfl, by omega, by simp, by simpa [cb] using HO.out, HB2.out⟩
  case round =>
    clear HO HB2
    obtain ⟨k, n, A, c, rfl, rfl, hk, hn, ho, hB⟩ := hrel
    have hfl := filter_len q L k
    have HBW := Lib.hid hB
    have HBs := hB.size
    have HOW := Lib.hid ho
    have HN := Lib.hid hn
    have hn2 : n ≤ 1000000 := by omega
    have HCB := Lib.hid ((hB.cell (p := ⟨b, 0, none⟩) blt).trans HBX.out)
    clear ho hB hfl hn
    by_cases hlt : k < s.size
    · have hki : (k : Int) < (s.size : Int) := by omega
      have ht := filter_take_succ q L k (by omega)
      have hsx : L[k]'(by omega) = s[k] := by have h1 := HL.out; subst h1; simp; rfl
      rw [hsx] at ht
      obtain ⟨x, hx⟩ : ∃ x, s[k] = x := ⟨_, rfl⟩
      rw [hx] at ht
      have hxl := x.toNat_lt
      have HC := Lib.hid (in_any b S x wr HCB.out)
      rw [HQ.out x] at HC
      clear hsx
      cases hqx : q x with
      | false =>
        rw [hqx] at HC
        rw [hqx, if_neg (by decide), List.append_nil] at ht
        have HT := Lib.hid ht
        clear ht
        go_wp2_with fail
        refine HC.out.mono ?_
        rintro e w3 ⟨rfl, rfl⟩
        clear HC
        go_wp2_with fail
        go_roundw
        case rel => exact ⟨k + 1, n, A, c, rfl, by go_num, by omega, by rw [HT.out]; exact HN.out, by rw [HT.out]; exact HOW.out, HBW.out⟩
        case measure => simp [intOf]; omega
      | true =>
        rw [hqx] at HC
        rw [hqx, if_pos rfl] at ht
        have HT := Lib.hid ht
        clear ht
        go_wp2_with fail
        refine HC.out.mono ?_
        rintro e w3 ⟨rfl, hw3⟩
        obtain rfl : wr = w3 := hw3.symm
        have hblk0 := Blk.new wr 5 #[.int .u8 (x.toNat : Int)]
        have hown0 : (wr.alloc (.cells #[.int .u8 (x.toNat : Int)] 5)).ownsRow w1.heap.size 5 1 (.slice A n c) n (cb ((L.take k).filter q)) := HOW.out.alloc _
        clear HC hw3
        go_wp2_with
          (at_builtin
           refine wpList_append_lies _ rfl (.tmp 25) (.tmp 29) 31 rfl w1.heap.size 5 i0 _ 1 1 Tryd.underlying31 HI.out HZ.out HZ1.out HZ2.out rfl (by decide) (.slice A n c) n (cb ((L.take k).filter q)) rfl hown0 ⟨wr.heap.size, 0, none⟩ 1 1 [.int .u8 (x.toNat : Int)] rfl rfl (World.news_of_block hblk0) (by intro u hu; simp at hu; subst hu; rfl) (by omega) (by unfold maxLen; omega) (by omega) (by simp; omega) (wr.heap.size + 1) (by simp) ?_
           intro g cap w4 hown2 hgrow hat hlt2
           have HO2 := Lib.hid hown2
           have HB3 := Lib.hid ((HBW.out.alloc HBs _).grown hgrow (by simp; omega) (fun j hj => own_base HOW.out hj))
           clear hown2 hgrow hat hlt2 hown0 hblk0)
        go_roundw
        case rel => exact ⟨k + 1, n + 1, _, _, rfl, by go_num, by omega, by rw [HT.out, List.length_append, ← HN.out]; rfl, by rw [HT.out]; simpa [cb] using HO2.out, HB3.out⟩
        case measure => simp [intOf]; omega
    · obtain rfl : k = s.size := by omega
      have hno := HN.out
      have ho := HOW.out
      rw [List.take_of_length_le (by omega)] at hno ho
      rw [hno] at ho
      have hcv := run_own_text ho
      rw [← hno] at hcv
      clear ho hno
      go_wp2_with fail
      go_ret
      exact ⟨rfl, HB1.out.trans (HBW.out.mono HB1.out.size)⟩
end Go.Proofs.YtpcbbmafallogaaDoor
