/-
  Contracts of the law's once and splits: they return true. Condition: texts of at most 1000000 bytes; one variable of the library's holds some number.
-/
import Derived.Test.YtpcbbmafallogaaDoorAdF
import Derived.Test.YtpcbbmafallogaaDoorAdK
namespace Go.Proofs.YtpcbbmafallogaaDoor
open Go.RowKit

theorem phone_len {L : List UInt8} (h : Ad.phoneOk L = true) : L.length ≤ 16 := by
  unfold Ad.phoneOk at h
  simp only [Bool.and_eq_true, decide_eq_true_eq] at h
  exact h.1.1.1.2
set_option maxRecDepth 100000 in
set_option maxHeartbeats 8000000 in
theorem once_any (s : ByteArray) (hs : s.size ≤ 1000000) (w : World) (hm : MaxIs w) :
    Calls Tryd.prog 12 #[.string s] w fun e w' => e = .returned (.bool true) ∧ Below w.heap.size w w' := by
  have HT := Lib.hid (mail_any s hs w hm)
  have HP := Lib.hid (fun W => tel_any s hs W)
  have HM := Lib.hid hm
  have hnb := Ad.never_both s.data.toList
  clear hm
  cases hmb : mailB s.data.toList with
  | true =>
    have hpb : phoneB s.data.toList = false := hnb hmb
    have hok : Ad.mailOk (Ad.mailText s.data.toList) = true := hmb
    have e1 : mailS s.data.toList = ba (Ad.mailText s.data.toList) := by unfold mailS; rw [if_pos hmb]
    have e2 : phoneS s.data.toList = ⟨#[]⟩ := by unfold phoneS; rw [if_neg (by rw [hpb]; decide)]
    rw [hmb, e1] at HT
    rw [hpb, e2] at HP
    generalize Ad.mailText s.data.toList = M at HT hok
    have h40 := (Ad.mailOk_parts hok).2.2.2.1
    have hz : (ba M).size ≤ 40 := by rw [ba_size]; exact h40
    have H2 := Lib.hid (fun W h => mail_any (ba M) (by omega) W h)
    have H3 := Lib.hid (fun W h => kind_any (ba M) (by omega) W h)
    have em : mailS M = ba M := by unfold mailS mailB; rw [Ad.mailText_self hok, if_pos hok]
    have eb : mailB M = true := by unfold mailB; rw [Ad.mailText_self hok, hok]
    have ek : Ad.kind M = 1 := by unfold Ad.kind; rw [if_pos hok]
    rw [ba_list, em, eb] at H2
    rw [ba_list, ek] at H3
    generalize ba M = T at HT hz H2 H3
    have hself : (T.toList == T.toList) = true := by simp
    have hzi : (T.size : Int) ≤ 40 := by omega
    clear hnb hmb hpb hok e1 e2 h40 em eb ek
    go_enter Tryd.func12, Tryd.ntmps12
    go_wp2_with fail
    refine HT.out.mono ?_
    rintro e w1 ⟨rfl, hb⟩
    have HB1 := Lib.hid hb
    have HM1 := Lib.hid (HM.out.below hb)
    clear hb HT HM
    go_wp2_with fail
    refine (HP.out _).mono ?_
    rintro e w2 ⟨rfl, hb⟩
    have HB2 := Lib.hid (HB1.out.trans (hb.mono HB1.out.size))
    have HM2 := Lib.hid (HM1.out.below hb)
    clear hb HP HM1
    go_wp2_with fail
    refine (H2.out _ HM2.out).mono ?_
    rintro e w3 ⟨rfl, hb⟩
    have HB3 := Lib.hid (HB2.out.trans (hb.mono HB2.out.size))
    have HM3 := Lib.hid (HM2.out.below hb)
    clear hb H2 HM2
    go_wp2_with fail
    refine (H3.out _ HM3.out).mono ?_
    rintro e w4 ⟨rfl, hb⟩
    have HB4 := Lib.hid (HB3.out.trans (hb.mono HB3.out.size))
    clear hb H3 HM3
    go_wp2_with fail
    go_ret
    exact ⟨rfl, HB4.out⟩
  | false =>
    have e1 : mailS s.data.toList = ⟨#[]⟩ := by unfold mailS; rw [if_neg (by rw [hmb]; decide)]
    rw [hmb, e1] at HT
    cases hpb : phoneB s.data.toList with
    | false =>
      have e2 : phoneS s.data.toList = ⟨#[]⟩ := by unfold phoneS; rw [if_neg (by rw [hpb]; decide)]
      rw [hpb, e2] at HP
      clear hnb hmb hpb e1 e2
      go_enter Tryd.func12, Tryd.ntmps12
      go_wp2_with fail
      refine HT.out.mono ?_
      rintro e w1 ⟨rfl, hb⟩
      have HB1 := Lib.hid hb
      clear hb HT HM
      go_wp2_with fail
      refine (HP.out _).mono ?_
      rintro e w2 ⟨rfl, hb⟩
      have HB2 := Lib.hid (HB1.out.trans (hb.mono HB1.out.size))
      clear hb HP
      go_wp2_with fail
      go_ret
      exact ⟨rfl, HB2.out⟩
    | true =>
      have hok : Ad.phoneOk (Ad.phoneText s.data.toList) = true := hpb
      have e2 : phoneS s.data.toList = ba (Ad.phoneText s.data.toList) := by unfold phoneS; rw [if_pos hpb]
      rw [hpb, e2] at HP
      generalize Ad.phoneText s.data.toList = M at HP hok
      have h16 := phone_len hok
      have hz : (ba M).size ≤ 16 := by rw [ba_size]; exact h16
      have H2 := Lib.hid (fun W => tel_any (ba M) (by omega) W)
      have H3 := Lib.hid (fun W h => kind_any (ba M) (by omega) W h)
      have em : phoneS M = ba M := by unfold phoneS phoneB; rw [Ad.phoneText_self hok, if_pos hok]
      have eb : phoneB M = true := by unfold phoneB; rw [Ad.phoneText_self hok, hok]
      have ek : Ad.kind M = 2 := by
        unfold Ad.kind
        rw [if_neg (fun h2 => by rw [Ad.not_both _ h2] at hok; cases hok), if_pos hok]
      rw [ba_list, em, eb] at H2
      rw [ba_list, ek] at H3
      generalize ba M = T at HP hz H2 H3
      have hself : (T.toList == T.toList) = true := by simp
      have hzi : (T.size : Int) ≤ 16 := by omega
      clear hnb hmb hpb hok e1 e2 h16 em eb ek
      go_enter Tryd.func12, Tryd.ntmps12
      go_wp2_with fail
      refine HT.out.mono ?_
      rintro e w1 ⟨rfl, hb⟩
      have HB1 := Lib.hid hb
      have HM1 := Lib.hid (HM.out.below hb)
      clear hb HT HM
      go_wp2_with fail
      refine (HP.out _).mono ?_
      rintro e w2 ⟨rfl, hb⟩
      have HB2 := Lib.hid (HB1.out.trans (hb.mono HB1.out.size))
      have HM2 := Lib.hid (HM1.out.below hb)
      clear hb HP HM1
      go_wp2_with fail
      refine (H2.out _).mono ?_
      rintro e w3 ⟨rfl, hb⟩
      have HB3 := Lib.hid (HB2.out.trans (hb.mono HB2.out.size))
      have HM3 := Lib.hid (HM2.out.below hb)
      clear hb H2 HM2
      go_wp2_with fail
      refine (H3.out _ HM3.out).mono ?_
      rintro e w4 ⟨rfl, hb⟩
      have HB4 := Lib.hid (HB3.out.trans (hb.mono HB3.out.size))
      clear hb H3 HM3
      go_wp2_with fail
      go_ret
      exact ⟨rfl, HB4.out⟩

set_option maxRecDepth 100000 in
set_option maxHeartbeats 8000000 in
theorem splits_any (s : ByteArray) (hs : s.size ≤ 1000000) (w : World) (hm : MaxIs w) :
    Calls Tryd.prog 15 #[.string s] w fun e w' => e = .returned (.bool true) ∧ Below w.heap.size w w' := by
  have HT := Lib.hid (spl_any s hs w hm)
  have HR := Lib.hid (fun W => rkind_any s hs W)
  have HM := Lib.hid hm
  clear hm
  cases hok : Ad.mailOk s.data.toList with
  | false =>
    have e1 : splN s.data.toList = ⟨#[]⟩ := by unfold splN; rw [if_neg (by rw [hok]; decide)]
    have e2 : splH s.data.toList = ⟨#[]⟩ := by unfold splH; rw [if_neg (by rw [hok]; decide)]
    have hk : Ad.kind s.data.toList ≠ 1 := by
      unfold Ad.kind
      rw [if_neg (by rw [hok]; decide)]
      split <;> decide
    rw [hok, e1, e2] at HT
    generalize Ad.kind s.data.toList = k at HR hk
    have hki : ¬ (k : Int) = 1 := by omega
    clear hok e1 e2 HM
    go_enter Tryd.func15, Tryd.ntmps15
    go_wp2_with fail
    refine HT.out.mono ?_
    rintro e w1 ⟨rfl, hb⟩
    have HB1 := Lib.hid hb
    clear hb HT
    go_wp2_with fail
    refine (HR.out _).mono ?_
    rintro e w2 ⟨rfl, rfl⟩
    go_wp2_with fail
    go_ret
    exact ⟨rfl, HB1.out⟩
  | true =>
    have e1 : splN s.data.toList = ba (Ad.bef s.data.toList 64) := by unfold splN; rw [if_pos hok]
    have e2 : splH s.data.toList = ba (Ad.aft s.data.toList 64) := by unfold splH; rw [if_pos hok]
    have ek : Ad.kind s.data.toList = 1 := by unfold Ad.kind; rw [if_pos hok]
    obtain ⟨h1, h2, _, h4, h5⟩ := Ad.mailOk_parts hok
    have h6 := Ad.mailOk_z hok
    have en : Ad.nm s.data.toList = Ad.bef s.data.toList 64 := rfl
    have eh : Ad.hs s.data.toList = Ad.aft s.data.toList 64 := rfl
    rw [en, eh] at h1
    rw [en] at h2 h5
    rw [eh] at h6
    rw [hok, e1, e2] at HT
    rw [ek] at HR
    have hN := Ad.bef_length_le s.data.toList 64
    have hA := Ad.aft_length s.data.toList 64
    rw [show s.data.toList.length = s.size by simp] at hN hA h4
    generalize Ad.bef s.data.toList 64 = N at HT h1 h2 h5 hN
    generalize Ad.aft s.data.toList 64 = A at HT h1 h6 hA
    have hcat : ba N ++ ⟨#[64]⟩ ++ ba A = s := by
      have a1 : (⟨#[64]⟩ : ByteArray) = ba [64] := rfl
      rw [a1, ba_append, ba_append, ← ba_back s, h1]
      simp
    have hz : (⟨#[122, 64]⟩ ++ ba A : ByteArray) = ba (122 :: 64 :: A) := ba_append [122, 64] A
    have H2 := Lib.hid (fun W h => kind_any (ba N) (by rw [ba_size]; omega) W h)
    rw [ba_list, Ad.kind_name h2] at H2
    have H3 := Lib.hid (fun W => rkind_any (ba (122 :: 64 :: A)) (by rw [ba_size]; simp; omega) W)
    rw [ba_list, show Ad.kind (122 :: 64 :: A) = 1 by unfold Ad.kind; rw [if_pos h6], ← hz] at H3
    have hne := not_empty (s := ba N) (by rw [ba_size]; omega)
    have hzN : (ba N).size ≤ 40 := by rw [ba_size]; omega
    have hzA : (ba A).size ≤ 40 := by rw [ba_size]; omega
    generalize ba N = NN at HT hcat H2 hne hzN
    generalize ba A = AA at HT hcat H3 hzA
    have hz1 : (NN ++ ⟨#[64]⟩ : ByteArray).size ≤ 41 := by rw [ByteArray.size_append]; have : (⟨#[64]⟩ : ByteArray).size = 1 := rfl; omega
    obtain ⟨hne1, hne2⟩ := hne
    have hself : (s.toList == s.toList) = true := by simp
    clear hok e1 e2 ek h1 h2 h4 h5 h6 en eh hN hA hz
    go_enter Tryd.func15, Tryd.ntmps15
    go_wp2_with fail
    refine HT.out.mono ?_
    rintro e w1 ⟨rfl, hb⟩
    have HB1 := Lib.hid hb
    have HM1 := Lib.hid (HM.out.below hb)
    clear hb HT HM
    go_wp2_with fail
    refine (HR.out _).mono ?_
    rintro e w2 ⟨rfl, hw2⟩
    obtain rfl : w1 = w2 := hw2.symm
    clear hw2 HR
    go_wp2_with fail
    refine (H2.out _ HM1.out).mono ?_
    rintro e w3 ⟨rfl, hb⟩
    have HB3 := Lib.hid (HB1.out.trans (hb.mono HB1.out.size))
    clear hb H2 HM1
    go_wp2_with fail
    refine (H3.out _).mono ?_
    rintro e w4 ⟨rfl, hw4⟩
    obtain rfl : w3 = w4 := hw4.symm
    clear hw4 H3
    go_wp2_with fail
    go_ret
    exact ⟨rfl, HB3.out⟩
end Go.Proofs.YtpcbbmafallogaaDoor
