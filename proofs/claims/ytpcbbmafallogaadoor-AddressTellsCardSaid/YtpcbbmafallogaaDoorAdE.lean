/-
  Contracts of address.Split, isMail, Mail, Phone, Any, Kind, Mask. Condition: texts of at most 1000000 bytes; one variable of the library's holds some number.
-/
import Derived.Test.YtpcbbmafallogaaDoorAdB
import Derived.Test.YtpcbbmafallogaaDoorAdD
namespace Go.Proofs.YtpcbbmafallogaaDoor
open Go.RowKit

/-- What the calls tell. -/
def splN (L : List UInt8) : ByteArray := if Ad.mailOk L = true then ba (Ad.bef L 64) else ⟨#[]⟩
def splH (L : List UInt8) : ByteArray := if Ad.mailOk L = true then ba (Ad.aft L 64) else ⟨#[]⟩
def mailB (L : List UInt8) : Bool := Ad.mailOk (Ad.mailText L)
def mailS (L : List UInt8) : ByteArray := if mailB L = true then ba (Ad.mailText L) else ⟨#[]⟩
def phoneB (L : List UInt8) : Bool := Ad.phoneOk (Ad.phoneText L)
def phoneS (L : List UInt8) : ByteArray := if phoneB L = true then ba (Ad.phoneText L) else ⟨#[]⟩
def anyB (L : List UInt8) : Bool := mailB L || phoneB L
def anyS (L : List UInt8) : ByteArray := if mailB L = true then mailS L else phoneS L

set_option maxRecDepth 100000 in
set_option maxHeartbeats 4000000 in
theorem spl_any (s : ByteArray) (hs : s.size ≤ 1000000) (w : World) (hm : MaxIs w) :
    Calls Tryd.prog 28 #[.string s] w fun e w' => e = .returned (.tuple #[.string (splN s.data.toList), .string (splH s.data.toList), .bool (Ad.mailOk s.data.toList)]) ∧ Below w.heap.size w w' := by
  obtain ⟨L, hL⟩ : ∃ L, s.data.toList = L := ⟨_, rfl⟩
  have hLl : L.length = s.size := by rw [← hL]; simp
  have HC := Lib.hid (cut_any s 64 w (by omega) hm)
  rw [hL] at HC ⊢
  have he := Ad.mailOk_eq L
  have h1 := Ad.bef_length_le L 64
  have h2 := Ad.aft_length L 64
  unfold splN splH
  by_cases h40 : 40 < s.size
  · have h40i : (s.size : Int) > 40 := by omega
    rw [hLl, decide_eq_false (by omega)] at he
    have hf : Ad.mailOk L = false := by rw [he]; rfl
    rw [hf]
    clear HC he hf hL hm
    go_enter Tryd.func28, Tryd.ntmps28
    go_wp2_with fail
    go_ret3
    exact ⟨rfl, Below.refl _ _⟩
  · have h40i : ¬ ((s.size : Int) > 40) := by omega
    rw [hLl, decide_eq_true (by omega), Bool.true_and] at he
    rw [he]
    generalize L.contains 64 = fnd at HC
    generalize Ad.bef L 64 = N at HC h1 ⊢
    generalize Ad.aft L 64 = A at HC h2 ⊢
    have HN := Lib.hid (fun W (h : MaxIs W) => name_any (ba N) (by rw [ba_size]; omega) W h)
    have HA := Lib.hid (fun W (h : MaxIs W) => host_any (ba A) (by rw [ba_size]; omega) W h)
    rw [ba_list] at HN HA
    generalize Ad.name N = bn at HN ⊢
    generalize Ad.host A = bh at HA ⊢
    have HM := Lib.hid hm
    generalize ba N = NN at HC HN ⊢
    generalize ba A = AA at HC HA ⊢
    clear he hL hm h1 h2
    cases bn with
    | false =>
      clear HA
      go_enter Tryd.func28, Tryd.ntmps28
      go_wp2_with fail
      refine HC.out.mono ?_
      rintro e w1 ⟨rfl, hb⟩
      have HB := Lib.hid hb
      have HM1 := Lib.hid (HM.out.below hb)
      clear hb HC HM
      go_wp2_with fail
      refine (HN.out _ HM1.out).mono ?_
      rintro e w2 ⟨rfl, hb⟩
      have HB2 := Lib.hid (HB.out.trans (hb.mono HB.out.size))
      clear hb HN HM1
      go_wp2_with fail
      go_ret3
      exact ⟨rfl, HB2.out⟩
    | true =>
      go_enter Tryd.func28, Tryd.ntmps28
      go_wp2_with fail
      refine HC.out.mono ?_
      rintro e w1 ⟨rfl, hb⟩
      have HB := Lib.hid hb
      have HM1 := Lib.hid (HM.out.below hb)
      clear hb HC HM
      go_wp2_with fail
      refine (HN.out _ HM1.out).mono ?_
      rintro e w2 ⟨rfl, hb⟩
      have HB2 := Lib.hid (HB.out.trans (hb.mono HB.out.size))
      have HM2 := Lib.hid (HM1.out.below hb)
      clear hb HN HM1
      go_wp2_with fail
      refine (HA.out _ HM2.out).mono ?_
      rintro e w3 ⟨rfl, hb⟩
      have HB3 := Lib.hid (HB2.out.trans (hb.mono HB2.out.size))
      clear hb HA HM2
      cases bh with
      | false =>
        go_wp2_with fail
        go_ret3
        exact ⟨rfl, HB3.out⟩
      | true =>
        go_wp2_with fail
        go_ret3
        exact ⟨rfl, HB3.out⟩
theorem ismail_any (s : ByteArray) (hs : s.size ≤ 1000000) (w : World) (hm : MaxIs w) :
    Calls Tryd.prog 27 #[.string s] w fun e w' => e = .returned (.bool (Ad.mailOk s.data.toList)) ∧ Below w.heap.size w w' := by
  have HC := Lib.hid (spl_any s hs w hm)
  generalize Ad.mailOk s.data.toList = b at HC ⊢
  generalize splN s.data.toList = N at HC
  generalize splH s.data.toList = A at HC
  clear hm
  go_enter Tryd.func27, Tryd.ntmps27
  go_wp2_with fail
  refine HC.out.mono ?_
  rintro e w1 ⟨rfl, hb⟩
  have HB := Lib.hid hb
  clear hb HC
  go_wp2_with fail
  go_ret
  exact ⟨rfl, HB.out⟩

theorem trim_len (l : List UInt8) : (Ad.trim l).length ≤ l.length := by
  unfold Ad.trim Ad.trimR Ad.trimL
  have h1 := (List.dropWhile_sublist Ad.ws (l := l)).length_le
  have h2 := (List.dropWhile_sublist Ad.ws (l := (l.dropWhile Ad.ws).reverse)).length_le
  simp only [List.length_reverse] at h2 ⊢
  omega
theorem low_len (l : List UInt8) : (Ad.low l).length = l.length := by simp [Ad.low]
theorem untag_len (l : List UInt8) : (Ad.untag l).length ≤ l.length := by
  unfold Ad.untag
  split
  · have h1 : (Ad.pre l).length ≤ l.length := (List.takeWhile_sublist _).length_le
    have h2 := (List.dropWhile_sublist (fun c : UInt8 => c != 64) (l := l.drop (Ad.pre l).length)).length_le
    rw [List.length_drop] at h2
    rw [List.length_append]
    omega
  · omega
set_option maxRecDepth 100000 in
theorem mail_any (s : ByteArray) (hs : s.size ≤ 1000000) (w : World) (hm : MaxIs w) :
    Calls Tryd.prog 13 #[.string s] w fun e w' => e = .returned (.tuple #[.string (mailS s.data.toList), .bool (mailB s.data.toList)]) ∧ Below w.heap.size w w' := by
  unfold mailS mailB Ad.mailText
  have HT := Lib.hid (trim_any s w (by omega))
  have hl1 := trim_len s.data.toList
  rw [show s.data.toList.length = s.size by simp] at hl1
  generalize Ad.trim s.data.toList = T at HT hl1 ⊢
  have hl2 := low_len T
  have HL := Lib.hid (fun W => lower_any (ba T) (by rw [ba_size]; omega) W)
  rw [ba_list] at HL
  generalize Ad.low T = T2 at HL hl2 ⊢
  have hl3 := untag_len T2
  have HU := Lib.hid (fun W (h : MaxIs W) => tag_any (ba T2) (by rw [ba_size]; omega) W h)
  rw [ba_list] at HU
  generalize Ad.untag T2 = T3 at HU hl3 ⊢
  have HI := Lib.hid (fun W (h : MaxIs W) => ismail_any (ba T3) (by rw [ba_size]; omega) W h)
  rw [ba_list] at HI
  generalize Ad.mailOk T3 = b at HI ⊢
  generalize ba T3 = R at HU HI ⊢
  generalize ba T2 = R2 at HU HL
  generalize ba T = R1 at HT HL
  have HM := Lib.hid hm
  clear hl1 hl2 hl3 hm
  go_enter Tryd.func13, Tryd.ntmps13
  go_wp2_with fail
  refine HT.out.mono ?_
  rintro e w1 ⟨rfl, hb⟩
  have HB1 := Lib.hid hb
  have HM1 := Lib.hid (HM.out.below hb)
  clear hb HT HM
  go_wp2_with fail
  refine (HL.out _).mono ?_
  rintro e w2 ⟨rfl, hb⟩
  have HB2 := Lib.hid (HB1.out.trans (hb.mono HB1.out.size))
  have HM2 := Lib.hid (HM1.out.below hb)
  clear hb HL HM1
  go_wp2_with fail
  refine (HU.out _ HM2.out).mono ?_
  rintro e w3 ⟨rfl, hb⟩
  have HB3 := Lib.hid (HB2.out.trans (hb.mono HB2.out.size))
  have HM3 := Lib.hid (HM2.out.below hb)
  clear hb HU HM2
  go_wp2_with fail
  refine (HI.out _ HM3.out).mono ?_
  rintro e w4 ⟨rfl, hb⟩
  have HB4 := Lib.hid (HB3.out.trans (hb.mono HB3.out.size))
  clear hb HI HM3
  cases b with
  | false =>
    go_wp2_with fail
    go_ret2
    exact ⟨rfl, HB4.out⟩
  | true =>
    go_wp2_with fail
    go_ret2
    exact ⟨rfl, HB4.out⟩
set_option maxRecDepth 100000 in
theorem tel_any (s : ByteArray) (hs : s.size ≤ 1000000) (w : World) :
    Calls Tryd.prog 18 #[.string s] w fun e w' => e = .returned (.tuple #[.string (phoneS s.data.toList), .bool (phoneB s.data.toList)]) ∧ Below w.heap.size w w' := by
  unfold phoneS phoneB
  have HT := Lib.hid (without_any ⟨#[32, 9, 45, 46, 40, 41]⟩ s Ad.keepP (fun c => (Ad.set_facts c).2.2.2) hs w)
  have hl1 : (Ad.phoneText s.data.toList).length ≤ s.data.toList.length := List.length_filter_le _ _
  rw [show s.data.toList.length = s.size by simp] at hl1
  rw [show s.data.toList.filter Ad.keepP = Ad.phoneText s.data.toList from rfl] at HT
  generalize Ad.phoneText s.data.toList = T at HT hl1 ⊢
  have HI := Lib.hid (fun W => phone_any (ba T) (by rw [ba_size]; omega) W)
  rw [ba_list] at HI
  generalize Ad.phoneOk T = b at HI ⊢
  generalize ba T = R at HT HI ⊢
  clear hl1
  go_enter Tryd.func18, Tryd.ntmps18
  go_wp2_with fail
  refine HT.out.mono ?_
  rintro e w1 ⟨rfl, hb⟩
  have HB1 := Lib.hid hb
  clear hb HT
  go_wp2_with fail
  refine (HI.out _).mono ?_
  rintro e w2 ⟨rfl, hb⟩
  have HB2 := Lib.hid (HB1.out.trans (hb.mono HB1.out.size))
  clear hb HI
  cases b with
  | false =>
    go_wp2_with fail
    go_ret2
    exact ⟨rfl, HB2.out⟩
  | true =>
    go_wp2_with fail
    go_ret2
    exact ⟨rfl, HB2.out⟩
set_option maxRecDepth 100000 in
theorem any_any (s : ByteArray) (hs : s.size ≤ 1000000) (w : World) (hm : MaxIs w) :
    Calls Tryd.prog 16 #[.string s] w fun e w' => e = .returned (.tuple #[.string (anyS s.data.toList), .bool (anyB s.data.toList)]) ∧ Below w.heap.size w w' := by
  unfold anyS anyB
  have HT := Lib.hid (mail_any s hs w hm)
  have HP := Lib.hid (fun W => tel_any s hs W)
  generalize mailS s.data.toList = S at HT ⊢
  generalize mailB s.data.toList = b at HT ⊢
  generalize phoneS s.data.toList = S2 at HP ⊢
  generalize phoneB s.data.toList = b2 at HP ⊢
  clear hm
  go_enter Tryd.func16, Tryd.ntmps16
  go_wp2_with fail
  refine HT.out.mono ?_
  rintro e w1 ⟨rfl, hb⟩
  have HB1 := Lib.hid hb
  clear hb HT
  cases b with
  | false =>
    go_wp2_with fail
    refine (HP.out _).mono ?_
    rintro e w2 ⟨rfl, hb⟩
    have HB2 := Lib.hid (HB1.out.trans (hb.mono HB1.out.size))
    clear hb HP
    go_wp2_with fail
    go_ret2
    exact ⟨rfl, HB2.out⟩
  | true =>
    go_wp2_with fail
    go_ret2
    exact ⟨rfl, HB1.out⟩
theorem kind_any (s : ByteArray) (hs : s.size ≤ 1000000) (w : World) (hm : MaxIs w) :
    Calls Tryd.prog 21 #[.string s] w fun e w' => e = .returned (.int .i64 (Ad.kind s.data.toList : Int)) ∧ Below w.heap.size w w' := by
  unfold Ad.kind
  have HT := Lib.hid (ismail_any s hs w hm)
  have HP := Lib.hid (fun W => phone_any s hs W)
  generalize Ad.mailOk s.data.toList = b at HT ⊢
  generalize Ad.phoneOk s.data.toList = b2 at HP ⊢
  clear hm
  go_enter Tryd.func21, Tryd.ntmps21
  go_wp2_with fail
  refine HT.out.mono ?_
  rintro e w1 ⟨rfl, hb⟩
  have HB1 := Lib.hid hb
  clear hb HT
  cases b with
  | false =>
    go_wp2_with fail
    refine (HP.out _).mono ?_
    rintro e w2 ⟨rfl, hb⟩
    have HB2 := Lib.hid (HB1.out.trans (hb.mono HB1.out.size))
    clear hb HP
    cases b2 with
    | false =>
      go_wp2_with fail
      go_ret
      exact ⟨rfl, HB2.out⟩
    | true =>
      go_wp2_with fail
      go_ret
      exact ⟨rfl, HB2.out⟩
  | true =>
    go_wp2_with fail
    go_ret
    exact ⟨rfl, HB1.out⟩
theorem run_first (C : List UInt8) (h : 1 ≤ C.length) (W : World) : (Instr.slice 9 (.string (ba C)) none (some (.int .i64 1)) none).run Tryd.prog W = .ok (.string (ba (C.take 1))) W := by
  rw [run_slice_string_to_if _ _ _ _ _ Tryd.underlying9, if_pos (by rw [ba_size]; omega)]
  have := ext_take (ba C) 1
  rw [ba_list] at this
  rw [← this]
  rfl
set_option maxRecDepth 100000 in
set_option maxHeartbeats 4000000 in
theorem mask_any (s : ByteArray) (hs : s.size ≤ 1000000) (w : World) (hm : MaxIs w) :
    Calls Tryd.prog 14 #[.string s] w fun e w' => e = .returned (.string (ba (Ad.mask s.data.toList))) ∧ Below w.heap.size w w' := by
  obtain ⟨L, rfl⟩ : ∃ L, s = ba L := ⟨s.data.toList, (ba_back s).symm⟩
  have HT := Lib.hid (spl_any (ba L) hs w hm)
  have HP := Lib.hid (fun W => phone_any (ba L) hs W)
  rw [ba_list] at HT HP ⊢
  have hl : (ba L).size = L.length := ba_size L
  clear hm
  cases hb : Ad.mailOk L with
  | true =>
    obtain ⟨_, _, _, h4, h5⟩ := Ad.mailOk_parts hb
    have hN : Ad.nm L = Ad.bef L 64 := rfl
    rw [hN] at h5
    have hmk := Ad.mask_mail hb
    have h6 := Ad.bef_length_le L 64
    have h7 := Ad.aft_length L 64
    rw [hb] at HT
    rw [show splN L = ba (Ad.bef L 64) by unfold splN; rw [if_pos hb], show splH L = ba (Ad.aft L 64) by unfold splH; rw [if_pos hb]] at HT
    rw [hmk]
    generalize Ad.bef L 64 = N at HT h5 h6 ⊢
    generalize Ad.aft L 64 = A at HT h7 ⊢
    have hsl := run_first N h5
    have hz1 : (ba (N.take 1)).size ≤ 1 := by rw [ba_size, List.length_take]; omega
    have hz2 : (ba A).size ≤ 1000000 := by rw [ba_size]; omega
    have HE : Hid (ba (N.take 1 ++ [42, 42, 42] ++ ([64] ++ A)) = ba (N.take 1) ++ ⟨#[42, 42, 42]⟩ ++ ⟨#[64]⟩ ++ ba A) := by
      have e1 : (⟨#[42, 42, 42]⟩ : ByteArray) = ba [42, 42, 42] := rfl
      have e2 : (⟨#[64]⟩ : ByteArray) = ba [64] := rfl
      rw [e1, e2, ba_append, ba_append, ba_append]
      exact Lib.hid (by simp)
    generalize ba (N.take 1 ++ [42, 42, 42] ++ ([64] ++ A)) = R at HE ⊢
    generalize ba (N.take 1) = N1 at hsl hz1 HE
    generalize ba A = AA at HT hz2 HE
    generalize ba N = NN at HT hsl
    have z1 : (N1 ++ ⟨#[42, 42, 42]⟩).size ≤ 4 := by rw [ByteArray.size_append]; have : (⟨#[42, 42, 42]⟩ : ByteArray).size = 3 := rfl; omega
    have z2 : (N1 ++ ⟨#[42, 42, 42]⟩ ++ ⟨#[64]⟩).size ≤ 5 := by rw [ByteArray.size_append]; have : (⟨#[64]⟩ : ByteArray).size = 1 := rfl; omega
    clear hb hmk h4 h5 h6 h7 hN HP z1 z2 hl
    generalize ba L = S at HT hs ⊢
    go_enter Tryd.func14, Tryd.ntmps14
    go_wp2_with fail
    refine HT.out.mono ?_
    rintro e w1 ⟨rfl, hb⟩
    have HB1 := Lib.hid hb
    clear hb HT
    go_wp2_with fail
    go_ret
    exact ⟨by rw [HE.out]; rfl, HB1.out⟩
  | false =>
    rw [hb] at HT
    have hmk : Ad.mask L = if Ad.phoneOk L = true then [43, 42, 42, 42] ++ L.drop (L.length - 2) else [42, 42, 42] := by
      unfold Ad.mask
      rw [if_neg (by rw [hb]; decide)]
    rw [hmk]
    clear hmk hb
    cases hp : Ad.phoneOk L with
    | false =>
      rw [hp] at HP
      clear hp
      go_enter Tryd.func14, Tryd.ntmps14
      go_wp2_with fail
      refine HT.out.mono ?_
      rintro e w1 ⟨rfl, hb⟩
      have HB1 := Lib.hid hb
      clear hb HT
      go_wp2_with fail
      refine (HP.out _).mono ?_
      rintro e w2 ⟨rfl, hb⟩
      have HB2 := Lib.hid (HB1.out.trans (hb.mono HB1.out.size))
      clear hb HP
      go_wp2_with fail
      go_ret
      exact ⟨rfl, HB2.out⟩
    | true =>
      rw [hp] at HP
      have h9 : 9 ≤ L.length := by
        unfold Ad.phoneOk at hp
        simp only [Bool.and_eq_true, decide_eq_true_eq] at hp
        exact hp.1.1.1.1
      obtain ⟨n, hn⟩ : ∃ n, L.length - 2 = n := ⟨_, rfl⟩
      have hni : ((ba L).size : Int) - 2 = (n : Int) := by omega
      have hD : (ba L).extract n L.length = ba (L.drop n) := by
        have := ext_drop (ba L) n
        rwa [ba_list, ba_size] at this
      have hz : ((ba L).extract n L.length).size ≤ 2 := by rw [hD, ba_size, List.length_drop]; omega
      rw [if_pos rfl, hn]
      have HE : Hid (ba ([43, 42, 42, 42] ++ L.drop n) = ⟨#[43, 42, 42, 42]⟩ ++ (ba L).extract n L.length) := by
        have e1 : (⟨#[43, 42, 42, 42]⟩ : ByteArray) = ba [43, 42, 42, 42] := rfl
        rw [hD, e1, ba_append]
        exact Lib.hid rfl
      generalize ba ([43, 42, 42, 42] ++ L.drop n) = R at HE ⊢
      clear hD
      generalize ba L = S at HT HP hni hz hs hl HE
      clear hp
      go_enter Tryd.func14, Tryd.ntmps14
      go_wp2_with fail
      refine HT.out.mono ?_
      rintro e w1 ⟨rfl, hb⟩
      have HB1 := Lib.hid hb
      clear hb HT
      go_wp2_with fail
      refine (HP.out _).mono ?_
      rintro e w2 ⟨rfl, hb⟩
      have HB2 := Lib.hid (HB1.out.trans (hb.mono HB1.out.size))
      clear hb HP
      go_wp2_with fail
      go_ret
      exact ⟨by rw [HE.out]; rfl, HB2.out⟩
end Go.Proofs.YtpcbbmafallogaaDoor
