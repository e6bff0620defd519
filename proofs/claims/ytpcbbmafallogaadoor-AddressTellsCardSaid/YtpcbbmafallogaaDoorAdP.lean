/-
  Contracts of the document's own Phone, Any, Mask, and of the law's tells. Condition: texts of at most 1000000 bytes; one variable of the library's holds some number.
-/
import Derived.Test.YtpcbbmafallogaaDoorAdN
import Derived.Test.YtpcbbmafallogaaDoorAdF
namespace Go.Proofs.YtpcbbmafallogaaDoor
open Go.RowKit

theorem keep_not (x : UInt8) (h : Ad.keepP x = false) : x = 32 ∨ x = 9 ∨ x = 45 ∨ x = 46 ∨ x = 40 ∨ x = 41 := by
  unfold Ad.keepP at h
  simp only [Bool.not_eq_eq_eq_not, Bool.not_false, Bool.or_eq_true, beq_iff_eq, or_assoc] at h
  exact h
theorem keep_yes (x : UInt8) (h : Ad.keepP x = true) : ((x.toNat : Int) != 32) = true ∧ ((x.toNat : Int) != 9) = true ∧ ((x.toNat : Int) != 45) = true ∧ ((x.toNat : Int) != 46) = true ∧ ((x.toNat : Int) != 40) = true ∧ ((x.toNat : Int) != 41) = true := by
  have hx : x ≠ 32 ∧ x ≠ 9 ∧ x ≠ 45 ∧ x ≠ 46 ∧ x ≠ 40 ∧ x ≠ 41 := by
    unfold Ad.keepP at h
    simpa [and_assoc] using h
  obtain ⟨h1, h2, h3, h4, h5, h6⟩ := hx
  rw [ne_int x 32 32 rfl, ne_int x 9 9 rfl, ne_int x 45 45 rfl, ne_int x 46 46 rfl, ne_int x 40 40 rfl, ne_int x 41 41 rfl]
  simp [h1, h2, h3, h4, h5, h6]
set_option maxRecDepth 100000 in
set_option maxHeartbeats 16000000 in
theorem rtel_any (s : ByteArray) (hs : s.size ≤ 1000000) (w : World) :
    Calls Tryd.prog 19 #[.string s] w fun e w' => e = .returned (.tuple #[.string (phoneS s.data.toList), .bool (phoneB s.data.toList)]) ∧ Below w.heap.size w w' := by
  obtain ⟨i0, hi, hz, hsz, hy⟩ := info_u8
  have HI := Lib.hid hi
  have HZ := Lib.hid hz
  have HZ1 := Lib.hid hsz
  have HZ2 := Lib.hid hy
  clear hi hz hsz hy
  obtain ⟨T, rfl⟩ : ∃ T, s = ba T := ⟨s.data.toList, (ba_back s).symm⟩
  rw [ba_list]
  obtain ⟨S2, hS2⟩ : ∃ S, ba T = S := ⟨_, rfl⟩
  have hTz : T.length = S2.size := by rw [← hS2, ba_size]
  rw [hS2] at hs ⊢
  have HTS := Lib.hid (fun k (h : k < S2.size) (h2 : k < T.length) => (by subst hS2; rfl : S2[k] = T[k]))
  clear hS2
  go_enter Tryd.func19, Tryd.ntmps19
  go_wp2_with fail
  go_loopw [4, 5, 6] (fun v i _ wr => ∃ k n : Nat, ∃ A c, v = .slice A n c ∧ i = .int .i64 (k : Int) ∧ k ≤ S2.size ∧ n = ((T.take k).filter Ad.keepP).length ∧ wr.ownsRow w.heap.size 5 1 (.slice A n c) n (cb ((T.take k).filter Ad.keepP)) ∧ Below w.heap.size w wr) (fun _ i _ _ => S2.size - (intOf i).toNat)
  case atStart => exact ⟨0, 0, none, 0, rfl, rfl, by omega, rfl, World.ownsRow_nil _ _ _ _, Below.refl _ _⟩
  case round =>
    obtain ⟨k, n, A, c, rfl, rfl, hk, hn, ho, hB⟩ := hrel
    have hfl := filter_len Ad.keepP T k
    have HBW := Lib.hid hB
    have HBs := hB.size
    have HOW := Lib.hid ho
    have HN := Lib.hid hn
    have hn2 : n ≤ 1000000 := by omega
    clear ho hB hfl hn
    by_cases hlt : k < S2.size
    · have hki : (k : Int) < (S2.size : Int) := by omega
      have hkT : k < T.length := by omega
      have ht := filter_take_succ Ad.keepP T k hkT
      rw [← HTS.out k hlt hkT] at ht
      obtain ⟨x, hx⟩ : ∃ x, S2[k] = x := ⟨_, rfl⟩
      rw [hx] at ht
      have hxl := x.toNat_lt
      cases hkp : Ad.keepP x with
      | false =>
        rw [hkp, if_neg (by decide), List.append_nil] at ht
        have HT := Lib.hid ht
        clear ht
        rcases keep_not x hkp with h | h | h | h | h | h
        · have g : (x.toNat : Int) = 32 := by rw [h]; rfl
          clear h hkp
          go_wp2_with fail
          go_roundw
          case rel => exact ⟨k + 1, n, A, c, rfl, by go_num, by omega, by rw [HT.out]; exact HN.out, by rw [HT.out]; exact HOW.out, HBW.out⟩
          case measure => simp [intOf]; omega
        · have g : (x.toNat : Int) = 9 := by rw [h]; rfl
          clear h hkp
          go_wp2_with fail
          go_roundw
          case rel => exact ⟨k + 1, n, A, c, rfl, by go_num, by omega, by rw [HT.out]; exact HN.out, by rw [HT.out]; exact HOW.out, HBW.out⟩
          case measure => simp [intOf]; omega
        · have g : (x.toNat : Int) = 45 := by rw [h]; rfl
          clear h hkp
          go_wp2_with fail
          go_roundw
          case rel => exact ⟨k + 1, n, A, c, rfl, by go_num, by omega, by rw [HT.out]; exact HN.out, by rw [HT.out]; exact HOW.out, HBW.out⟩
          case measure => simp [intOf]; omega
        · have g : (x.toNat : Int) = 46 := by rw [h]; rfl
          clear h hkp
          go_wp2_with fail
          go_roundw
          case rel => exact ⟨k + 1, n, A, c, rfl, by go_num, by omega, by rw [HT.out]; exact HN.out, by rw [HT.out]; exact HOW.out, HBW.out⟩
          case measure => simp [intOf]; omega
        · have g : (x.toNat : Int) = 40 := by rw [h]; rfl
          clear h hkp
          go_wp2_with fail
          go_roundw
          case rel => exact ⟨k + 1, n, A, c, rfl, by go_num, by omega, by rw [HT.out]; exact HN.out, by rw [HT.out]; exact HOW.out, HBW.out⟩
          case measure => simp [intOf]; omega
        · have g : (x.toNat : Int) = 41 := by rw [h]; rfl
          clear h hkp
          go_wp2_with fail
          go_roundw
          case rel => exact ⟨k + 1, n, A, c, rfl, by go_num, by omega, by rw [HT.out]; exact HN.out, by rw [HT.out]; exact HOW.out, HBW.out⟩
          case measure => simp [intOf]; omega
      | true =>
        rw [hkp, if_pos rfl] at ht
        obtain ⟨k1, k2, k3, k4, k5, k6⟩ := keep_yes x hkp
        clear hkp
        have HT2 := Lib.hid ht
        have hblk0 := Blk.new wr 5 #[.int .u8 (x.toNat : Int)]
        have hown0 : (wr.alloc (.cells #[.int .u8 (x.toNat : Int)] 5)).ownsRow w.heap.size 5 1 (.slice A n c) n (cb ((T.take k).filter Ad.keepP)) := HOW.out.alloc _
        clear ht
        go_wp2_with
          (at_builtin
           refine wpList_append_lies _ rfl (.tmp 39) (.tmp 41) 31 rfl w.heap.size 5 i0 _ 1 1 Tryd.underlying31 HI.out HZ.out HZ1.out HZ2.out rfl (by decide) (.slice A n c) n (cb ((T.take k).filter Ad.keepP)) rfl hown0 ⟨wr.heap.size, 0, none⟩ 1 1 [.int .u8 (x.toNat : Int)] rfl rfl (World.news_of_block hblk0) (by intro u hu; simp at hu; subst hu; rfl) (by omega) (by unfold maxLen; omega) (by omega) (by simp; omega) (wr.heap.size + 1) (by simp) ?_
           intro g cap w4 hown2 hgrow hat hlt2
           have HO2 := Lib.hid hown2
           have HB3 := Lib.hid ((HBW.out.alloc HBs _).grown hgrow (by simp; omega) (fun j hj => own_base HOW.out hj))
           clear hown2 hgrow hat hlt2 hown0 hblk0)
        go_roundw
        case rel => exact ⟨k + 1, n + 1, _, _, rfl, by go_num, by omega, by rw [HT2.out, List.length_append, ← HN.out]; rfl, by rw [HT2.out]; have h := HO2.out; simpa [cb] using h, HB3.out⟩
        case measure => simp [intOf]; omega
    · obtain rfl : k = S2.size := by omega
      have hno := HN.out
      have ho := HOW.out
      rw [List.take_of_length_le (by omega)] at hno ho
      rw [show T.filter Ad.keepP = Ad.phoneText T from rfl] at hno ho
      rw [hno] at ho
      have hcv := run_own_text ho
      rw [← hno] at hcv
      have HRES : Hid (phoneB T = Ad.phoneOk (Ad.phoneText T) ∧ phoneS T = if Ad.phoneOk (Ad.phoneText T) = true then ba (Ad.phoneText T) else ⟨#[]⟩) := Lib.hid ⟨rfl, rfl⟩
      have hI2 := risphone_any (ba (Ad.phoneText T)) (by rw [ba_size, ← hno]; omega) wr
      rw [ba_list] at hI2
      have HI2 := Lib.hid hI2
      generalize ba (Ad.phoneText T) = R at hcv HRES HI2
      generalize Ad.phoneOk (Ad.phoneText T) = b at HRES HI2
      clear ho hno HN HOW hI2
      go_wp2_with fail
      refine HI2.out.mono ?_
      rintro e w5 ⟨rfl, hw5⟩
      obtain rfl : wr = w5 := hw5.symm
      clear hw5 HI2
      cases b with
      | false =>
        go_wp2_with fail
        go_ret2
        exact ⟨by rw [HRES.out.1, HRES.out.2]; rfl, HBW.out⟩
      | true =>
        go_wp2_with fail
        go_ret2
        exact ⟨by rw [HRES.out.1, HRES.out.2]; rfl, HBW.out⟩
set_option maxRecDepth 100000 in
theorem rany_any (s : ByteArray) (hs : s.size ≤ 1000000) (w : World) :
    Calls Tryd.prog 20 #[.string s] w fun e w' => e = .returned (.tuple #[.string (anyS s.data.toList), .bool (anyB s.data.toList)]) ∧ Below w.heap.size w w' := by
  unfold anyS anyB
  have HT := Lib.hid (rmail_any s hs w)
  have HP := Lib.hid (fun W => rtel_any s hs W)
  generalize mailS s.data.toList = S at HT ⊢
  generalize mailB s.data.toList = b at HT ⊢
  generalize phoneS s.data.toList = S2 at HP ⊢
  generalize phoneB s.data.toList = b2 at HP ⊢
  go_enter Tryd.func20, Tryd.ntmps20
  go_wp2_with fail
  refine HT.out.mono ?_
  rintro e w1 ⟨rfl, hb⟩
  have HB1 := Lib.hid hb
  clear hb HT
  cases b with
  | false =>
    go_wp2_with fail
    refine (HP.out _).mono ?_
    rintro e w2 ⟨rfl, hb⟩
    have HB2 := Lib.hid (HB1.out.trans (hb.mono HB1.out.size))
    clear hb HP
    go_wp2_with fail
    go_ret2
    exact ⟨rfl, HB2.out⟩
  | true =>
    go_wp2_with fail
    go_ret2
    exact ⟨rfl, HB1.out⟩
set_option maxRecDepth 100000 in
set_option maxHeartbeats 4000000 in
theorem rmask_any (s : ByteArray) (hs : s.size ≤ 1000000) (w : World) :
    Calls Tryd.prog 23 #[.string s] w fun e w' => e = .returned (.string (ba (Ad.mask s.data.toList))) ∧ Below w.heap.size w w' := by
  obtain ⟨L, rfl⟩ : ∃ L, s = ba L := ⟨s.data.toList, (ba_back s).symm⟩
  have HK := Lib.hid (rkind_any (ba L) hs w)
  rw [ba_list] at HK ⊢
  obtain ⟨S, hS⟩ : ∃ S, ba L = S := ⟨_, rfl⟩
  have hl : L.length = S.size := by rw [← hS, ba_size]
  cases hb : Ad.mailOk L with
  | true =>
    have ek : Ad.kind L = 1 := by unfold Ad.kind; rw [if_pos hb]
    rw [ek] at HK
    obtain ⟨p1, _, _, p4, p5⟩ := Ad.mailOk_parts hb
    have en : Ad.nm L = Ad.bef L 64 := rfl
    have hmk := Ad.mask_mail hb
    have hc : L.contains 64 = true := by
      unfold Ad.mailOk at hb
      simp only [Bool.and_eq_true] at hb
      exact hb.1.1.1
    have HFI := Lib.hid (fun k (h1 : ∀ x ∈ L.take k, x ≠ 64) (h2 : k < L.length) (h3 : L[k] = 64) => bef_at h1 h2 h3)
    have HNO : Hid (¬ ∀ x ∈ L, x ≠ 64) := Lib.hid (fun h => by rw [none_in h] at hc; cases hc)
    have HMK := Lib.hid hmk
    have HON := Lib.hid (fun n h W => run_onw L n h W)
    have hf := run_first L (by rw [en] at p5; have := Ad.bef_length_le L 64; omega)
    rw [hS] at HK hs HON hf ⊢
    have HLS := Lib.hid (fun k (h : k < S.size) (h2 : k < L.length) => (by subst hS; rfl : S[k] = L[k]))
    have hz0 : (ba (L.take 1)).size ≤ 1 := by rw [ba_size, List.length_take]; omega
    clear hS hb ek p1 p4 en hmk hc
    go_enter Tryd.func23, Tryd.ntmps23
    go_wp2_with fail
    refine HK.out.mono ?_
    rintro e w1 ⟨rfl, hw1⟩
    obtain rfl : w = w1 := hw1.symm
    clear hw1 HK
    go_wp2_with fail
    go_loopw [4] (fun i wr => wr = w ∧ ∃ k : Nat, i = .int .i64 (k : Int) ∧ k ≤ S.size ∧ ∀ x ∈ L.take k, x ≠ 64) (fun i _ => S.size - (intOf i).toNat)
    case atStart => exact ⟨rfl, 0, rfl, by omega, by simp⟩
    case round =>
      obtain ⟨hwr, k, rfl, hk, hall⟩ := hrel
      obtain rfl : w = wr := hwr.symm
      clear hwr
      by_cases hlt : k < S.size
      · have hki : (k : Int) < (S.size : Int) := by omega
        have hkL : k < L.length := by omega
        have hg := HLS.out k hlt hkL
        obtain ⟨x, hx⟩ : ∃ x, S[k] = x := ⟨_, rfl⟩
        rw [hx] at hg
        by_cases h64 : x = 64
        · have g64 : (x.toNat : Int) = 64 := by rw [h64]; rfl
          obtain ⟨e1, e2⟩ := HFI.out k hall hkL (hg.symm.trans h64)
          have hon := HON.out k (by omega)
          have hd : L.drop k = [64] ++ Ad.aft L 64 := by rw [List.drop_eq_getElem_cons hkL, ← hg, h64, e2]; rfl
          have ht1 : L.take 1 = (Ad.bef L 64).take 1 := by
            rw [e1, List.take_take, Nat.min_eq_left]
            have h5 := p5
            rw [show Ad.nm L = Ad.bef L 64 from rfl, e1, List.length_take] at h5
            omega
          have hcat0 : ba (L.take 1) ++ ⟨#[42, 42, 42]⟩ ++ ba (L.drop k) = ba (Ad.mask L) := by
            rw [HMK.out, hd, ht1]
            have a1 : (⟨#[42, 42, 42]⟩ : ByteArray) = ba [42, 42, 42] := rfl
            rw [a1, ba_append, ba_append]
          have hz2 : (ba (L.drop k)).size ≤ 1000000 := by rw [ba_size, List.length_drop]; omega
          have HCAT := Lib.hid hcat0
          generalize ba (L.take 1) = P1 at hf hz0 HCAT
          generalize ba (L.drop k) = P2 at hon hz2 HCAT
          have hz3 : (P1 ++ ⟨#[42, 42, 42]⟩ : ByteArray).size ≤ 4 := by rw [ByteArray.size_append]; have : (⟨#[42, 42, 42]⟩ : ByteArray).size = 3 := rfl; omega
          clear e1 e2 hd ht1 hcat0 hall h64 hg
          go_wp2_with fail
          go_big_region
          go_wp2_with fail
          go_ret
          exact ⟨by rw [← HCAT.out]; rfl, below_drewN (Below.refl _ _) 1⟩
        · have g64 : ¬ (x.toNat : Int) = 64 := fun e => h64 (UInt8.toNat_inj.1 (by simpa using (by omega : x.toNat = 64)))
          have HALL := Lib.hid (take_ne_succ hall hkL (by rw [← hg]; exact h64))
          clear hall hg h64
          go_wp2_with fail
          go_roundw
          case rel => exact ⟨trivial, k + 1, by go_num, by omega, HALL.out⟩
          case measure => simp [intOf]; omega
      · rw [List.take_of_length_le (by omega)] at hall
        exact absurd hall HNO.out
  | false =>
    have hmk : Ad.mask L = if Ad.phoneOk L = true then [43, 42, 42, 42] ++ L.drop (L.length - 2) else [42, 42, 42] := by
      unfold Ad.mask
      rw [if_neg (by rw [hb]; decide)]
    have ek : Ad.kind L = if Ad.phoneOk L = true then 2 else 0 := by unfold Ad.kind; rw [if_neg (by rw [hb]; decide)]
    rw [hmk]
    rw [ek] at HK
    cases hp : Ad.phoneOk L with
    | false =>
      rw [hp, if_neg (by decide)] at HK
      rw [hS] at HK hs ⊢
      clear hS hb hmk ek hp
      go_enter Tryd.func23, Tryd.ntmps23
      go_wp2_with fail
      refine HK.out.mono ?_
      rintro e w1 ⟨rfl, hw1⟩
      obtain rfl : w = w1 := hw1.symm
      clear hw1 HK
      go_wp2_with fail
      go_loopw [4] (fun i wr => wr = w ∧ i = .int .i64 0) (fun _ _ => 0)
      case atStart => exact ⟨rfl, rfl⟩
      case round =>
        obtain ⟨hwr, rfl⟩ := hrel
        obtain rfl : w = wr := hwr.symm
        clear hwr
        by_cases h0 : S.size = 0
        · go_wp2_with fail
          go_ret
          exact ⟨rfl, Below.refl _ _⟩
        · have hpos : (0 : Int) < (S.size : Int) := by omega
          go_wp2_with fail
          go_ret
          exact ⟨rfl, Below.refl _ _⟩
    | true =>
      rw [hp, if_pos rfl] at HK
      have h9 : 9 ≤ L.length := by
        unfold Ad.phoneOk at hp
        simp only [Bool.and_eq_true, decide_eq_true_eq] at hp
        exact hp.1.1.1.1
      obtain ⟨n, hn⟩ : ∃ n, L.length - 2 = n := ⟨_, rfl⟩
      have hD : (ba L).extract n L.length = ba (L.drop n) := by
        have := ext_drop (ba L) n
        rwa [ba_list, ba_size] at this
      have hz : (ba (L.drop n)).size ≤ 2 := by rw [ba_size, List.length_drop]; omega
      have HE : Hid (ba ([43, 42, 42, 42] ++ L.drop n) = ⟨#[43, 42, 42, 42]⟩ ++ ba (L.drop n)) := by
        have e1 : (⟨#[43, 42, 42, 42]⟩ : ByteArray) = ba [43, 42, 42, 42] := rfl
        rw [e1, ba_append]
        exact Lib.hid rfl
      have hsl := run_onw L n (by omega)
      rw [if_pos rfl, hn]
      rw [hS] at HK hs hsl ⊢
      have hni : (S.size : Int) - 2 = (n : Int) := by omega
      generalize ba ([43, 42, 42, 42] ++ L.drop n) = R at HE ⊢
      generalize ba (L.drop n) = P2 at hz HE hsl
      clear hS hb hmk ek hp hD hl hn h9
      go_enter Tryd.func23, Tryd.ntmps23
      go_wp2_with fail
      refine HK.out.mono ?_
      rintro e w1 ⟨rfl, hw1⟩
      obtain rfl : w = w1 := hw1.symm
      clear hw1 HK
      go_wp2_with fail
      go_ret
      exact ⟨by rw [HE.out]; rfl, Below.refl _ _⟩
set_option maxRecDepth 100000 in
set_option maxHeartbeats 8000000 in
theorem tells_any (s : ByteArray) (hs : s.size ≤ 1000000) (w : World) (hm : MaxIs w) :
    Calls Tryd.prog 11 #[.string s] w fun e w' => e = .returned (.bool true) ∧ Below w.heap.size w w' := by
  have H1 := Lib.hid (fun W h => mail_any s hs W h)
  have H2 := Lib.hid (fun W => rmail_any s hs W)
  have H3 := Lib.hid (fun W => tel_any s hs W)
  have H4 := Lib.hid (fun W => rtel_any s hs W)
  have H5 := Lib.hid (fun W h => any_any s hs W h)
  have H6 := Lib.hid (fun W => rany_any s hs W)
  have H7 := Lib.hid (fun W h => kind_any s hs W h)
  have H8 := Lib.hid (fun W => rkind_any s hs W)
  have H9 := Lib.hid (fun W h => mask_any s hs W h)
  have H10 := Lib.hid (fun W => rmask_any s hs W)
  have hl : s.data.toList.length = s.size := by simp
  have hzm : (mailS s.data.toList).size ≤ 1000000 := by
    unfold mailS
    split
    · rw [ba_size]
      unfold Ad.mailText
      have h1 := trim_len s.data.toList
      have h2 := low_len (Ad.trim s.data.toList)
      have h3 := untag_len (Ad.low (Ad.trim s.data.toList))
      omega
    · decide
  have hzp : (phoneS s.data.toList).size ≤ 1000000 := by
    unfold phoneS
    split
    · rw [ba_size]
      have h1 : (Ad.phoneText s.data.toList).length ≤ s.data.toList.length := List.length_filter_le _ _
      omega
    · decide
  generalize mailS s.data.toList = SM at H1 H2 hzm
  generalize mailB s.data.toList = BM at H1 H2
  generalize phoneS s.data.toList = SP at H3 H4 hzp
  generalize phoneB s.data.toList = BP at H3 H4
  generalize anyS s.data.toList = SA at H5 H6
  generalize anyB s.data.toList = BA at H5 H6
  have H11 := Lib.hid (fun W h => kind_any SM hzm W h)
  have H12 := Lib.hid (fun W => rkind_any SM hzm W)
  have H13 := Lib.hid (fun W h => mask_any SP hzp W h)
  have H14 := Lib.hid (fun W => rmask_any SP hzp W)
  generalize Ad.kind s.data.toList = k1 at H7 H8
  generalize Ad.kind SM.data.toList = k2 at H11 H12
  generalize ba (Ad.mask s.data.toList) = m1 at H9 H10
  generalize ba (Ad.mask SP.data.toList) = m2 at H13 H14
  have e1 : (SM.toList == SM.toList) = true := by simp
  have e2 : (SP.toList == SP.toList) = true := by simp
  have e3 : (SA.toList == SA.toList) = true := by simp
  have e4 : (m1.toList == m1.toList) = true := by simp
  have e5 : (m2.toList == m2.toList) = true := by simp
  have e6 : (BM == BM) = true := by simp
  have e7 : (BP == BP) = true := by simp
  have e8 : (BA == BA) = true := by simp
  have HB0 := Lib.hid (Below.refl w.heap.size w)
  have HM0 := Lib.hid hm
  clear hl hm
  go_enter Tryd.func11, Tryd.ntmps11
  go_wp2_with fail
  refine (H1.out _ HM0.out).mono ?_
  rintro e w1 ⟨rfl, hb⟩
  have HB1 := Lib.hid (HB0.out.trans (hb.mono HB0.out.size))
  have HM1 := Lib.hid (HM0.out.below hb)
  clear hb HM0
  go_wp2_with fail
  refine (H2.out _).mono ?_
  rintro e w2 ⟨rfl, hb⟩
  have HB2 := Lib.hid (HB1.out.trans (hb.mono HB1.out.size))
  have HM2 := Lib.hid (HM1.out.below hb)
  clear hb HM1
  go_wp2_with fail
  refine (H3.out _).mono ?_
  rintro e w3 ⟨rfl, hb⟩
  have HB3 := Lib.hid (HB2.out.trans (hb.mono HB2.out.size))
  have HM3 := Lib.hid (HM2.out.below hb)
  clear hb HM2
  go_wp2_with fail
  refine (H4.out _).mono ?_
  rintro e w4 ⟨rfl, hb⟩
  have HB4 := Lib.hid (HB3.out.trans (hb.mono HB3.out.size))
  have HM4 := Lib.hid (HM3.out.below hb)
  clear hb HM3
  go_wp2_with fail
  refine (H5.out _ HM4.out).mono ?_
  rintro e w5 ⟨rfl, hb⟩
  have HB5 := Lib.hid (HB4.out.trans (hb.mono HB4.out.size))
  have HM5 := Lib.hid (HM4.out.below hb)
  clear hb HM4
  go_wp2_with fail
  refine (H6.out _).mono ?_
  rintro e w6 ⟨rfl, hb⟩
  have HB6 := Lib.hid (HB5.out.trans (hb.mono HB5.out.size))
  have HM6 := Lib.hid (HM5.out.below hb)
  clear hb HM5
  go_wp2_with fail
  refine (H7.out _ HM6.out).mono ?_
  rintro e w7 ⟨rfl, hb⟩
  have HB7 := Lib.hid (HB6.out.trans (hb.mono HB6.out.size))
  have HM7 := Lib.hid (HM6.out.below hb)
  clear hb HM6
  go_wp2_with fail
  refine (H8.out _).mono ?_
  rintro e wx ⟨rfl, hwx⟩
  obtain rfl : w7 = wx := hwx.symm
  clear hwx
  go_wp2_with fail
  refine (H9.out _ HM7.out).mono ?_
  rintro e w8 ⟨rfl, hb⟩
  have HB8 := Lib.hid (HB7.out.trans (hb.mono HB7.out.size))
  have HM8 := Lib.hid (HM7.out.below hb)
  clear hb HM7
  go_wp2_with fail
  refine (H10.out _).mono ?_
  rintro e w9 ⟨rfl, hb⟩
  have HB9 := Lib.hid (HB8.out.trans (hb.mono HB8.out.size))
  have HM9 := Lib.hid (HM8.out.below hb)
  clear hb HM8
  go_wp2_with fail
  refine (H11.out _ HM9.out).mono ?_
  rintro e w10 ⟨rfl, hb⟩
  have HB10 := Lib.hid (HB9.out.trans (hb.mono HB9.out.size))
  have HM10 := Lib.hid (HM9.out.below hb)
  clear hb HM9
  go_wp2_with fail
  refine (H12.out _).mono ?_
  rintro e wx ⟨rfl, hwx⟩
  obtain rfl : w10 = wx := hwx.symm
  clear hwx
  go_wp2_with fail
  refine (H13.out _ HM10.out).mono ?_
  rintro e w11 ⟨rfl, hb⟩
  have HB11 := Lib.hid (HB10.out.trans (hb.mono HB10.out.size))
  have HM11 := Lib.hid (HM10.out.below hb)
  clear hb HM10
  go_wp2_with fail
  refine (H14.out _).mono ?_
  rintro e w12 ⟨rfl, hb⟩
  have HB12 := Lib.hid (HB11.out.trans (hb.mono HB11.out.size))
  have HM12 := Lib.hid (HM11.out.below hb)
  clear hb HM11
  go_wp2_with fail
  go_ret
  exact ⟨rfl, HB12.out⟩
end Go.Proofs.YtpcbbmafallogaaDoor
