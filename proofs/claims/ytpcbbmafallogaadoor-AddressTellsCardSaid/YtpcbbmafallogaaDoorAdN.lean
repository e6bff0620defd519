/-
  Contract of the document's own Mail. Condition: texts of at most 1000000 bytes.
-/
import Derived.Test.YtpcbbmafallogaaDoorAdE
import Derived.Test.YtpcbbmafallogaaDoorAdK
namespace Go.Proofs.YtpcbbmafallogaaDoor
open Go.RowKit

def strLen : Value → Nat
  | .string b => b.size
  | _ => 0
theorem ws_iff (x : UInt8) : Ad.ws x = true ↔ x = 32 ∨ x = 9 := by
  unfold Ad.ws
  simp
theorem last_split {C : List UInt8} {m : Nat} (h : C.length = m + 1) : ∃ x, C[m]'(by omega) = x ∧ C = C.take m ++ [x] := by
  refine ⟨_, rfl, ?_⟩
  have := List.take_succ_eq_append_getElem (l := C) (i := m) (by omega)
  rw [List.take_of_length_le (by omega)] at this
  exact this
theorem low_up2 (x : UInt8) (h : 65 ≤ x.toNat ∧ x.toNat ≤ 90) : (x.toNat : Int) - 65 + 97 = ((Ad.low1 x).toNat : Int) := by
  have := low_up x h
  omega
theorem low_take_succ (L : List UInt8) (k : Nat) (h : k < L.length) : Ad.low (L.take (k + 1)) = Ad.low (L.take k) ++ [Ad.low1 L[k]] := by
  rw [List.take_succ_eq_append_getElem h, Ad.low_append]
  rfl
theorem low_take_len (L : List UInt8) (k : Nat) : (Ad.low (L.take k)).length ≤ k := by
  unfold Ad.low
  rw [List.length_map, List.length_take]
  omega
theorem tag_at {U : List UInt8} {i k : Nat} (hi : ∀ x ∈ U.take i, x ≠ 43) (hiU : i < U.length) (h43 : U[i] = 43) (hik : i ≤ k) (hk : k < U.length) (hno : ∀ x ∈ (U.take k).drop i, x ≠ 64) (h64 : U[k] = 64) : Ad.untag U = U.take i ++ U.drop k := by
  have hne : i ≠ k := by
    rintro rfl
    rw [h43] at h64
    exact absurd h64 (by decide)
  obtain ⟨e1, e2⟩ := bef_at hi hiU h43
  have hk2 : k - i - 1 < (U.drop (i + 1)).length := by rw [List.length_drop]; omega
  have hg : (U.drop (i + 1))[k - i - 1]'hk2 = 64 := by
    rw [List.getElem_drop, ← h64]
    congr 1
    omega
  have hno2 : ∀ x ∈ (U.drop (i + 1)).take (k - i - 1), x ≠ 64 := by
    intro x hx
    apply hno
    have e : (U.take k).drop i = U[i] :: (U.drop (i + 1)).take (k - i - 1) := by
      rw [List.drop_take, List.drop_eq_getElem_cons hiU]
      rw [show k - i = (k - i - 1) + 1 by omega]
      rfl
    rw [e]
    exact List.mem_cons_of_mem _ hx
  obtain ⟨f1, f2⟩ := bef_at hno2 hk2 hg
  have hc : (Ad.aft U 43).contains 64 = true := by
    rw [e2]
    have : (64 : UInt8) ∈ U.drop (i + 1) := by rw [← hg]; exact List.getElem_mem hk2
    simpa using this
  rw [Ad.untag_yes hc, e1, e2, f1, List.length_take, Nat.min_eq_left (by omega), List.drop_drop]
  congr 2
  omega
theorem tag_no_at {U : List UInt8} {i : Nat} (hi : ∀ x ∈ U.take i, x ≠ 43) (hiU : i < U.length) (h43 : U[i] = 43) (hno : ∀ x ∈ U.drop i, x ≠ 64) : Ad.untag U = U := by
  obtain ⟨_, e2⟩ := bef_at hi hiU h43
  refine Ad.untag_no (none_in (fun x hx => ?_))
  rw [e2] at hx
  apply hno
  rw [List.drop_eq_getElem_cons hiU]
  exact List.mem_cons_of_mem _ hx
theorem no_at_succ {U : List UInt8} {i k : Nat} (hik : i ≤ k) (hk : k < U.length) (hno : ∀ x ∈ (U.take k).drop i, x ≠ 64) (h : U[k] ≠ 64) : ∀ x ∈ (U.take (k + 1)).drop i, x ≠ 64 := by
  rw [List.take_succ_eq_append_getElem hk, List.drop_append_of_le_length (by rw [List.length_take]; omega)]
  intro x hx
  rcases List.mem_append.1 hx with hx | hx
  · exact hno x hx
  · rw [List.mem_singleton.1 hx]; exact h

set_option maxRecDepth 100000 in
set_option maxHeartbeats 16000000 in
theorem rmail_any (s : ByteArray) (hs : s.size ≤ 1000000) (w : World) :
    Calls Tryd.prog 17 #[.string s] w fun e w' => e = .returned (.tuple #[.string (mailS s.data.toList), .bool (mailB s.data.toList)]) ∧ Below w.heap.size w w' := by
  obtain ⟨i0, hi, hz, hsz, hy⟩ := info_u8
  have HI := Lib.hid hi
  have HZ := Lib.hid hz
  have HZ1 := Lib.hid hsz
  have HZ2 := Lib.hid hy
  clear hi hz hsz hy
  obtain ⟨L, rfl⟩ : ∃ L, s = ba L := ⟨s.data.toList, (ba_back s).symm⟩
  rw [ba_list]
  have hl : L.length ≤ 1000000 := by rw [← ba_size]; exact hs
  clear hs
  go_enter Tryd.func17, Tryd.ntmps17
  go_wp2_with fail
  go_loopw [0] (fun v wr => wr = w ∧ ∃ C : List UInt8, v = .string (ba C) ∧ Ad.trimL C = Ad.trimL L ∧ C.length ≤ L.length) (fun v _ => strLen v)
  case atStart => exact ⟨rfl, L, rfl, rfl, by omega⟩
  case round =>
    obtain ⟨hwr, C, rfl, hC, hCl⟩ := hrel
    obtain rfl : w = wr := hwr.symm
    clear hwr
    cases hCc : C with
    | nil =>
      subst hCc
      obtain ⟨S, hS⟩ : ∃ S, ba [] = S := ⟨_, rfl⟩
      have hz0 : S.size = 0 := by rw [← hS]; rfl
      obtain ⟨M, hMe⟩ : ∃ M : List UInt8, [] = M := ⟨_, rfl⟩
      have HMT : Hid (M = Ad.trimL L) := Lib.hid (hMe.symm.trans hC)
      have hMz : M.length = S.size := by rw [← hMe, hz0]; rfl
      have hMl : M.length ≤ 1000000 := by omega
      have HS : Hid (ba M = S) := Lib.hid (by rw [← hMe, hS])
      rw [hS]
      clear hC hMe hS hCl
      go_wp2_with fail
      try clear hz0
      go_loopw [0] (fun v wr => wr = w ∧ ∃ C : List UInt8, v = .string (ba C) ∧ Ad.trimR C = Ad.trimR M ∧ C.length ≤ M.length) (fun v _ => strLen v)
      case atStart => exact ⟨rfl, M, by rw [HS.out], rfl, Nat.le_refl _⟩
      case round =>
        obtain ⟨hwr, C, rfl, hC, hCl⟩ := hrel
        obtain rfl : w = wr := hwr.symm
        clear hwr
        rcases Nat.eq_zero_or_pos C.length with hC0 | hCp
        · obtain rfl : C = [] := List.eq_nil_of_length_eq_zero hC0
          obtain ⟨S2, hS2⟩ : ∃ S, ba [] = S := ⟨_, rfl⟩
          have hz0 : S2.size = 0 := by rw [← hS2]; rfl
          obtain ⟨T, hTe⟩ : ∃ T : List UInt8, [] = T := ⟨_, rfl⟩
          have HT : Hid (T = Ad.trim L) := Lib.hid (by unfold Ad.trim; rw [← HMT.out, ← hC, ← hTe]; rfl)
          have hTz : T.length = S2.size := by rw [← hTe, hz0]; rfl
          have hTl : T.length ≤ 1000000 := by omega
          have HS2 : Hid (ba T = S2) := Lib.hid (by rw [← hTe, hS2])
          rw [hS2]
          clear hC hTe hS2 hCl hC0
          go_wp2_with fail
          clear hz0
          have HTS := Lib.hid (fun k (h : k < S2.size) (h2 : k < T.length) => (by have hv := HS2.out; subst hv; rfl : S2[k] = T[k]))
          go_loopw [4, 5, 6] (fun v i _ wr => ∃ k n : Nat, ∃ A c, v = .slice A n c ∧ i = .int .i64 (k : Int) ∧ k ≤ S2.size ∧ n = (Ad.low (T.take k)).length ∧ wr.ownsRow w.heap.size 5 1 (.slice A n c) n (cb (Ad.low (T.take k))) ∧ Below w.heap.size w wr) (fun _ i _ _ => S2.size - (intOf i).toNat)
          case atStart => exact ⟨0, 0, none, 0, rfl, rfl, by omega, rfl, World.ownsRow_nil _ _ _ _, Below.refl _ _⟩
          case round =>
            obtain ⟨k, n, A, c, rfl, rfl, hk, hn, ho, hB⟩ := hrel
            have hfl := low_take_len T k
            have HBW := Lib.hid hB
            have HBs := hB.size
            have HOW := Lib.hid ho
            have HN := Lib.hid hn
            have hn2 : n ≤ 1000000 := by omega
            clear ho hB hfl hn
            by_cases hlt : k < S2.size
            · have hki : (k : Int) < (S2.size : Int) := by omega
              have hkT : k < T.length := by omega
              have ht := low_take_succ T k hkT
              rw [← HTS.out k hlt hkT] at ht
              obtain ⟨x, hx⟩ : ∃ x, S2[k] = x := ⟨_, rfl⟩
              rw [hx] at ht
              have hxl := x.toNat_lt
              by_cases h65 : 65 ≤ x.toNat
              · have g4 : (65 : Int) ≤ (x.toNat : Int) := by omega
                by_cases h90 : x.toNat ≤ 90
                · have g5 : (x.toNat : Int) ≤ 90 := by omega
                  have hyw := low_up2 x ⟨h65, h90⟩
                  generalize Ad.low1 x = y at ht hyw
                  have HYW := Lib.hid hyw
                  clear hyw
                  have HT2 := Lib.hid ht
                  have hblk0 := Blk.new wr 5 #[.int .u8 ((x.toNat : Int) - 65 + 97)]
                  have hown0 : (wr.alloc (.cells #[.int .u8 ((x.toNat : Int) - 65 + 97)] 5)).ownsRow w.heap.size 5 1 (.slice A n c) n (cb (Ad.low (T.take k))) := HOW.out.alloc _
                  clear ht
                  go_wp2_with
                    (at_builtin
                     refine wpList_append_lies _ rfl (.tmp 68) (.tmp 70) 31 rfl w.heap.size 5 i0 _ 1 1 Tryd.underlying31 HI.out HZ.out HZ1.out HZ2.out rfl (by decide) (.slice A n c) n (cb (Ad.low (T.take k))) rfl hown0 ⟨wr.heap.size, 0, none⟩ 1 1 [.int .u8 ((x.toNat : Int) - 65 + 97)] rfl rfl (World.news_of_block hblk0) (by intro u hu; simp at hu; subst hu; rfl) (by omega) (by unfold maxLen; omega) (by omega) (by simp; omega) (wr.heap.size + 1) (by simp) ?_
                     intro g cap w4 hown2 hgrow hat hlt2
                     have HO2 := Lib.hid hown2
                     have HB3 := Lib.hid ((HBW.out.alloc HBs _).grown hgrow (by simp; omega) (fun j hj => own_base HOW.out hj))
                     clear hown2 hgrow hat hlt2 hown0 hblk0)
                  go_roundw
                  case rel => exact ⟨k + 1, n + 1, _, _, rfl, by go_num, by omega, by rw [HT2.out, List.length_append, ← HN.out]; rfl, by rw [HT2.out]; have h := HO2.out; rw [HYW.out] at h; simpa [cb] using h, HB3.out⟩
                  case measure => simp [intOf]; omega
                · have g5 : ¬ ((x.toNat : Int) ≤ 90) := by omega
                  rw [low_not x (by omega)] at ht
                  have HT2 := Lib.hid ht
                  have hblk0 := Blk.new wr 5 #[.int .u8 (x.toNat : Int)]
                  have hown0 : (wr.alloc (.cells #[.int .u8 (x.toNat : Int)] 5)).ownsRow w.heap.size 5 1 (.slice A n c) n (cb (Ad.low (T.take k))) := HOW.out.alloc _
                  clear ht
                  go_wp2_with
                    (at_builtin
                     refine wpList_append_lies _ rfl (.tmp 68) (.tmp 70) 31 rfl w.heap.size 5 i0 _ 1 1 Tryd.underlying31 HI.out HZ.out HZ1.out HZ2.out rfl (by decide) (.slice A n c) n (cb (Ad.low (T.take k))) rfl hown0 ⟨wr.heap.size, 0, none⟩ 1 1 [.int .u8 (x.toNat : Int)] rfl rfl (World.news_of_block hblk0) (by intro u hu; simp at hu; subst hu; rfl) (by omega) (by unfold maxLen; omega) (by omega) (by simp; omega) (wr.heap.size + 1) (by simp) ?_
                     intro g cap w4 hown2 hgrow hat hlt2
                     have HO2 := Lib.hid hown2
                     have HB3 := Lib.hid ((HBW.out.alloc HBs _).grown hgrow (by simp; omega) (fun j hj => own_base HOW.out hj))
                     clear hown2 hgrow hat hlt2 hown0 hblk0)
                  go_roundw
                  case rel => exact ⟨k + 1, n + 1, _, _, rfl, by go_num, by omega, by rw [HT2.out, List.length_append, ← HN.out]; rfl, by rw [HT2.out]; have h := HO2.out; simpa [cb] using h, HB3.out⟩
                  case measure => simp [intOf]; omega
              · have g4 : ¬ ((65 : Int) ≤ (x.toNat : Int)) := by omega
                rw [low_not x (by omega)] at ht
                have HT2 := Lib.hid ht
                have hblk0 := Blk.new wr 5 #[.int .u8 (x.toNat : Int)]
                have hown0 : (wr.alloc (.cells #[.int .u8 (x.toNat : Int)] 5)).ownsRow w.heap.size 5 1 (.slice A n c) n (cb (Ad.low (T.take k))) := HOW.out.alloc _
                clear ht
                go_wp2_with
                  (at_builtin
                   refine wpList_append_lies _ rfl (.tmp 68) (.tmp 70) 31 rfl w.heap.size 5 i0 _ 1 1 Tryd.underlying31 HI.out HZ.out HZ1.out HZ2.out rfl (by decide) (.slice A n c) n (cb (Ad.low (T.take k))) rfl hown0 ⟨wr.heap.size, 0, none⟩ 1 1 [.int .u8 (x.toNat : Int)] rfl rfl (World.news_of_block hblk0) (by intro u hu; simp at hu; subst hu; rfl) (by omega) (by unfold maxLen; omega) (by omega) (by simp; omega) (wr.heap.size + 1) (by simp) ?_
                   intro g cap w4 hown2 hgrow hat hlt2
                   have HO2 := Lib.hid hown2
                   have HB3 := Lib.hid ((HBW.out.alloc HBs _).grown hgrow (by simp; omega) (fun j hj => own_base HOW.out hj))
                   clear hown2 hgrow hat hlt2 hown0 hblk0)
                go_roundw
                case rel => exact ⟨k + 1, n + 1, _, _, rfl, by go_num, by omega, by rw [HT2.out, List.length_append, ← HN.out]; rfl, by rw [HT2.out]; have h := HO2.out; simpa [cb] using h, HB3.out⟩
                case measure => simp [intOf]; omega
            · obtain rfl : k = S2.size := by omega
              have hno := HN.out
              have ho := HOW.out
              rw [List.take_of_length_le (by omega)] at hno ho
              rw [hno] at ho
              have hcv := run_own_text ho
              rw [← hno] at hcv
              obtain ⟨U, hU⟩ : ∃ U, Ad.low T = U := ⟨_, rfl⟩
              rw [hU] at hcv hno
              have HU := Lib.hid hU
              have hUl : U.length ≤ 1000000 := by rw [← hno]; omega
              obtain ⟨SU, hSU⟩ : ∃ SU, ba U = SU := ⟨_, rfl⟩
              have hUz : U.length = SU.size := by rw [← hSU, ba_size]
              rw [hSU] at hcv
              have HSU := Lib.hid hSU
              have HTO := Lib.hid (fun n h W => run_to U n h W)
              have HON := Lib.hid (fun n h W => run_onw U n h W)
              rw [hSU] at HTO HON
              have HUS := Lib.hid (fun k (h : k < SU.size) (h2 : k < U.length) => (by subst hSU; rfl : SU[k] = U[k]))
              have HRES : Hid (mailB L = Ad.mailOk (Ad.untag U) ∧ mailS L = if Ad.mailOk (Ad.untag U) = true then ba (Ad.untag U) else ⟨#[]⟩) := Lib.hid (by
                have e : Ad.mailText L = Ad.untag U := by unfold Ad.mailText; rw [← HT.out, hU]
                unfold mailS mailB
                rw [e]
                exact ⟨rfl, rfl⟩)
              clear ho hno hU hSU HN HOW
              go_wp2_with fail
              rename World => w3
              go_loopw [7, 8, 9] (fun t i _ w4 => w4 = w3 ∧ ∃ k : Nat, t = .string SU ∧ i = .int .i64 (k : Int) ∧ k ≤ SU.size ∧ ∀ x ∈ U.take k, x ≠ 43) (fun _ i _ _ => SU.size - (intOf i).toNat)
              case atStart => exact ⟨rfl, 0, rfl, rfl, by omega, by simp⟩
              case round =>
                obtain ⟨hwr, k, rfl, rfl, hk, hall⟩ := hrel
                obtain rfl : w3 = wr := hwr.symm
                clear hwr
                clear hlt
                by_cases hlt : k < SU.size
                · have hki : (k : Int) < (SU.size : Int) := by omega
                  have hkU : k < U.length := by omega
                  have hg := HUS.out k hlt hkU
                  obtain ⟨x, hx⟩ : ∃ x, SU[k] = x := ⟨_, rfl⟩
                  rw [hx] at hg
                  by_cases h43 : x = 43
                  · have g43 : (x.toNat : Int) = 43 := by rw [h43]; rfl
                    have HALL := Lib.hid hall
                    have HU43 : Hid (U[k] = 43) := Lib.hid (hg.symm.trans h43)
                    clear hall h43 hg
                    go_wp2_with fail
                    go_loopw [7, 9] (fun t kk w5 => w5 = w3 ∧ ∃ m : Nat, t = .string SU ∧ kk = .int .i64 (m : Int) ∧ k ≤ m ∧ m ≤ SU.size ∧ ∀ x ∈ (U.take m).drop k, x ≠ 64) (fun _ kk _ => SU.size - (intOf kk).toNat)
                    case atStart => exact ⟨rfl, k, rfl, rfl, by omega, hk, by rw [List.drop_of_length_le (by rw [List.length_take]; omega)]; simp⟩
                    case round =>
                      obtain ⟨hwr, m, rfl, rfl, hkm, hm, hno⟩ := hrel
                      obtain rfl : w3 = wr := hwr.symm
                      clear hwr
                      by_cases hlm : m < SU.size
                      · have hmi2 : (m : Int) < (SU.size : Int) := by omega
                        have hmU : m < U.length := by omega
                        have hgy := HUS.out m hlm hmU
                        obtain ⟨y, hy⟩ : ∃ y, SU[m] = y := ⟨_, rfl⟩
                        rw [hy] at hgy
                        by_cases h64 : y = 64
                        · have g64 : (y.toNat : Int) = 64 := by rw [h64]; rfl
                          have hto := HTO.out k (by omega)
                          have hon := HON.out m (by omega)
                          have e := tag_at HALL.out hkU HU43.out hkm hmU hno (hgy.symm.trans h64)
                          have HRES2 := HRES
                          have hul := untag_len U
                          have HCAT : Hid (ba (U.take k) ++ ba (U.drop m) = ba (Ad.untag U)) := Lib.hid (by rw [ba_append, e])
                          have hz1 : (ba (U.take k)).size ≤ 1000000 := by rw [ba_size, List.length_take]; omega
                          have hz2 : (ba (U.drop m)).size ≤ 1000000 := by rw [ba_size, List.length_drop]; omega
                          have hI2 := rismail_any (ba (Ad.untag U)) (by rw [ba_size]; omega) w3.drew
                          rw [ba_list] at hI2
                          have HI2 := Lib.hid hI2
                          have HBE : Hid (Below w.heap.size w w3.drew) := Lib.hid (below_drewN HBW.out 1)
                          generalize ba (Ad.untag U) = RT at HI2 HCAT HRES2
                          generalize ba (U.take k) = P1 at hto HCAT hz1
                          generalize ba (U.drop m) = P2 at hon HCAT hz2
                          clear e hno h64 hgy hul hI2
                          go_wp2_with fail
                          go_big_region
                          rw [HCAT.out]
                          generalize Ad.mailOk (Ad.untag U) = b at HI2 HRES2
                          go_wp2_with fail
                          refine HI2.out.mono ?_
                          rintro e w5 ⟨rfl, hw5⟩
                          rw [hw5]
                          clear hw5 HI2
                          cases b with
                          | false =>
                            go_wp2_with fail
                            go_ret2
                            exact ⟨by rw [HRES2.out.1, HRES2.out.2]; rfl, HBE.out⟩
                          | true =>
                            go_wp2_with fail
                            go_ret2
                            exact ⟨by rw [HRES2.out.1, HRES2.out.2]; rfl, HBE.out⟩
                        · have g64 : ¬ (y.toNat : Int) = 64 := fun e => h64 (UInt8.toNat_inj.1 (by simpa using (by omega : y.toNat = 64)))
                          have HNO := Lib.hid (no_at_succ hkm hmU hno (by rw [← hgy]; exact h64))
                          clear hno hgy h64
                          go_wp2_with fail
                          go_roundw
                          case rel => exact ⟨trivial, m + 1, rfl, by go_num, by omega, by omega, HNO.out⟩
                          case measure => simp [intOf]; omega
                      · obtain rfl : m = SU.size := by omega
                        rw [List.take_of_length_le (by omega)] at hno
                        have hsame := tag_no_at HALL.out hkU HU43.out hno
                        clear hno
                        have HRES2 : Hid (mailB L = Ad.mailOk U ∧ mailS L = if Ad.mailOk U = true then SU else ⟨#[]⟩) := Lib.hid (by
                          have hr := HRES.out
                          rw [hsame, HSU.out] at hr
                          exact hr)
                        have hI2 := rismail_any SU (by omega) w3
                        rw [show SU.data.toList = U by rw [← HSU.out, ba_list]] at hI2
                        have HI2 := Lib.hid hI2
                        have HBE := Lib.hid HBW.out
                        clear hI2 hsame
                        generalize Ad.mailOk U = b at HI2 HRES2
                        go_wp2_with fail
                        refine HI2.out.mono ?_
                        rintro e w5 ⟨rfl, hw5⟩
                        rw [hw5]
                        clear hw5 HI2
                        cases b with
                        | false =>
                          go_wp2_with fail
                          go_ret2
                          exact ⟨by rw [HRES2.out.1, HRES2.out.2]; rfl, HBE.out⟩
                        | true =>
                          go_wp2_with fail
                          go_ret2
                          exact ⟨by rw [HRES2.out.1, HRES2.out.2]; rfl, HBE.out⟩
                  · have g43 : ¬ (x.toNat : Int) = 43 := fun e => h43 (UInt8.toNat_inj.1 (by simpa using (by omega : x.toNat = 43)))
                    have HALL := Lib.hid (take_ne_succ hall hkU (by rw [← hg]; exact h43))
                    clear hall h43 hg
                    go_wp2_with fail
                    go_roundw
                    case rel => exact ⟨trivial, k + 1, rfl, by go_num, by omega, HALL.out⟩
                    case measure => simp [intOf]; omega
                · obtain rfl : k = SU.size := by omega
                  rw [List.take_of_length_le (by omega)] at hall
                  have hsame := Ad.untag_self U hall
                  clear hall
                  have HRES2 : Hid (mailB L = Ad.mailOk U ∧ mailS L = if Ad.mailOk U = true then SU else ⟨#[]⟩) := Lib.hid (by
                    have hr := HRES.out
                    rw [hsame, HSU.out] at hr
                    exact hr)
                  have hI2 := rismail_any SU (by omega) w3
                  rw [show SU.data.toList = U by rw [← HSU.out, ba_list]] at hI2
                  have HI2 := Lib.hid hI2
                  have HBE := Lib.hid HBW.out
                  clear hI2 hsame
                  generalize Ad.mailOk U = b at HI2 HRES2
                  go_wp2_with fail
                  refine HI2.out.mono ?_
                  rintro e w5 ⟨rfl, hw5⟩
                  rw [hw5]
                  clear hw5 HI2
                  cases b with
                  | false =>
                    go_wp2_with fail
                    go_ret2
                    exact ⟨by rw [HRES2.out.1, HRES2.out.2]; rfl, HBE.out⟩
                  | true =>
                    go_wp2_with fail
                    go_ret2
                    exact ⟨by rw [HRES2.out.1, HRES2.out.2]; rfl, HBE.out⟩
        · obtain ⟨m, hm⟩ : ∃ m, C.length = m + 1 := ⟨C.length - 1, by omega⟩
          obtain ⟨x, hxm, hCx⟩ := last_split hm
          obtain ⟨S2, hS2⟩ : ∃ S, ba C = S := ⟨_, rfl⟩
          have hSz2 : S2.size = m + 1 := by rw [← hS2, ba_size, hm]
          have h02 : m < S2.size := by omega
          have hx2 : S2[m]'h02 = x := by subst hS2; exact hxm
          have hpos2 : (0 : Int) < (S2.size : Int) := by omega
          have hmi : (S2.size : Int) - 1 = (m : Int) := by omega
          rw [hS2]
          by_cases hw : Ad.ws x = true
          · have hsl : ∀ W, (Instr.slice 9 (.string S2) none (some (.int .i64 (m : Int))) none).run Tryd.prog W = .ok (.string (ba (C.take m))) W := fun W => by
              have h := run_to C m (by omega) W
              rw [hS2] at h
              exact h
            have HC2 : Hid (Ad.trimR (C.take m) = Ad.trimR M) := Lib.hid (by rw [← hC]; conv => rhs; rw [hCx]
                                                                             rw [Ad.trimR_snoc, if_pos hw])
            have HRZ : Hid ((ba (C.take m)).size = m) := Lib.hid (by rw [ba_size, List.length_take]; omega)
            have hrl : (C.take m).length ≤ M.length := by rw [List.length_take]; omega
            clear hC hS2 hCx hxm
            rcases (ws_iff x).1 hw with h32 | h9
            · have g32 : (x.toNat : Int) = 32 := by rw [h32]; rfl
              clear hw h32 hSz2
              go_wp2_with fail
              go_roundw
              case rel => exact ⟨trivial, C.take m, rfl, HC2.out, hrl⟩
              case measure => have h2 := HRZ.out; show (ba (C.take m)).size < S2.size; omega
            · have g9 : (x.toNat : Int) = 9 := by rw [h9]; rfl
              clear hw h9 hSz2
              go_wp2_with fail
              go_roundw
              case rel => exact ⟨trivial, C.take m, rfl, HC2.out, hrl⟩
              case measure => have h2 := HRZ.out; show (ba (C.take m)).size < S2.size; omega
          · have hn32 : ((x.toNat : Int) == 32) = false := by simpa using (fun e => hw ((ws_iff x).2 (.inl (UInt8.toNat_inj.1 (by simpa using (by omega : x.toNat = 32))))) : ¬ (x.toNat : Int) = 32)
            have hn9 : ((x.toNat : Int) == 9) = false := by simpa using (fun e => hw ((ws_iff x).2 (.inr (UInt8.toNat_inj.1 (by simpa using (by omega : x.toNat = 9))))) : ¬ (x.toNat : Int) = 9)
            obtain ⟨T, hTe⟩ : ∃ T : List UInt8, C = T := ⟨_, rfl⟩
            have HT : Hid (T = Ad.trim L) := Lib.hid (by
              unfold Ad.trim
              rw [← HMT.out, ← hC, ← hTe]
              conv => lhs; rw [hCx]
              conv => rhs; rw [hCx]
              rw [Ad.trimR_snoc, if_neg hw])
            have hTz : T.length = S2.size := by rw [← hTe, hSz2, hm]
            have hTl : T.length ≤ 1000000 := by rw [← hTe]; exact Nat.le_trans hCl hMl
            have HS2 : Hid (ba T = S2) := Lib.hid (by rw [← hTe, hS2])
            clear hC hw hTe hS2 hCl hCx hxm hm hSz2
            go_wp2_with fail
            have HTS := Lib.hid (fun k (h : k < S2.size) (h2 : k < T.length) => (by have hv := HS2.out; subst hv; rfl : S2[k] = T[k]))
            go_loopw [4, 5, 6] (fun v i _ wr => ∃ k n : Nat, ∃ A c, v = .slice A n c ∧ i = .int .i64 (k : Int) ∧ k ≤ S2.size ∧ n = (Ad.low (T.take k)).length ∧ wr.ownsRow w.heap.size 5 1 (.slice A n c) n (cb (Ad.low (T.take k))) ∧ Below w.heap.size w wr) (fun _ i _ _ => S2.size - (intOf i).toNat)
            case atStart => exact ⟨0, 0, none, 0, rfl, rfl, by omega, rfl, World.ownsRow_nil _ _ _ _, Below.refl _ _⟩
            case round =>
              obtain ⟨k, n, A, c, rfl, rfl, hk, hn, ho, hB⟩ := hrel
              have hfl := low_take_len T k
              have HBW := Lib.hid hB
              have HBs := hB.size
              have HOW := Lib.hid ho
              have HN := Lib.hid hn
              have hn2 : n ≤ 1000000 := by omega
              clear ho hB hfl hn
              by_cases hlt : k < S2.size
              · have hki : (k : Int) < (S2.size : Int) := by omega
                have hkT : k < T.length := by omega
                have ht := low_take_succ T k hkT
                rw [← HTS.out k hlt hkT] at ht
                obtain ⟨x, hx⟩ : ∃ x, S2[k] = x := ⟨_, rfl⟩
                rw [hx] at ht
                have hxl := x.toNat_lt
                by_cases h65 : 65 ≤ x.toNat
                · have g4 : (65 : Int) ≤ (x.toNat : Int) := by omega
                  by_cases h90 : x.toNat ≤ 90
                  · have g5 : (x.toNat : Int) ≤ 90 := by omega
                    have hyw := low_up2 x ⟨h65, h90⟩
                    generalize Ad.low1 x = y at ht hyw
                    have HYW := Lib.hid hyw
                    clear hyw
                    have HT2 := Lib.hid ht
                    have hblk0 := Blk.new wr 5 #[.int .u8 ((x.toNat : Int) - 65 + 97)]
                    have hown0 : (wr.alloc (.cells #[.int .u8 ((x.toNat : Int) - 65 + 97)] 5)).ownsRow w.heap.size 5 1 (.slice A n c) n (cb (Ad.low (T.take k))) := HOW.out.alloc _
                    clear ht
                    go_wp2_with
                      (at_builtin
                       refine wpList_append_lies _ rfl (.tmp 68) (.tmp 70) 31 rfl w.heap.size 5 i0 _ 1 1 Tryd.underlying31 HI.out HZ.out HZ1.out HZ2.out rfl (by decide) (.slice A n c) n (cb (Ad.low (T.take k))) rfl hown0 ⟨wr.heap.size, 0, none⟩ 1 1 [.int .u8 ((x.toNat : Int) - 65 + 97)] rfl rfl (World.news_of_block hblk0) (by intro u hu; simp at hu; subst hu; rfl) (by omega) (by unfold maxLen; omega) (by omega) (by simp; omega) (wr.heap.size + 1) (by simp) ?_
                       intro g cap w4 hown2 hgrow hat hlt2
                       have HO2 := Lib.hid hown2
                       have HB3 := Lib.hid ((HBW.out.alloc HBs _).grown hgrow (by simp; omega) (fun j hj => own_base HOW.out hj))
                       clear hown2 hgrow hat hlt2 hown0 hblk0)
                    go_roundw
                    case rel => exact ⟨k + 1, n + 1, _, _, rfl, by go_num, by omega, by rw [HT2.out, List.length_append, ← HN.out]; rfl, by rw [HT2.out]; have h := HO2.out; rw [HYW.out] at h; simpa [cb] using h, HB3.out⟩
                    case measure => simp [intOf]; omega
                  · have g5 : ¬ ((x.toNat : Int) ≤ 90) := by omega
                    rw [low_not x (by omega)] at ht
                    have HT2 := Lib.hid ht
                    have hblk0 := Blk.new wr 5 #[.int .u8 (x.toNat : Int)]
                    have hown0 : (wr.alloc (.cells #[.int .u8 (x.toNat : Int)] 5)).ownsRow w.heap.size 5 1 (.slice A n c) n (cb (Ad.low (T.take k))) := HOW.out.alloc _
                    clear ht
                    go_wp2_with
                      (at_builtin
                       refine wpList_append_lies _ rfl (.tmp 68) (.tmp 70) 31 rfl w.heap.size 5 i0 _ 1 1 Tryd.underlying31 HI.out HZ.out HZ1.out HZ2.out rfl (by decide) (.slice A n c) n (cb (Ad.low (T.take k))) rfl hown0 ⟨wr.heap.size, 0, none⟩ 1 1 [.int .u8 (x.toNat : Int)] rfl rfl (World.news_of_block hblk0) (by intro u hu; simp at hu; subst hu; rfl) (by omega) (by unfold maxLen; omega) (by omega) (by simp; omega) (wr.heap.size + 1) (by simp) ?_
                       intro g cap w4 hown2 hgrow hat hlt2
                       have HO2 := Lib.hid hown2
                       have HB3 := Lib.hid ((HBW.out.alloc HBs _).grown hgrow (by simp; omega) (fun j hj => own_base HOW.out hj))
                       clear hown2 hgrow hat hlt2 hown0 hblk0)
                    go_roundw
                    case rel => exact ⟨k + 1, n + 1, _, _, rfl, by go_num, by omega, by rw [HT2.out, List.length_append, ← HN.out]; rfl, by rw [HT2.out]; have h := HO2.out; simpa [cb] using h, HB3.out⟩
                    case measure => simp [intOf]; omega
                · have g4 : ¬ ((65 : Int) ≤ (x.toNat : Int)) := by omega
                  rw [low_not x (by omega)] at ht
                  have HT2 := Lib.hid ht
                  have hblk0 := Blk.new wr 5 #[.int .u8 (x.toNat : Int)]
                  have hown0 : (wr.alloc (.cells #[.int .u8 (x.toNat : Int)] 5)).ownsRow w.heap.size 5 1 (.slice A n c) n (cb (Ad.low (T.take k))) := HOW.out.alloc _
                  clear ht
                  go_wp2_with
                    (at_builtin
                     refine wpList_append_lies _ rfl (.tmp 68) (.tmp 70) 31 rfl w.heap.size 5 i0 _ 1 1 Tryd.underlying31 HI.out HZ.out HZ1.out HZ2.out rfl (by decide) (.slice A n c) n (cb (Ad.low (T.take k))) rfl hown0 ⟨wr.heap.size, 0, none⟩ 1 1 [.int .u8 (x.toNat : Int)] rfl rfl (World.news_of_block hblk0) (by intro u hu; simp at hu; subst hu; rfl) (by omega) (by unfold maxLen; omega) (by omega) (by simp; omega) (wr.heap.size + 1) (by simp) ?_
                     intro g cap w4 hown2 hgrow hat hlt2
                     have HO2 := Lib.hid hown2
                     have HB3 := Lib.hid ((HBW.out.alloc HBs _).grown hgrow (by simp; omega) (fun j hj => own_base HOW.out hj))
                     clear hown2 hgrow hat hlt2 hown0 hblk0)
                  go_roundw
                  case rel => exact ⟨k + 1, n + 1, _, _, rfl, by go_num, by omega, by rw [HT2.out, List.length_append, ← HN.out]; rfl, by rw [HT2.out]; have h := HO2.out; simpa [cb] using h, HB3.out⟩
                  case measure => simp [intOf]; omega
              · obtain rfl : k = S2.size := by omega
                have hno := HN.out
                have ho := HOW.out
                rw [List.take_of_length_le (by omega)] at hno ho
                rw [hno] at ho
                have hcv := run_own_text ho
                rw [← hno] at hcv
                obtain ⟨U, hU⟩ : ∃ U, Ad.low T = U := ⟨_, rfl⟩
                rw [hU] at hcv hno
                have HU := Lib.hid hU
                have hUl : U.length ≤ 1000000 := by rw [← hno]; omega
                obtain ⟨SU, hSU⟩ : ∃ SU, ba U = SU := ⟨_, rfl⟩
                have hUz : U.length = SU.size := by rw [← hSU, ba_size]
                rw [hSU] at hcv
                have HSU := Lib.hid hSU
                have HTO := Lib.hid (fun n h W => run_to U n h W)
                have HON := Lib.hid (fun n h W => run_onw U n h W)
                rw [hSU] at HTO HON
                have HUS := Lib.hid (fun k (h : k < SU.size) (h2 : k < U.length) => (by subst hSU; rfl : SU[k] = U[k]))
                have HRES : Hid (mailB L = Ad.mailOk (Ad.untag U) ∧ mailS L = if Ad.mailOk (Ad.untag U) = true then ba (Ad.untag U) else ⟨#[]⟩) := Lib.hid (by
                  have e : Ad.mailText L = Ad.untag U := by unfold Ad.mailText; rw [← HT.out, hU]
                  unfold mailS mailB
                  rw [e]
                  exact ⟨rfl, rfl⟩)
                clear ho hno hU hSU HN HOW
                go_wp2_with fail
                rename World => w3
                go_loopw [7, 8, 9] (fun t i _ w4 => w4 = w3 ∧ ∃ k : Nat, t = .string SU ∧ i = .int .i64 (k : Int) ∧ k ≤ SU.size ∧ ∀ x ∈ U.take k, x ≠ 43) (fun _ i _ _ => SU.size - (intOf i).toNat)
                case atStart => exact ⟨rfl, 0, rfl, rfl, by omega, by simp⟩
                case round =>
                  obtain ⟨hwr, k, rfl, rfl, hk, hall⟩ := hrel
                  obtain rfl : w3 = wr := hwr.symm
                  clear hwr
                  clear hlt
                  by_cases hlt : k < SU.size
                  · have hki : (k : Int) < (SU.size : Int) := by omega
                    have hkU : k < U.length := by omega
                    have hg := HUS.out k hlt hkU
                    obtain ⟨x, hx⟩ : ∃ x, SU[k] = x := ⟨_, rfl⟩
                    rw [hx] at hg
                    by_cases h43 : x = 43
                    · have g43 : (x.toNat : Int) = 43 := by rw [h43]; rfl
                      have HALL := Lib.hid hall
                      have HU43 : Hid (U[k] = 43) := Lib.hid (hg.symm.trans h43)
                      clear hall h43 hg
                      go_wp2_with fail
                      go_loopw [7, 9] (fun t kk w5 => w5 = w3 ∧ ∃ m : Nat, t = .string SU ∧ kk = .int .i64 (m : Int) ∧ k ≤ m ∧ m ≤ SU.size ∧ ∀ x ∈ (U.take m).drop k, x ≠ 64) (fun _ kk _ => SU.size - (intOf kk).toNat)
                      case atStart => exact ⟨rfl, k, rfl, rfl, by omega, hk, by rw [List.drop_of_length_le (by rw [List.length_take]; omega)]; simp⟩
                      case round =>
                        obtain ⟨hwr, m, rfl, rfl, hkm, hm, hno⟩ := hrel
                        obtain rfl : w3 = wr := hwr.symm
                        clear hwr
                        by_cases hlm : m < SU.size
                        · have hmi2 : (m : Int) < (SU.size : Int) := by omega
                          have hmU : m < U.length := by omega
                          have hgy := HUS.out m hlm hmU
                          obtain ⟨y, hy⟩ : ∃ y, SU[m] = y := ⟨_, rfl⟩
                          rw [hy] at hgy
                          by_cases h64 : y = 64
                          · have g64 : (y.toNat : Int) = 64 := by rw [h64]; rfl
                            have hto := HTO.out k (by omega)
                            have hon := HON.out m (by omega)
                            have e := tag_at HALL.out hkU HU43.out hkm hmU hno (hgy.symm.trans h64)
                            have HRES2 := HRES
                            have hul := untag_len U
                            have HCAT : Hid (ba (U.take k) ++ ba (U.drop m) = ba (Ad.untag U)) := Lib.hid (by rw [ba_append, e])
                            have hz1 : (ba (U.take k)).size ≤ 1000000 := by rw [ba_size, List.length_take]; omega
                            have hz2 : (ba (U.drop m)).size ≤ 1000000 := by rw [ba_size, List.length_drop]; omega
                            have hI2 := rismail_any (ba (Ad.untag U)) (by rw [ba_size]; omega) w3.drew
                            rw [ba_list] at hI2
                            have HI2 := Lib.hid hI2
                            have HBE : Hid (Below w.heap.size w w3.drew) := Lib.hid (below_drewN HBW.out 1)
                            generalize ba (Ad.untag U) = RT at HI2 HCAT HRES2
                            generalize ba (U.take k) = P1 at hto HCAT hz1
                            generalize ba (U.drop m) = P2 at hon HCAT hz2
                            clear e hno h64 hgy hul hI2
                            go_wp2_with fail
                            go_big_region
                            rw [HCAT.out]
                            generalize Ad.mailOk (Ad.untag U) = b at HI2 HRES2
                            go_wp2_with fail
                            refine HI2.out.mono ?_
                            rintro e w5 ⟨rfl, hw5⟩
                            rw [hw5]
                            clear hw5 HI2
                            cases b with
                            | false =>
                              go_wp2_with fail
                              go_ret2
                              exact ⟨by rw [HRES2.out.1, HRES2.out.2]; rfl, HBE.out⟩
                            | true =>
                              go_wp2_with fail
                              go_ret2
                              exact ⟨by rw [HRES2.out.1, HRES2.out.2]; rfl, HBE.out⟩
                          · have g64 : ¬ (y.toNat : Int) = 64 := fun e => h64 (UInt8.toNat_inj.1 (by simpa using (by omega : y.toNat = 64)))
                            have HNO := Lib.hid (no_at_succ hkm hmU hno (by rw [← hgy]; exact h64))
                            clear hno hgy h64
                            go_wp2_with fail
                            go_roundw
                            case rel => exact ⟨trivial, m + 1, rfl, by go_num, by omega, by omega, HNO.out⟩
                            case measure => simp [intOf]; omega
                        · obtain rfl : m = SU.size := by omega
                          rw [List.take_of_length_le (by omega)] at hno
                          have hsame := tag_no_at HALL.out hkU HU43.out hno
                          clear hno
                          have HRES2 : Hid (mailB L = Ad.mailOk U ∧ mailS L = if Ad.mailOk U = true then SU else ⟨#[]⟩) := Lib.hid (by
                            have hr := HRES.out
                            rw [hsame, HSU.out] at hr
                            exact hr)
                          have hI2 := rismail_any SU (by omega) w3
                          rw [show SU.data.toList = U by rw [← HSU.out, ba_list]] at hI2
                          have HI2 := Lib.hid hI2
                          have HBE := Lib.hid HBW.out
                          clear hI2 hsame
                          generalize Ad.mailOk U = b at HI2 HRES2
                          go_wp2_with fail
                          refine HI2.out.mono ?_
                          rintro e w5 ⟨rfl, hw5⟩
                          rw [hw5]
                          clear hw5 HI2
                          cases b with
                          | false =>
                            go_wp2_with fail
                            go_ret2
                            exact ⟨by rw [HRES2.out.1, HRES2.out.2]; rfl, HBE.out⟩
                          | true =>
                            go_wp2_with fail
                            go_ret2
                            exact ⟨by rw [HRES2.out.1, HRES2.out.2]; rfl, HBE.out⟩
                    · have g43 : ¬ (x.toNat : Int) = 43 := fun e => h43 (UInt8.toNat_inj.1 (by simpa using (by omega : x.toNat = 43)))
                      have HALL := Lib.hid (take_ne_succ hall hkU (by rw [← hg]; exact h43))
                      clear hall h43 hg
                      go_wp2_with fail
                      go_roundw
                      case rel => exact ⟨trivial, k + 1, rfl, by go_num, by omega, HALL.out⟩
                      case measure => simp [intOf]; omega
                  · obtain rfl : k = SU.size := by omega
                    rw [List.take_of_length_le (by omega)] at hall
                    have hsame := Ad.untag_self U hall
                    clear hall
                    have HRES2 : Hid (mailB L = Ad.mailOk U ∧ mailS L = if Ad.mailOk U = true then SU else ⟨#[]⟩) := Lib.hid (by
                      have hr := HRES.out
                      rw [hsame, HSU.out] at hr
                      exact hr)
                    have hI2 := rismail_any SU (by omega) w3
                    rw [show SU.data.toList = U by rw [← HSU.out, ba_list]] at hI2
                    have HI2 := Lib.hid hI2
                    have HBE := Lib.hid HBW.out
                    clear hI2 hsame
                    generalize Ad.mailOk U = b at HI2 HRES2
                    go_wp2_with fail
                    refine HI2.out.mono ?_
                    rintro e w5 ⟨rfl, hw5⟩
                    rw [hw5]
                    clear hw5 HI2
                    cases b with
                    | false =>
                      go_wp2_with fail
                      go_ret2
                      exact ⟨by rw [HRES2.out.1, HRES2.out.2]; rfl, HBE.out⟩
                    | true =>
                      go_wp2_with fail
                      go_ret2
                      exact ⟨by rw [HRES2.out.1, HRES2.out.2]; rfl, HBE.out⟩
    | cons x r =>
      subst hCc
      obtain ⟨S, hS⟩ : ∃ S, ba (x :: r) = S := ⟨_, rfl⟩
      have hSz : S.size = r.length + 1 := by rw [← hS, ba_size]; rfl
      have h0 : 0 < S.size := by omega
      have hx : S[0]'h0 = x := by subst hS; rfl
      have hpos : (0 : Int) < (S.size : Int) := by omega
      rw [hS]
      by_cases hw : Ad.ws x = true
      · have hsl : ∀ W, (Instr.slice 9 (.string S) (some (.int .i64 1)) none none).run Tryd.prog W = .ok (.string (ba r)) W := fun W => by
          have h := run_onw (x :: r) 1 (by simp) W
          rw [hS] at h
          exact h
        have HC2 : Hid (Ad.trimL r = Ad.trimL L) := Lib.hid (by rw [← hC, Ad.trimL_cons, if_pos hw])
        have HRZ := Lib.hid (ba_size r)
        have hrl : r.length ≤ L.length := by simp at hCl; omega
        clear hC hS
        rcases (ws_iff x).1 hw with h32 | h9
        · have g32 : (x.toNat : Int) = 32 := by rw [h32]; rfl
          clear hw h32
          go_wp2_with fail
          go_roundw
          case rel => exact ⟨trivial, r, rfl, HC2.out, hrl⟩
          case measure => have h2 := HRZ.out; show (ba r).size < S.size; omega
        · have g9 : (x.toNat : Int) = 9 := by rw [h9]; rfl
          clear hw h9
          go_wp2_with fail
          go_roundw
          case rel => exact ⟨trivial, r, rfl, HC2.out, hrl⟩
          case measure => have h2 := HRZ.out; show (ba r).size < S.size; omega
      · have hn32 : ((x.toNat : Int) == 32) = false := by simpa using (fun e => hw ((ws_iff x).2 (.inl (UInt8.toNat_inj.1 (by simpa using (by omega : x.toNat = 32))))) : ¬ (x.toNat : Int) = 32)
        have hn9 : ((x.toNat : Int) == 9) = false := by simpa using (fun e => hw ((ws_iff x).2 (.inr (UInt8.toNat_inj.1 (by simpa using (by omega : x.toNat = 9))))) : ¬ (x.toNat : Int) = 9)
        obtain ⟨M, hMe⟩ : ∃ M, x :: r = M := ⟨_, rfl⟩
        have HMT : Hid (M = Ad.trimL L) := Lib.hid (by rw [← hMe, ← hC, Ad.trimL_cons, if_neg hw])
        have hMz : M.length = S.size := by rw [← hMe, hSz]; rfl
        have hMl : M.length ≤ 1000000 := by rw [← hMe]; exact Nat.le_trans hCl hl
        have HS : Hid (ba M = S) := Lib.hid (by rw [← hMe, hS])
        clear hC hw hMe hS hCl hSz
        go_wp2_with fail
        try clear hz0
        go_loopw [0] (fun v wr => wr = w ∧ ∃ C : List UInt8, v = .string (ba C) ∧ Ad.trimR C = Ad.trimR M ∧ C.length ≤ M.length) (fun v _ => strLen v)
        case atStart => exact ⟨rfl, M, by rw [HS.out], rfl, Nat.le_refl _⟩
        case round =>
          obtain ⟨hwr, C, rfl, hC, hCl⟩ := hrel
          obtain rfl : w = wr := hwr.symm
          clear hwr
          rcases Nat.eq_zero_or_pos C.length with hC0 | hCp
          · obtain rfl : C = [] := List.eq_nil_of_length_eq_zero hC0
            obtain ⟨S2, hS2⟩ : ∃ S, ba [] = S := ⟨_, rfl⟩
            have hz0 : S2.size = 0 := by rw [← hS2]; rfl
            obtain ⟨T, hTe⟩ : ∃ T : List UInt8, [] = T := ⟨_, rfl⟩
            have HT : Hid (T = Ad.trim L) := Lib.hid (by unfold Ad.trim; rw [← HMT.out, ← hC, ← hTe]; rfl)
            have hTz : T.length = S2.size := by rw [← hTe, hz0]; rfl
            have hTl : T.length ≤ 1000000 := by omega
            have HS2 : Hid (ba T = S2) := Lib.hid (by rw [← hTe, hS2])
            rw [hS2]
            clear hC hTe hS2 hCl hC0
            go_wp2_with fail
            clear hz0
            have HTS := Lib.hid (fun k (h : k < S2.size) (h2 : k < T.length) => (by have hv := HS2.out; subst hv; rfl : S2[k] = T[k]))
            go_loopw [4, 5, 6] (fun v i _ wr => ∃ k n : Nat, ∃ A c, v = .slice A n c ∧ i = .int .i64 (k : Int) ∧ k ≤ S2.size ∧ n = (Ad.low (T.take k)).length ∧ wr.ownsRow w.heap.size 5 1 (.slice A n c) n (cb (Ad.low (T.take k))) ∧ Below w.heap.size w wr) (fun _ i _ _ => S2.size - (intOf i).toNat)
            case atStart => exact ⟨0, 0, none, 0, rfl, rfl, by omega, rfl, World.ownsRow_nil _ _ _ _, Below.refl _ _⟩
            case round =>
              obtain ⟨k, n, A, c, rfl, rfl, hk, hn, ho, hB⟩ := hrel
              have hfl := low_take_len T k
              have HBW := Lib.hid hB
              have HBs := hB.size
              have HOW := Lib.hid ho
              have HN := Lib.hid hn
              have hn2 : n ≤ 1000000 := by omega
              clear ho hB hfl hn
              by_cases hlt : k < S2.size
              · have hki : (k : Int) < (S2.size : Int) := by omega
                have hkT : k < T.length := by omega
                have ht := low_take_succ T k hkT
                rw [← HTS.out k hlt hkT] at ht
                obtain ⟨x, hx⟩ : ∃ x, S2[k] = x := ⟨_, rfl⟩
                rw [hx] at ht
                have hxl := x.toNat_lt
                by_cases h65 : 65 ≤ x.toNat
                · have g4 : (65 : Int) ≤ (x.toNat : Int) := by omega
                  by_cases h90 : x.toNat ≤ 90
                  · have g5 : (x.toNat : Int) ≤ 90 := by omega
                    have hyw := low_up2 x ⟨h65, h90⟩
                    generalize Ad.low1 x = y at ht hyw
                    have HYW := Lib.hid hyw
                    clear hyw
                    have HT2 := Lib.hid ht
                    have hblk0 := Blk.new wr 5 #[.int .u8 ((x.toNat : Int) - 65 + 97)]
                    have hown0 : (wr.alloc (.cells #[.int .u8 ((x.toNat : Int) - 65 + 97)] 5)).ownsRow w.heap.size 5 1 (.slice A n c) n (cb (Ad.low (T.take k))) := HOW.out.alloc _
                    clear ht
                    go_wp2_with
                      (at_builtin
                       refine wpList_append_lies _ rfl (.tmp 68) (.tmp 70) 31 rfl w.heap.size 5 i0 _ 1 1 Tryd.underlying31 HI.out HZ.out HZ1.out HZ2.out rfl (by decide) (.slice A n c) n (cb (Ad.low (T.take k))) rfl hown0 ⟨wr.heap.size, 0, none⟩ 1 1 [.int .u8 ((x.toNat : Int) - 65 + 97)] rfl rfl (World.news_of_block hblk0) (by intro u hu; simp at hu; subst hu; rfl) (by omega) (by unfold maxLen; omega) (by omega) (by simp; omega) (wr.heap.size + 1) (by simp) ?_
                       intro g cap w4 hown2 hgrow hat hlt2
                       have HO2 := Lib.hid hown2
                       have HB3 := Lib.hid ((HBW.out.alloc HBs _).grown hgrow (by simp; omega) (fun j hj => own_base HOW.out hj))
                       clear hown2 hgrow hat hlt2 hown0 hblk0)
                    go_roundw
                    case rel => exact ⟨k + 1, n + 1, _, _, rfl, by go_num, by omega, by rw [HT2.out, List.length_append, ← HN.out]; rfl, by rw [HT2.out]; have h := HO2.out; rw [HYW.out] at h; simpa [cb] using h, HB3.out⟩
                    case measure => simp [intOf]; omega
                  · have g5 : ¬ ((x.toNat : Int) ≤ 90) := by omega
                    rw [low_not x (by omega)] at ht
                    have HT2 := Lib.hid ht
                    have hblk0 := Blk.new wr 5 #[.int .u8 (x.toNat : Int)]
                    have hown0 : (wr.alloc (.cells #[.int .u8 (x.toNat : Int)] 5)).ownsRow w.heap.size 5 1 (.slice A n c) n (cb (Ad.low (T.take k))) := HOW.out.alloc _
                    clear ht
                    go_wp2_with
                      (at_builtin
                       refine wpList_append_lies _ rfl (.tmp 68) (.tmp 70) 31 rfl w.heap.size 5 i0 _ 1 1 Tryd.underlying31 HI.out HZ.out HZ1.out HZ2.out rfl (by decide) (.slice A n c) n (cb (Ad.low (T.take k))) rfl hown0 ⟨wr.heap.size, 0, none⟩ 1 1 [.int .u8 (x.toNat : Int)] rfl rfl (World.news_of_block hblk0) (by intro u hu; simp at hu; subst hu; rfl) (by omega) (by unfold maxLen; omega) (by omega) (by simp; omega) (wr.heap.size + 1) (by simp) ?_
                       intro g cap w4 hown2 hgrow hat hlt2
                       have HO2 := Lib.hid hown2
                       have HB3 := Lib.hid ((HBW.out.alloc HBs _).grown hgrow (by simp; omega) (fun j hj => own_base HOW.out hj))
                       clear hown2 hgrow hat hlt2 hown0 hblk0)
                    go_roundw
                    case rel => exact ⟨k + 1, n + 1, _, _, rfl, by go_num, by omega, by rw [HT2.out, List.length_append, ← HN.out]; rfl, by rw [HT2.out]; have h := HO2.out; simpa [cb] using h, HB3.out⟩
                    case measure => simp [intOf]; omega
                · have g4 : ¬ ((65 : Int) ≤ (x.toNat : Int)) := by omega
                  rw [low_not x (by omega)] at ht
                  have HT2 := Lib.hid ht
                  have hblk0 := Blk.new wr 5 #[.int .u8 (x.toNat : Int)]
                  have hown0 : (wr.alloc (.cells #[.int .u8 (x.toNat : Int)] 5)).ownsRow w.heap.size 5 1 (.slice A n c) n (cb (Ad.low (T.take k))) := HOW.out.alloc _
                  clear ht
                  go_wp2_with
                    (at_builtin
                     refine wpList_append_lies _ rfl (.tmp 68) (.tmp 70) 31 rfl w.heap.size 5 i0 _ 1 1 Tryd.underlying31 HI.out HZ.out HZ1.out HZ2.out rfl (by decide) (.slice A n c) n (cb (Ad.low (T.take k))) rfl hown0 ⟨wr.heap.size, 0, none⟩ 1 1 [.int .u8 (x.toNat : Int)] rfl rfl (World.news_of_block hblk0) (by intro u hu; simp at hu; subst hu; rfl) (by omega) (by unfold maxLen; omega) (by omega) (by simp; omega) (wr.heap.size + 1) (by simp) ?_
                     intro g cap w4 hown2 hgrow hat hlt2
                     have HO2 := Lib.hid hown2
                     have HB3 := Lib.hid ((HBW.out.alloc HBs _).grown hgrow (by simp; omega) (fun j hj => own_base HOW.out hj))
                     clear hown2 hgrow hat hlt2 hown0 hblk0)
                  go_roundw
                  case rel => exact ⟨k + 1, n + 1, _, _, rfl, by go_num, by omega, by rw [HT2.out, List.length_append, ← HN.out]; rfl, by rw [HT2.out]; have h := HO2.out; simpa [cb] using h, HB3.out⟩
                  case measure => simp [intOf]; omega
              · obtain rfl : k = S2.size := by omega
                have hno := HN.out
                have ho := HOW.out
                rw [List.take_of_length_le (by omega)] at hno ho
                rw [hno] at ho
                have hcv := run_own_text ho
                rw [← hno] at hcv
                obtain ⟨U, hU⟩ : ∃ U, Ad.low T = U := ⟨_, rfl⟩
                rw [hU] at hcv hno
                have HU := Lib.hid hU
                have hUl : U.length ≤ 1000000 := by rw [← hno]; omega
                obtain ⟨SU, hSU⟩ : ∃ SU, ba U = SU := ⟨_, rfl⟩
                have hUz : U.length = SU.size := by rw [← hSU, ba_size]
                rw [hSU] at hcv
                have HSU := Lib.hid hSU
                have HTO := Lib.hid (fun n h W => run_to U n h W)
                have HON := Lib.hid (fun n h W => run_onw U n h W)
                rw [hSU] at HTO HON
                have HUS := Lib.hid (fun k (h : k < SU.size) (h2 : k < U.length) => (by subst hSU; rfl : SU[k] = U[k]))
                have HRES : Hid (mailB L = Ad.mailOk (Ad.untag U) ∧ mailS L = if Ad.mailOk (Ad.untag U) = true then ba (Ad.untag U) else ⟨#[]⟩) := Lib.hid (by
                  have e : Ad.mailText L = Ad.untag U := by unfold Ad.mailText; rw [← HT.out, hU]
                  unfold mailS mailB
                  rw [e]
                  exact ⟨rfl, rfl⟩)
                clear ho hno hU hSU HN HOW
                go_wp2_with fail
                rename World => w3
                go_loopw [7, 8, 9] (fun t i _ w4 => w4 = w3 ∧ ∃ k : Nat, t = .string SU ∧ i = .int .i64 (k : Int) ∧ k ≤ SU.size ∧ ∀ x ∈ U.take k, x ≠ 43) (fun _ i _ _ => SU.size - (intOf i).toNat)
                case atStart => exact ⟨rfl, 0, rfl, rfl, by omega, by simp⟩
                case round =>
                  obtain ⟨hwr, k, rfl, rfl, hk, hall⟩ := hrel
                  obtain rfl : w3 = wr := hwr.symm
                  clear hwr
                  clear hlt
                  by_cases hlt : k < SU.size
                  · have hki : (k : Int) < (SU.size : Int) := by omega
                    have hkU : k < U.length := by omega
                    have hg := HUS.out k hlt hkU
                    obtain ⟨x, hx⟩ : ∃ x, SU[k] = x := ⟨_, rfl⟩
                    rw [hx] at hg
                    by_cases h43 : x = 43
                    · have g43 : (x.toNat : Int) = 43 := by rw [h43]; rfl
                      have HALL := Lib.hid hall
                      have HU43 : Hid (U[k] = 43) := Lib.hid (hg.symm.trans h43)
                      clear hall h43 hg
                      go_wp2_with fail
                      go_loopw [7, 9] (fun t kk w5 => w5 = w3 ∧ ∃ m : Nat, t = .string SU ∧ kk = .int .i64 (m : Int) ∧ k ≤ m ∧ m ≤ SU.size ∧ ∀ x ∈ (U.take m).drop k, x ≠ 64) (fun _ kk _ => SU.size - (intOf kk).toNat)
                      case atStart => exact ⟨rfl, k, rfl, rfl, by omega, hk, by rw [List.drop_of_length_le (by rw [List.length_take]; omega)]; simp⟩
                      case round =>
                        obtain ⟨hwr, m, rfl, rfl, hkm, hm, hno⟩ := hrel
                        obtain rfl : w3 = wr := hwr.symm
                        clear hwr
                        by_cases hlm : m < SU.size
                        · have hmi2 : (m : Int) < (SU.size : Int) := by omega
                          have hmU : m < U.length := by omega
                          have hgy := HUS.out m hlm hmU
                          obtain ⟨y, hy⟩ : ∃ y, SU[m] = y := ⟨_, rfl⟩
                          rw [hy] at hgy
                          by_cases h64 : y = 64
                          · have g64 : (y.toNat : Int) = 64 := by rw [h64]; rfl
                            have hto := HTO.out k (by omega)
                            have hon := HON.out m (by omega)
                            have e := tag_at HALL.out hkU HU43.out hkm hmU hno (hgy.symm.trans h64)
                            have HRES2 := HRES
                            have hul := untag_len U
                            have HCAT : Hid (ba (U.take k) ++ ba (U.drop m) = ba (Ad.untag U)) := Lib.hid (by rw [ba_append, e])
                            have hz1 : (ba (U.take k)).size ≤ 1000000 := by rw [ba_size, List.length_take]; omega
                            have hz2 : (ba (U.drop m)).size ≤ 1000000 := by rw [ba_size, List.length_drop]; omega
                            have hI2 := rismail_any (ba (Ad.untag U)) (by rw [ba_size]; omega) w3.drew
                            rw [ba_list] at hI2
                            have HI2 := Lib.hid hI2
                            have HBE : Hid (Below w.heap.size w w3.drew) := Lib.hid (below_drewN HBW.out 1)
                            generalize ba (Ad.untag U) = RT at HI2 HCAT HRES2
                            generalize ba (U.take k) = P1 at hto HCAT hz1
                            generalize ba (U.drop m) = P2 at hon HCAT hz2
                            clear e hno h64 hgy hul hI2
                            go_wp2_with fail
                            go_big_region
                            rw [HCAT.out]
                            generalize Ad.mailOk (Ad.untag U) = b at HI2 HRES2
                            go_wp2_with fail
                            refine HI2.out.mono ?_
                            rintro e w5 ⟨rfl, hw5⟩
                            rw [hw5]
                            clear hw5 HI2
                            cases b with
                            | false =>
                              go_wp2_with fail
                              go_ret2
                              exact ⟨by rw [HRES2.out.1, HRES2.out.2]; rfl, HBE.out⟩
                            | true =>
                              go_wp2_with fail
                              go_ret2
                              exact ⟨by rw [HRES2.out.1, HRES2.out.2]; rfl, HBE.out⟩
                          · have g64 : ¬ (y.toNat : Int) = 64 := fun e => h64 (UInt8.toNat_inj.1 (by simpa using (by omega : y.toNat = 64)))
                            have HNO := Lib.hid (no_at_succ hkm hmU hno (by rw [← hgy]; exact h64))
                            clear hno hgy h64
                            go_wp2_with fail
                            go_roundw
                            case rel => exact ⟨trivial, m + 1, rfl, by go_num, by omega, by omega, HNO.out⟩
                            case measure => simp [intOf]; omega
                        · obtain rfl : m = SU.size := by omega
                          rw [List.take_of_length_le (by omega)] at hno
                          have hsame := tag_no_at HALL.out hkU HU43.out hno
                          clear hno
                          have HRES2 : Hid (mailB L = Ad.mailOk U ∧ mailS L = if Ad.mailOk U = true then SU else ⟨#[]⟩) := Lib.hid (by
                            have hr := HRES.out
                            rw [hsame, HSU.out] at hr
                            exact hr)
                          have hI2 := rismail_any SU (by omega) w3
                          rw [show SU.data.toList = U by rw [← HSU.out, ba_list]] at hI2
                          have HI2 := Lib.hid hI2
                          have HBE := Lib.hid HBW.out
                          clear hI2 hsame
                          generalize Ad.mailOk U = b at HI2 HRES2
                          go_wp2_with fail
                          refine HI2.out.mono ?_
                          rintro e w5 ⟨rfl, hw5⟩
                          rw [hw5]
                          clear hw5 HI2
                          cases b with
                          | false =>
                            go_wp2_with fail
                            go_ret2
                            exact ⟨by rw [HRES2.out.1, HRES2.out.2]; rfl, HBE.out⟩
                          | true =>
                            go_wp2_with fail
                            go_ret2
                            exact ⟨by rw [HRES2.out.1, HRES2.out.2]; rfl, HBE.out⟩
                    · have g43 : ¬ (x.toNat : Int) = 43 := fun e => h43 (UInt8.toNat_inj.1 (by simpa using (by omega : x.toNat = 43)))
                      have HALL := Lib.hid (take_ne_succ hall hkU (by rw [← hg]; exact h43))
                      clear hall h43 hg
                      go_wp2_with fail
                      go_roundw
                      case rel => exact ⟨trivial, k + 1, rfl, by go_num, by omega, HALL.out⟩
                      case measure => simp [intOf]; omega
                  · obtain rfl : k = SU.size := by omega
                    rw [List.take_of_length_le (by omega)] at hall
                    have hsame := Ad.untag_self U hall
                    clear hall
                    have HRES2 : Hid (mailB L = Ad.mailOk U ∧ mailS L = if Ad.mailOk U = true then SU else ⟨#[]⟩) := Lib.hid (by
                      have hr := HRES.out
                      rw [hsame, HSU.out] at hr
                      exact hr)
                    have hI2 := rismail_any SU (by omega) w3
                    rw [show SU.data.toList = U by rw [← HSU.out, ba_list]] at hI2
                    have HI2 := Lib.hid hI2
                    have HBE := Lib.hid HBW.out
                    clear hI2 hsame
                    generalize Ad.mailOk U = b at HI2 HRES2
                    go_wp2_with fail
                    refine HI2.out.mono ?_
                    rintro e w5 ⟨rfl, hw5⟩
                    rw [hw5]
                    clear hw5 HI2
                    cases b with
                    | false =>
                      go_wp2_with fail
                      go_ret2
                      exact ⟨by rw [HRES2.out.1, HRES2.out.2]; rfl, HBE.out⟩
                    | true =>
                      go_wp2_with fail
                      go_ret2
                      exact ⟨by rw [HRES2.out.1, HRES2.out.2]; rfl, HBE.out⟩
          · obtain ⟨m, hm⟩ : ∃ m, C.length = m + 1 := ⟨C.length - 1, by omega⟩
            obtain ⟨x, hxm, hCx⟩ := last_split hm
            obtain ⟨S2, hS2⟩ : ∃ S, ba C = S := ⟨_, rfl⟩
            have hSz2 : S2.size = m + 1 := by rw [← hS2, ba_size, hm]
            have h02 : m < S2.size := by omega
            have hx2 : S2[m]'h02 = x := by subst hS2; exact hxm
            have hpos2 : (0 : Int) < (S2.size : Int) := by omega
            have hmi : (S2.size : Int) - 1 = (m : Int) := by omega
            rw [hS2]
            by_cases hw : Ad.ws x = true
            · have hsl : ∀ W, (Instr.slice 9 (.string S2) none (some (.int .i64 (m : Int))) none).run Tryd.prog W = .ok (.string (ba (C.take m))) W := fun W => by
                have h := run_to C m (by omega) W
                rw [hS2] at h
                exact h
              have HC2 : Hid (Ad.trimR (C.take m) = Ad.trimR M) := Lib.hid (by rw [← hC]; conv => rhs; rw [hCx]
                                                                               rw [Ad.trimR_snoc, if_pos hw])
              have HRZ : Hid ((ba (C.take m)).size = m) := Lib.hid (by rw [ba_size, List.length_take]; omega)
              have hrl : (C.take m).length ≤ M.length := by rw [List.length_take]; omega
              clear hC hS2 hCx hxm
              rcases (ws_iff x).1 hw with h32 | h9
              · have g32 : (x.toNat : Int) = 32 := by rw [h32]; rfl
                clear hw h32 hSz2
                go_wp2_with fail
                go_roundw
                case rel => exact ⟨trivial, C.take m, rfl, HC2.out, hrl⟩
                case measure => have h2 := HRZ.out; show (ba (C.take m)).size < S2.size; omega
              · have g9 : (x.toNat : Int) = 9 := by rw [h9]; rfl
                clear hw h9 hSz2
                go_wp2_with fail
                go_roundw
                case rel => exact ⟨trivial, C.take m, rfl, HC2.out, hrl⟩
                case measure => have h2 := HRZ.out; show (ba (C.take m)).size < S2.size; omega
            · have hn32 : ((x.toNat : Int) == 32) = false := by simpa using (fun e => hw ((ws_iff x).2 (.inl (UInt8.toNat_inj.1 (by simpa using (by omega : x.toNat = 32))))) : ¬ (x.toNat : Int) = 32)
              have hn9 : ((x.toNat : Int) == 9) = false := by simpa using (fun e => hw ((ws_iff x).2 (.inr (UInt8.toNat_inj.1 (by simpa using (by omega : x.toNat = 9))))) : ¬ (x.toNat : Int) = 9)
              obtain ⟨T, hTe⟩ : ∃ T : List UInt8, C = T := ⟨_, rfl⟩
              have HT : Hid (T = Ad.trim L) := Lib.hid (by
                unfold Ad.trim
                rw [← HMT.out, ← hC, ← hTe]
                conv => lhs; rw [hCx]
                conv => rhs; rw [hCx]
                rw [Ad.trimR_snoc, if_neg hw])
              have hTz : T.length = S2.size := by rw [← hTe, hSz2, hm]
              have hTl : T.length ≤ 1000000 := by rw [← hTe]; exact Nat.le_trans hCl hMl
              have HS2 : Hid (ba T = S2) := Lib.hid (by rw [← hTe, hS2])
              clear hC hw hTe hS2 hCl hCx hxm hm hSz2
              go_wp2_with fail
              have HTS := Lib.hid (fun k (h : k < S2.size) (h2 : k < T.length) => (by have hv := HS2.out; subst hv; rfl : S2[k] = T[k]))
              go_loopw [4, 5, 6] (fun v i _ wr => ∃ k n : Nat, ∃ A c, v = .slice A n c ∧ i = .int .i64 (k : Int) ∧ k ≤ S2.size ∧ n = (Ad.low (T.take k)).length ∧ wr.ownsRow w.heap.size 5 1 (.slice A n c) n (cb (Ad.low (T.take k))) ∧ Below w.heap.size w wr) (fun _ i _ _ => S2.size - (intOf i).toNat)
              case atStart => exact ⟨0, 0, none, 0, rfl, rfl, by omega, rfl, World.ownsRow_nil _ _ _ _, Below.refl _ _⟩
              case round =>
                obtain ⟨k, n, A, c, rfl, rfl, hk, hn, ho, hB⟩ := hrel
                have hfl := low_take_len T k
                have HBW := Lib.hid hB
                have HBs := hB.size
                have HOW := Lib.hid ho
                have HN := Lib.hid hn
                have hn2 : n ≤ 1000000 := by omega
                clear ho hB hfl hn
                by_cases hlt : k < S2.size
                · have hki : (k : Int) < (S2.size : Int) := by omega
                  have hkT : k < T.length := by omega
                  have ht := low_take_succ T k hkT
                  rw [← HTS.out k hlt hkT] at ht
                  obtain ⟨x, hx⟩ : ∃ x, S2[k] = x := ⟨_, rfl⟩
                  rw [hx] at ht
                  have hxl := x.toNat_lt
                  by_cases h65 : 65 ≤ x.toNat
                  · have g4 : (65 : Int) ≤ (x.toNat : Int) := by omega
                    by_cases h90 : x.toNat ≤ 90
                    · have g5 : (x.toNat : Int) ≤ 90 := by omega
                      have hyw := low_up2 x ⟨h65, h90⟩
                      generalize Ad.low1 x = y at ht hyw
                      have HYW := Lib.hid hyw
                      clear hyw
                      have HT2 := Lib.hid ht
                      have hblk0 := Blk.new wr 5 #[.int .u8 ((x.toNat : Int) - 65 + 97)]
                      have hown0 : (wr.alloc (.cells #[.int .u8 ((x.toNat : Int) - 65 + 97)] 5)).ownsRow w.heap.size 5 1 (.slice A n c) n (cb (Ad.low (T.take k))) := HOW.out.alloc _
                      clear ht
                      go_wp2_with
                        (at_builtin
                         refine wpList_append_lies _ rfl (.tmp 68) (.tmp 70) 31 rfl w.heap.size 5 i0 _ 1 1 Tryd.underlying31 HI.out HZ.out HZ1.out HZ2.out rfl (by decide) (.slice A n c) n (cb (Ad.low (T.take k))) rfl hown0 ⟨wr.heap.size, 0, none⟩ 1 1 [.int .u8 ((x.toNat : Int) - 65 + 97)] rfl rfl (World.news_of_block hblk0) (by intro u hu; simp at hu; subst hu; rfl) (by omega) (by unfold maxLen; omega) (by omega) (by simp; omega) (wr.heap.size + 1) (by simp) ?_
                         intro g cap w4 hown2 hgrow hat hlt2
                         have HO2 := Lib.hid hown2
                         have HB3 := Lib.hid ((HBW.out.alloc HBs _).grown hgrow (by simp; omega) (fun j hj => own_base HOW.out hj))
                         clear hown2 hgrow hat hlt2 hown0 hblk0)
                      go_roundw
                      case rel => exact ⟨k + 1, n + 1, _, _, rfl, by go_num, by omega, by rw [HT2.out, List.length_append, ← HN.out]; rfl, by rw [HT2.out]; have h := HO2.out; rw [HYW.out] at h; simpa [cb] using h, HB3.out⟩
                      case measure => simp [intOf]; omega
                    · have g5 : ¬ ((x.toNat : Int) ≤ 90) := by omega
                      rw [low_not x (by omega)] at ht
                      have HT2 := Lib.hid ht
                      have hblk0 := Blk.new wr 5 #[.int .u8 (x.toNat : Int)]
                      have hown0 : (wr.alloc (.cells #[.int .u8 (x.toNat : Int)] 5)).ownsRow w.heap.size 5 1 (.slice A n c) n (cb (Ad.low (T.take k))) := HOW.out.alloc _
                      clear ht
                      go_wp2_with
                        (at_builtin
                         refine wpList_append_lies _ rfl (.tmp 68) (.tmp 70) 31 rfl w.heap.size 5 i0 _ 1 1 Tryd.underlying31 HI.out HZ.out HZ1.out HZ2.out rfl (by decide) (.slice A n c) n (cb (Ad.low (T.take k))) rfl hown0 ⟨wr.heap.size, 0, none⟩ 1 1 [.int .u8 (x.toNat : Int)] rfl rfl (World.news_of_block hblk0) (by intro u hu; simp at hu; subst hu; rfl) (by omega) (by unfold maxLen; omega) (by omega) (by simp; omega) (wr.heap.size + 1) (by simp) ?_
                         intro g cap w4 hown2 hgrow hat hlt2
                         have HO2 := Lib.hid hown2
                         have HB3 := Lib.hid ((HBW.out.alloc HBs _).grown hgrow (by simp; omega) (fun j hj => own_base HOW.out hj))
                         clear hown2 hgrow hat hlt2 hown0 hblk0)
                      go_roundw
                      case rel => exact ⟨k + 1, n + 1, _, _, rfl, by go_num, by omega, by rw [HT2.out, List.length_append, ← HN.out]; rfl, by rw [HT2.out]; have h := HO2.out; simpa [cb] using h, HB3.out⟩
                      case measure => simp [intOf]; omega
                  · have g4 : ¬ ((65 : Int) ≤ (x.toNat : Int)) := by omega
                    rw [low_not x (by omega)] at ht
                    have HT2 := Lib.hid ht
                    have hblk0 := Blk.new wr 5 #[.int .u8 (x.toNat : Int)]
                    have hown0 : (wr.alloc (.cells #[.int .u8 (x.toNat : Int)] 5)).ownsRow w.heap.size 5 1 (.slice A n c) n (cb (Ad.low (T.take k))) := HOW.out.alloc _
                    clear ht
                    go_wp2_with
                      (at_builtin
                       refine wpList_append_lies _ rfl (.tmp 68) (.tmp 70) 31 rfl w.heap.size 5 i0 _ 1 1 Tryd.underlying31 HI.out HZ.out HZ1.out HZ2.out rfl (by decide) (.slice A n c) n (cb (Ad.low (T.take k))) rfl hown0 ⟨wr.heap.size, 0, none⟩ 1 1 [.int .u8 (x.toNat : Int)] rfl rfl (World.news_of_block hblk0) (by intro u hu; simp at hu; subst hu; rfl) (by omega) (by unfold maxLen; omega) (by omega) (by simp; omega) (wr.heap.size + 1) (by simp) ?_
                       intro g cap w4 hown2 hgrow hat hlt2
                       have HO2 := Lib.hid hown2
                       have HB3 := Lib.hid ((HBW.out.alloc HBs _).grown hgrow (by simp; omega) (fun j hj => own_base HOW.out hj))
                       clear hown2 hgrow hat hlt2 hown0 hblk0)
                    go_roundw
                    case rel => exact ⟨k + 1, n + 1, _, _, rfl, by go_num, by omega, by rw [HT2.out, List.length_append, ← HN.out]; rfl, by rw [HT2.out]; have h := HO2.out; simpa [cb] using h, HB3.out⟩
                    case measure => simp [intOf]; omega
                · obtain rfl : k = S2.size := by omega
                  have hno := HN.out
                  have ho := HOW.out
                  rw [List.take_of_length_le (by omega)] at hno ho
                  rw [hno] at ho
                  have hcv := run_own_text ho
                  rw [← hno] at hcv
                  obtain ⟨U, hU⟩ : ∃ U, Ad.low T = U := ⟨_, rfl⟩
                  rw [hU] at hcv hno
                  have HU := Lib.hid hU
                  have hUl : U.length ≤ 1000000 := by rw [← hno]; omega
                  obtain ⟨SU, hSU⟩ : ∃ SU, ba U = SU := ⟨_, rfl⟩
                  have hUz : U.length = SU.size := by rw [← hSU, ba_size]
                  rw [hSU] at hcv
                  have HSU := Lib.hid hSU
                  have HTO := Lib.hid (fun n h W => run_to U n h W)
                  have HON := Lib.hid (fun n h W => run_onw U n h W)
                  rw [hSU] at HTO HON
                  have HUS := Lib.hid (fun k (h : k < SU.size) (h2 : k < U.length) => (by subst hSU; rfl : SU[k] = U[k]))
                  have HRES : Hid (mailB L = Ad.mailOk (Ad.untag U) ∧ mailS L = if Ad.mailOk (Ad.untag U) = true then ba (Ad.untag U) else ⟨#[]⟩) := Lib.hid (by
                    have e : Ad.mailText L = Ad.untag U := by unfold Ad.mailText; rw [← HT.out, hU]
                    unfold mailS mailB
                    rw [e]
                    exact ⟨rfl, rfl⟩)
                  clear ho hno hU hSU HN HOW
                  go_wp2_with fail
                  rename World => w3
                  go_loopw [7, 8, 9] (fun t i _ w4 => w4 = w3 ∧ ∃ k : Nat, t = .string SU ∧ i = .int .i64 (k : Int) ∧ k ≤ SU.size ∧ ∀ x ∈ U.take k, x ≠ 43) (fun _ i _ _ => SU.size - (intOf i).toNat)
                  case atStart => exact ⟨rfl, 0, rfl, rfl, by omega, by simp⟩
                  case round =>
                    obtain ⟨hwr, k, rfl, rfl, hk, hall⟩ := hrel
                    obtain rfl : w3 = wr := hwr.symm
                    clear hwr
                    clear hlt
                    by_cases hlt : k < SU.size
                    · have hki : (k : Int) < (SU.size : Int) := by omega
                      have hkU : k < U.length := by omega
                      have hg := HUS.out k hlt hkU
                      obtain ⟨x, hx⟩ : ∃ x, SU[k] = x := ⟨_, rfl⟩
                      rw [hx] at hg
                      by_cases h43 : x = 43
                      · have g43 : (x.toNat : Int) = 43 := by rw [h43]; rfl
                        have HALL := Lib.hid hall
                        have HU43 : Hid (U[k] = 43) := Lib.hid (hg.symm.trans h43)
                        clear hall h43 hg
                        go_wp2_with fail
                        go_loopw [7, 9] (fun t kk w5 => w5 = w3 ∧ ∃ m : Nat, t = .string SU ∧ kk = .int .i64 (m : Int) ∧ k ≤ m ∧ m ≤ SU.size ∧ ∀ x ∈ (U.take m).drop k, x ≠ 64) (fun _ kk _ => SU.size - (intOf kk).toNat)
                        case atStart => exact ⟨rfl, k, rfl, rfl, by omega, hk, by rw [List.drop_of_length_le (by rw [List.length_take]; omega)]; simp⟩
                        case round =>
                          obtain ⟨hwr, m, rfl, rfl, hkm, hm, hno⟩ := hrel
                          obtain rfl : w3 = wr := hwr.symm
                          clear hwr
                          by_cases hlm : m < SU.size
                          · have hmi2 : (m : Int) < (SU.size : Int) := by omega
                            have hmU : m < U.length := by omega
                            have hgy := HUS.out m hlm hmU
                            obtain ⟨y, hy⟩ : ∃ y, SU[m] = y := ⟨_, rfl⟩
                            rw [hy] at hgy
                            by_cases h64 : y = 64
                            · have g64 : (y.toNat : Int) = 64 := by rw [h64]; rfl
                              have hto := HTO.out k (by omega)
                              have hon := HON.out m (by omega)
                              have e := tag_at HALL.out hkU HU43.out hkm hmU hno (hgy.symm.trans h64)
                              have HRES2 := HRES
                              have hul := untag_len U
                              have HCAT : Hid (ba (U.take k) ++ ba (U.drop m) = ba (Ad.untag U)) := Lib.hid (by rw [ba_append, e])
                              have hz1 : (ba (U.take k)).size ≤ 1000000 := by rw [ba_size, List.length_take]; omega
                              have hz2 : (ba (U.drop m)).size ≤ 1000000 := by rw [ba_size, List.length_drop]; omega
                              have hI2 := rismail_any (ba (Ad.untag U)) (by rw [ba_size]; omega) w3.drew
                              rw [ba_list] at hI2
                              have HI2 := Lib.hid hI2
                              have HBE : Hid (Below w.heap.size w w3.drew) := Lib.hid (below_drewN HBW.out 1)
                              generalize ba (Ad.untag U) = RT at HI2 HCAT HRES2
                              generalize ba (U.take k) = P1 at hto HCAT hz1
                              generalize ba (U.drop m) = P2 at hon HCAT hz2
                              clear e hno h64 hgy hul hI2
                              go_wp2_with fail
                              go_big_region
                              rw [HCAT.out]
                              generalize Ad.mailOk (Ad.untag U) = b at HI2 HRES2
                              go_wp2_with fail
                              refine HI2.out.mono ?_
                              rintro e w5 ⟨rfl, hw5⟩
                              rw [hw5]
                              clear hw5 HI2
                              cases b with
                              | false =>
                                go_wp2_with fail
                                go_ret2
                                exact ⟨by rw [HRES2.out.1, HRES2.out.2]; rfl, HBE.out⟩
                              | true =>
                                go_wp2_with fail
                                go_ret2
                                exact ⟨by rw [HRES2.out.1, HRES2.out.2]; rfl, HBE.out⟩
                            · have g64 : ¬ (y.toNat : Int) = 64 := fun e => h64 (UInt8.toNat_inj.1 (by simpa using (by omega : y.toNat = 64)))
                              have HNO := Lib.hid (no_at_succ hkm hmU hno (by rw [← hgy]; exact h64))
                              clear hno hgy h64
                              go_wp2_with fail
                              go_roundw
                              case rel => exact ⟨trivial, m + 1, rfl, by go_num, by omega, by omega, HNO.out⟩
                              case measure => simp [intOf]; omega
                          · obtain rfl : m = SU.size := by omega
                            rw [List.take_of_length_le (by omega)] at hno
                            have hsame := tag_no_at HALL.out hkU HU43.out hno
                            clear hno
                            have HRES2 : Hid (mailB L = Ad.mailOk U ∧ mailS L = if Ad.mailOk U = true then SU else ⟨#[]⟩) := Lib.hid (by
                              have hr := HRES.out
                              rw [hsame, HSU.out] at hr
                              exact hr)
                            have hI2 := rismail_any SU (by omega) w3
                            rw [show SU.data.toList = U by rw [← HSU.out, ba_list]] at hI2
                            have HI2 := Lib.hid hI2
                            have HBE := Lib.hid HBW.out
                            clear hI2 hsame
                            generalize Ad.mailOk U = b at HI2 HRES2
                            go_wp2_with fail
                            refine HI2.out.mono ?_
                            rintro e w5 ⟨rfl, hw5⟩
                            rw [hw5]
                            clear hw5 HI2
                            cases b with
                            | false =>
                              go_wp2_with fail
                              go_ret2
                              exact ⟨by rw [HRES2.out.1, HRES2.out.2]; rfl, HBE.out⟩
                            | true =>
                              go_wp2_with fail
                              go_ret2
                              exact ⟨by rw [HRES2.out.1, HRES2.out.2]; rfl, HBE.out⟩
                      · have g43 : ¬ (x.toNat : Int) = 43 := fun e => h43 (UInt8.toNat_inj.1 (by simpa using (by omega : x.toNat = 43)))
                        have HALL := Lib.hid (take_ne_succ hall hkU (by rw [← hg]; exact h43))
                        clear hall h43 hg
                        go_wp2_with fail
                        go_roundw
                        case rel => exact ⟨trivial, k + 1, rfl, by go_num, by omega, HALL.out⟩
                        case measure => simp [intOf]; omega
                    · obtain rfl : k = SU.size := by omega
                      rw [List.take_of_length_le (by omega)] at hall
                      have hsame := Ad.untag_self U hall
                      clear hall
                      have HRES2 : Hid (mailB L = Ad.mailOk U ∧ mailS L = if Ad.mailOk U = true then SU else ⟨#[]⟩) := Lib.hid (by
                        have hr := HRES.out
                        rw [hsame, HSU.out] at hr
                        exact hr)
                      have hI2 := rismail_any SU (by omega) w3
                      rw [show SU.data.toList = U by rw [← HSU.out, ba_list]] at hI2
                      have HI2 := Lib.hid hI2
                      have HBE := Lib.hid HBW.out
                      clear hI2 hsame
                      generalize Ad.mailOk U = b at HI2 HRES2
                      go_wp2_with fail
                      refine HI2.out.mono ?_
                      rintro e w5 ⟨rfl, hw5⟩
                      rw [hw5]
                      clear hw5 HI2
                      cases b with
                      | false =>
                        go_wp2_with fail
                        go_ret2
                        exact ⟨by rw [HRES2.out.1, HRES2.out.2]; rfl, HBE.out⟩
                      | true =>
                        go_wp2_with fail
                        go_ret2
                        exact ⟨by rw [HRES2.out.1, HRES2.out.2]; rfl, HBE.out⟩
end Go.Proofs.YtpcbbmafallogaaDoor
