/-
  Contracts of the document's own records (homecomingref04): Size, Wrap, Next, Scan, All, Empty. Condition: the texts have at most 1000 bytes.
-/
import Derived.Handy
import Derived.BigRegion
import Derived.Test.YtgbopohbhnpceaaDoorFrameW
import Derived.Test.YtgbopohbhnpceaaDoorCrcRefA
import Derived.Test.YtgbopohbhnpceaaDoorApp
namespace Go.Proofs.YtgbopohbhnpceaaDoor
open Go.RowKit

theorem refSize_any (n : Int) (w : World) : Calls Tryd.prog 15 #[.int .i64 n] w fun e w' => e = .returned (.int .i64 (sz n)) ∧ w = w' := by
  by_cases h1 : 1 ≤ n
  · by_cases h2 : n ≤ 32768
    · have HS := Lib.hid (sz_ok h1 h2)
      have h3 : ¬ n < 1 := by omega
      have h4 : ¬ 32768 < n := by omega
      go_enter Tryd.func15, Tryd.ntmps15
      go_wp2
      go_ret
      refine ⟨?_, rfl⟩
      rw [HS.out]
      rfl
    · have HS := Lib.hid (sz_no (n := n) (by omega))
      have h3 : ¬ n < 1 := by omega
      have h4 : 32768 < n := by omega
      go_enter Tryd.func15, Tryd.ntmps15
      go_wp2
      go_ret
      refine ⟨?_, rfl⟩
      rw [HS.out]
      rfl
  · have HS := Lib.hid (sz_no (n := n) (by omega))
    have h3 : n < 1 := by omega
    go_enter Tryd.func15, Tryd.ntmps15
    go_wp2
    go_ret
    refine ⟨?_, rfl⟩
    rw [HS.out]
    rfl

theorem run_rest (X Y : ByteArray) (W : World) : (Instr.slice 9 (.string (X ++ Y)) (some (.int .i64 (X.size : Int))) none none).run Tryd.prog W = .ok (.string Y) W := by
  rw [run_from (X ++ Y) (X.size : Int) X.size rfl (by rw [size_append]; omega), list_append, ← size_list X, List.drop_left, ba_back]
theorem run_three (W : World) (g : Nat) (x y z : Int) (a b c : UInt8) (hx : x = (a.toNat : Int)) (hy : y = (b.toNat : Int)) (hz : z = (c.toNat : Int)) (h0 : W.cell? ⟨g, 0, none⟩ = some (.int .u8 x)) (h1 : W.cell? ⟨g, 1, none⟩ = some (.int .u8 y)) (h2 : W.cell? ⟨g, 2, none⟩ = some (.int .u8 z)) :
    (convert 26 9 (.slice (some ⟨g, 0, none⟩) 3 3)).run Tryd.prog W = .ok (.string (ba [a, b, c])) W := by
  subst hx; subst hy; subst hz
  exact run_convert_bytes_back (P := Tryd.prog) W 26 9 5 ⟨g, 0, none⟩ 3 [a, b, c] Tryd.underlying26 Tryd.underlying5 Tryd.underlying9 (by
    intro j hj
    match j, hj with
    | 0, _ => exact h0
    | 1, _ => exact h1
    | 2, _ => exact h2)
theorem wrap_parts (s : ByteArray) (hk : Fr.ok s.data.toList.length) : ba [0xa5, UInt8.ofNat s.data.toList.length, UInt8.ofNat (s.data.toList.length / 256)] ++ sealOf s.data.toList ++ s ++ ba [0x5a] = ba (Fr.wrap s.data.toList) := by
  rw [Fr.wrap_ok hk]
  apply eq_of_list
  rw [list_append, list_append, list_append, ba_list, ba_list, ba_list]
  simp [Fr.rec_, sealOf]

set_option maxHeartbeats 4000000 in
theorem refWrap_any (s : ByteArray) (w : World) (hs : s.size ≤ 1000) :
    Calls Tryd.prog 22 #[.string s] w fun e w' => e = .returned (.string (ba (Fr.wrap s.data.toList))) ∧ Below w.heap.size w w' := by
  by_cases hk : Fr.ok s.data.toList.length
  · have hk' : 1 ≤ s.size ∧ s.size ≤ 32768 := by rw [size_list] at hk; exact hk
    have hsz := sz_ok (n := (s.size : Int)) (by omega) (by omega)
    have HP := Lib.hid (wrap_parts s hk)
    have HSe := Lib.hid (refSeal_any s w hs)
    have hS4 := sealOf_size s.data.toList
    rw [size_list] at HP
    have hr := run_rest s (sealOf s.data.toList)
    have h3 := fun W g => run_three W g 165 ((s.size : Int) % 256) ((s.size : Int) / 256) 0xa5 (UInt8.ofNat s.size) (UInt8.ofNat (s.size / 256)) rfl (by rw [UInt8.toNat_ofNat']; omega) (by rw [UInt8.toNat_ofNat']; omega)
    have h1 := fun W g => run_one W g 90 0x5a rfl
    have hz3 : (ba [0xa5, UInt8.ofNat s.size, UInt8.ofNat (s.size / 256)]).size = 3 := rfl
    have hz1 : (ba [0x5a]).size = 1 := rfl
    generalize ba (Fr.wrap s.data.toList) = Y at HP
    generalize sealOf s.data.toList = E at HP HSe hr hS4
    generalize ba [0xa5, UInt8.ofNat s.size, UInt8.ofNat (s.size / 256)] = B3 at HP h3 hz3
    generalize ba [0x5a] = B1 at HP h1 hz1
    have hq1 : B3.size + E.size ≤ 7 := by omega
    have hq2 : (B3 ++ E).size + s.size ≤ 1007 := by rw [size_append]; omega
    have hq3 : (B3 ++ E ++ s).size + B1.size ≤ 1008 := by rw [size_append, size_append]; omega
    clear hk hs
    go_enter Tryd.func22, Tryd.ntmps22
    go_wp2_with first | (go_at_call 15; refine (refSize_any _ _).mono ?_; rintro e w' ⟨rfl, rfl⟩; rw [hsz]) | (go_at_call 30; refine HSe.out.mono ?_; rintro e w1 ⟨rfl, hb1⟩)
    go_region
    all_goals go_wp2
    all_goals go_ret
    all_goals exact ⟨by rw [← HP.out]; rfl, ((hb1.alloc hb1.size _).alloc (by have := hb1.size; simp; omega) _).drew⟩
  · have hk' : ¬ (1 ≤ (s.size : Int) ∧ (s.size : Int) ≤ 32768) := by
      intro h
      apply hk
      rw [size_list]
      exact ⟨by omega, by omega⟩
    have hsz := sz_no hk'
    go_enter Tryd.func22, Tryd.ntmps22
    go_wp2_with (go_at_call 15; refine (refSize_any _ _).mono ?_; rintro e w' ⟨rfl, rfl⟩; rw [hsz])
    go_ret
    refine ⟨?_, Below.refl _ _⟩
    rw [Fr.wrap_no hk]
    rfl

theorem run_upto (s : ByteArray) (i : Int) (k : Nat) (hi : i = (k : Int)) (hk : k ≤ s.size) (W : World) : (Instr.slice 9 (.string s) none (some (.int .i64 i)) none).run Tryd.prog W = .ok (.string (ba (s.data.toList.take k))) W := by
  subst hi
  rw [run_slice_string_to_if _ _ _ _ _ Tryd.underlying9, if_pos (by omega), ← ext_take]
  simp
/-- What the document's Next answers. -/
def gotV (L : List UInt8) : Value := .agg #[.string (nS L), .int .i64 (nN L)]
theorem gotV_none {L : List UInt8} (h : Fr.next L = none) : gotV L = .agg #[.string ⟨#[]⟩, .int .i64 0] := by
  obtain ⟨q1, q2, _⟩ := n_none h
  unfold gotV
  rw [q1, q2]
theorem gotV_some {L t : List UInt8} (h : Fr.next L = some t) : gotV L = .agg #[.string (ba t), .int .i64 ((t.length : Int) + 8)] := by
  obtain ⟨q1, q2, _⟩ := n_some h
  unfold gotV
  rw [q1, q2]
theorem next_low3 {L : List UInt8} (h : L.length < 3) : Fr.next L = none := by
  unfold Fr.next
  rw [if_neg]
  rintro ⟨h1, _⟩
  omega
theorem Blk.two {w : World} {g : Nat} {t : TypeId} {a b : Value} (h : Blk w g t #[a, b]) (x y : Value) : Blk ((w.setCell ⟨g, 0, none⟩ x).setCell ⟨g, 1, none⟩ y) g t #[x, y] := by
  have := (h.set_ 0 x).set_ 1 y
  simpa using this
theorem got_size : (Tryd.prog.info? 43).map (·.size) = some 2 := by kernel_rfl
set_option maxHeartbeats 2000000 in
theorem refNext_any (s : ByteArray) (w : World) (hs : s.size ≤ 1000) :
    Calls Tryd.prog 23 #[.string s] w fun e w' => e = .returned (gotV s.data.toList) ∧ Below w.heap.size w w' := by
  by_cases h3 : s.size < 3
  · have HG := Lib.hid (gotV_none (next_low3 (L := s.data.toList) (by rw [size_list]; exact h3)))
    go_enter Tryd.func23, Tryd.ntmps23
    go_wp2
    go_returns
    exact ⟨by rw [HG.out], (Below.refl _ w).alloc (Nat.le_refl _) _⟩
  · obtain ⟨N, hN⟩ : ∃ N, Fr.len s.data.toList = N := ⟨_, rfl⟩
    have hlen : N = s[1].toNat + 256 * s[2].toNat := by
      rw [← hN]
      unfold Fr.len
      rw [List.getD_eq_getElem?_getD, List.getD_eq_getElem?_getD, List.getElem?_eq_getElem (by rw [size_list]; omega), List.getElem?_eq_getElem (by rw [size_list]; omega)]
      rfl
    have hx := s[1].toNat_lt
    have hy := s[2].toNat_lt
    have hN' : N ≤ 65535 := by omega
    have HNx : Hid (Fr.next s.data.toList = if 3 ≤ s.data.toList.length ∧ Fr.ok N ∧ N + 8 ≤ s.data.toList.length ∧ Fr.wrap ((s.data.toList.drop 7).take N) = s.data.toList.take (N + 8) then some ((s.data.toList.drop 7).take N) else none) := by
      subst hN
      exact (rfl : Fr.next s.data.toList = _)
    have hi1 : (1 : Int) < (s.size : Int) := by omega
    have hi2 : (2 : Int) < (s.size : Int) := by omega
    have hge : ¬ (s.size : Int) < 3 := by omega
    go_enter Tryd.func23, Tryd.ntmps23
    go_wp2_with fail
    go_quiet (fail)
    have e0 : ((s[1].toNat : Int) + (256 : Int) * (s[2].toNat : Int)) = (N : Int) := by omega
    rw [e0]
    clear e0 hlen hx hy hN
    obtain ⟨w1, hw1⟩ : ∃ w1, (w.alloc (.cells #[.string ⟨#[]⟩, .int .i64 0] 43)).drewN nq = w1 := ⟨_, rfl⟩
    have hb1 : Below w.heap.size w w1 := by rw [← hw1]; exact below_drewN ((Below.refl _ w).alloc (Nat.le_refl _) _) _
    have hk1 : Blk w1 w.heap.size 43 #[.string ⟨#[]⟩, .int .i64 0] := by rw [← hw1]; exact Blk.new w _ _
    rw [hw1]
    clear hw1
    generalize hg : w.heap.size = g at hk1
    by_cases hk : Fr.ok N
    · have hk' : 1 ≤ (N : Int) ∧ (N : Int) ≤ 32768 := ⟨by have := hk.1; omega, by have := hk.2; omega⟩
      have hsz := sz_ok hk'.1 hk'.2
      by_cases hl : N + 8 ≤ s.size
      · have hne : ¬ ((N : Int) + 8 = 0) := by omega
        have hgt : ¬ ((s.size : Int) < (N : Int) + 8) := by omega
        have hb0 : ((N : Int) + 8 == 0) = false := by rw [beq_eq_false_iff_ne]; omega
        have hc := run_part s (7 : Int) (7 + (N : Int)) 7 (7 + N) (by omega) (by omega) (by omega) (by omega)
        have hu := run_upto s ((N : Int) + 8) (N + 8) (by omega) hl
        obtain ⟨X, hX⟩ : ∃ X, s.extract 7 (7 + N) = X := ⟨_, rfl⟩
        have hXl : X.data.toList = (s.data.toList.drop 7).take N := by rw [← hX, extract_list]; congr 1; omega
        have hXz : X.data.toList.length = N := by rw [← hX, size_list]; simp; omega
        have hXs : X.size ≤ 1000 := by rw [← size_list]; omega
        rw [hX] at hc
        rw [← hXl] at HNx
        have HW := Lib.hid (fun W => refWrap_any X W hXs)
        obtain ⟨U, hU⟩ : ∃ U, ba (s.data.toList.take (N + 8)) = U := ⟨_, rfl⟩
        have hUl : U.data.toList = s.data.toList.take (N + 8) := by rw [← hU, ba_list]
        obtain ⟨V, hV⟩ : ∃ V, ba (Fr.wrap X.data.toList) = V := ⟨_, rfl⟩
        have hVl : V.data.toList = Fr.wrap X.data.toList := by rw [← hV, ba_list]
        rw [hU] at hu
        rw [hV] at HW
        rw [← hUl, ← hVl] at HNx
        clear hX hXl hU hUl hV hVl
        cases hv : (V.toList == U.toList) with
        | false =>
          have HG : Hid (gotV s.data.toList = .agg #[.string ⟨#[]⟩, .int .i64 0]) := gotV_none (by
            rw [HNx.out, if_neg]
            rintro ⟨_, _, _, h4⟩
            rw [str_beq, decide_eq_false_iff_not] at hv
            exact hv (eq_of_list h4))
          clear HNx
          go_wp2_with (go_at_call 15; refine (refSize_any _ _).mono ?_; rintro e w' ⟨rfl, rfl⟩; rw [hsz])
          go_region_with (go_at_call 22; refine (HW.out _).mono ?_; rintro e w2 ⟨rfl, hb2⟩)
          all_goals
            have hb2' := undrew hb2
            have hk2 : Blk w2 g 43 #[.string ⟨#[]⟩, .int .i64 0] := hk1.of (hb2'.block g hk1.lt)
            have hd0 := hk2.cell 0
            have hd1 := hk2.cell 1
            have hf0 := hk2.frozen 0
            have hf1 := hk2.frozen 1
            simp only [List.getElem?_toArray, List.getElem?_cons_zero, List.getElem?_cons_succ] at hd0 hd1
            have HB2 := Lib.hid (hb1.trans (hb2'.mono hb1.size))
            have HK2 := Lib.hid hk2
            clear hb2 hb2' hk2
            go_wp2
            refine bodyPost_ret (results_cell_row (P := Tryd.prog) rfl _ _ g 43 _ (0, 0) _ rfl (HK2.out.two _ _) Tryd.underlying43 rfl got_size) rfl ?_
            exact ⟨by rw [HG.out], (HB2.out.setCell (p := ⟨g, 0, none⟩) (by rw [hg]; exact Nat.le_refl _) _).setCell (p := ⟨g, 1, none⟩) (by rw [hg]; exact Nat.le_refl _) _⟩
        | true =>
          have HG : Hid (gotV s.data.toList = .agg #[.string X, .int .i64 ((N : Int) + 8)]) := by
            show gotV s.data.toList = .agg #[.string X, .int .i64 ((N : Int) + 8)]
            have hn : Fr.next s.data.toList = some X.data.toList := by
              rw [HNx.out, if_pos]
              rw [str_beq, decide_eq_true_iff] at hv
              exact ⟨by rw [size_list]; omega, hk, by rw [size_list]; exact hl, by rw [hv]⟩
            rw [gotV_some hn, hXz, ba_back]
          clear HNx
          go_wp2_with (go_at_call 15; refine (refSize_any _ _).mono ?_; rintro e w' ⟨rfl, rfl⟩; rw [hsz])
          go_region_with (go_at_call 22; refine (HW.out _).mono ?_; rintro e w2 ⟨rfl, hb2⟩)
          all_goals
            have hb2' := undrew hb2
            have hk2 : Blk w2 g 43 #[.string ⟨#[]⟩, .int .i64 0] := hk1.of (hb2'.block g hk1.lt)
            have hd0 := hk2.cell 0
            have hd1 := hk2.cell 1
            have hf0 := hk2.frozen 0
            have hf1 := hk2.frozen 1
            simp only [List.getElem?_toArray, List.getElem?_cons_zero, List.getElem?_cons_succ] at hd0 hd1
            have HB2 := Lib.hid (hb1.trans (hb2'.mono hb1.size))
            have HK2 := Lib.hid hk2
            clear hb2 hb2' hk2
            go_wp2
            refine bodyPost_ret (results_cell_row (P := Tryd.prog) rfl _ _ g 43 _ (0, 0) _ rfl (HK2.out.two _ _) Tryd.underlying43 rfl got_size) rfl ?_
            exact ⟨by rw [HG.out], (HB2.out.setCell (p := ⟨g, 0, none⟩) (by rw [hg]; exact Nat.le_refl _) _).setCell (p := ⟨g, 1, none⟩) (by rw [hg]; exact Nat.le_refl _) _⟩
      · have HG : Hid (gotV s.data.toList = .agg #[.string ⟨#[]⟩, .int .i64 0]) := gotV_none (by
          rw [HNx.out, if_neg]
          rintro ⟨_, _, h, _⟩
          rw [size_list] at h
          exact hl h)
        have hne : ¬ ((N : Int) + 8 = 0) := by omega
        have hgt : (s.size : Int) < (N : Int) + 8 := by omega
        have hd0 := hk1.cell 0
        have hd1 := hk1.cell 1
        have hf0 := hk1.frozen 0
        have hf1 := hk1.frozen 1
        simp only [List.getElem?_toArray, List.getElem?_cons_zero, List.getElem?_cons_succ] at hd0 hd1
        have HK2 := Lib.hid hk1
        clear hk1 HNx
        go_wp2_with (go_at_call 15; refine (refSize_any _ _).mono ?_; rintro e w' ⟨rfl, rfl⟩; rw [hsz])
        refine bodyPost_ret (results_cell_row (P := Tryd.prog) rfl _ _ g 43 _ (0, 0) _ rfl (HK2.out.two _ _) Tryd.underlying43 rfl got_size) rfl ?_
        exact ⟨by rw [HG.out], (hb1.setCell (p := ⟨g, 0, none⟩) (by rw [hg]; exact Nat.le_refl _) _).setCell (p := ⟨g, 1, none⟩) (by rw [hg]; exact Nat.le_refl _) _⟩

    · have hsz := sz_no (n := (N : Int)) (by intro h; exact hk ⟨by omega, by omega⟩)
      have HG : Hid (gotV s.data.toList = .agg #[.string ⟨#[]⟩, .int .i64 0]) := gotV_none (by
        rw [HNx.out, if_neg]
        rintro ⟨_, h, _, _⟩
        exact hk h)
      have hd0 := hk1.cell 0
      have hd1 := hk1.cell 1
      have hf0 := hk1.frozen 0
      have hf1 := hk1.frozen 1
      simp only [List.getElem?_toArray, List.getElem?_cons_zero, List.getElem?_cons_succ] at hd0 hd1
      have HK2 := Lib.hid hk1
      clear hk1 HNx
      go_wp2_with (go_at_call 15; refine (refSize_any _ _).mono ?_; rintro e w' ⟨rfl, rfl⟩; rw [hsz])
      refine bodyPost_ret (results_cell_row (P := Tryd.prog) rfl _ _ g 43 _ (0, 0) _ rfl (HK2.out.two _ _) Tryd.underlying43 rfl got_size) rfl ?_
      exact ⟨by rw [HG.out], (hb1.setCell (p := ⟨g, 0, none⟩) (by rw [hg]; exact Nat.le_refl _) _).setCell (p := ⟨g, 1, none⟩) (by rw [hg]; exact Nat.le_refl _) _⟩

end Go.Proofs.YtgbopohbhnpceaaDoor
