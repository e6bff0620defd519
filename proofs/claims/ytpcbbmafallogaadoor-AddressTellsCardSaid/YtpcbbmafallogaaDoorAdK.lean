/-
  Contracts of the document's own isMail, isPhone, Kind. Condition: texts of at most 1000000 bytes.
-/
import Derived.Test.YtpcbbmafallogaaDoorAdI
namespace Go.Proofs.YtpcbbmafallogaaDoor
open Go.RowKit

theorem run_to (C : List UInt8) (n : Nat) (hn : n ≤ C.length) (W : World) : (Instr.slice 9 (.string (ba C)) none (some (.int .i64 (n : Int))) none).run Tryd.prog W = .ok (.string (ba (C.take n))) W := by
  rw [run_slice_string_to_if _ _ _ _ _ Tryd.underlying9, if_pos (by rw [ba_size]; omega)]
  have := ext_take (ba C) n
  rw [ba_list] at this
  rw [← this]
  simp
theorem run_onw (C : List UInt8) (n : Nat) (hn : n ≤ C.length) (W : World) : (Instr.slice 9 (.string (ba C)) (some (.int .i64 (n : Int))) none none).run Tryd.prog W = .ok (.string (ba (C.drop n))) W := by
  rw [run_slice_string_from_if _ _ _ _ _ Tryd.underlying9, if_pos (by rw [ba_size]; omega)]
  have := ext_drop (ba C) n
  rw [ba_list] at this
  rw [← this]
  simp
theorem bef_at {l : List UInt8} {c : UInt8} {k : Nat} (h : ∀ x ∈ l.take k, x ≠ c) (hk : k < l.length) (hx : l[k] = c) : Ad.bef l c = l.take k ∧ Ad.aft l c = l.drop (k + 1) := by
  have hl : l = l.take k ++ c :: l.drop (k + 1) := by
    conv => lhs; rw [← List.take_append_drop k l, List.drop_eq_getElem_cons hk, hx]
  have e : Ad.bef l c = l.take k := by
    unfold Ad.bef
    conv => lhs; rw [hl]
    exact Ad.takeWhile_to _ _ c _ (fun x hx => by simpa using h x hx) (by simp)
  refine ⟨e, ?_⟩
  unfold Ad.aft
  rw [e, List.length_take, Nat.min_eq_left (by omega)]
theorem take_ne_succ {l : List UInt8} {c : UInt8} {k : Nat} (h : ∀ x ∈ l.take k, x ≠ c) (hk : k < l.length) (hx : l[k] ≠ c) : ∀ x ∈ l.take (k + 1), x ≠ c := by
  rw [List.take_succ_eq_append_getElem hk]
  intro x hm
  rcases List.mem_append.1 hm with hm | hm
  · exact h x hm
  · rw [List.mem_singleton.1 hm]; exact hx
theorem none_in {l : List UInt8} {c : UInt8} (h : ∀ x ∈ l, x ≠ c) : l.contains c = false := by
  cases hc : l.contains c with
  | false => rfl
  | true => exact absurd rfl (h c (by simpa using hc))
theorem byte_at (L : List UInt8) (k : Nat) (h : k < L.length) : (ba L)[k]'(by rw [ba_size]; exact h) = L[k] := rfl
set_option maxRecDepth 100000 in
set_option maxHeartbeats 4000000 in
theorem rismail_any (s : ByteArray) (hs : s.size ≤ 1000000) (w : World) :
    Calls Tryd.prog 30 #[.string s] w fun e w' => e = .returned (.bool (Ad.mailOk s.data.toList)) ∧ w' = w := by
  obtain ⟨L, rfl⟩ : ∃ L, s = ba L := ⟨s.data.toList, (ba_back s).symm⟩
  rw [ba_list]
  have hl : L.length = (ba L).size := (ba_size L).symm
  have hm := Ad.mailOk_eq L
  have HNO : Hid (L.contains 64 = false → Ad.mailOk L = false) := Lib.hid (fun h => by rw [hm, Ad.aft_none h, Ad.host_nil, Bool.and_false])
  have HYES := Lib.hid hm
  generalize Ad.mailOk L = R at HNO HYES ⊢
  have HT := Lib.hid (fun n h W => run_to L n h W)
  have HO := Lib.hid (fun n h W => run_onw L n h W)
  obtain ⟨S, hS⟩ : ∃ S, ba L = S := ⟨_, rfl⟩
  rw [hS] at hl hs HT HO ⊢
  have HBY := Lib.hid (fun k (h : k < S.size) (h2 : k < L.length) => (by subst hS; rfl : S[k] = L[k]))
  clear hS hm
  go_enter Tryd.func30, Tryd.ntmps30
  go_wp2_with fail
  go_loopw [3, 4, 5] (fun i _ _ wr => wr = w ∧ ∃ k : Nat, i = .int .i64 (k : Int) ∧ k ≤ S.size ∧ ∀ x ∈ L.take k, x ≠ 64) (fun i _ _ _ => S.size - (intOf i).toNat)
  case atStart => exact ⟨rfl, 0, rfl, by omega, by simp⟩
  case round =>
    obtain ⟨hwr, k, rfl, hk, hall⟩ := hrel
    obtain rfl : w = wr := hwr.symm
    clear hwr
    by_cases hlt : k < S.size
    · have hki : (k : Int) < (S.size : Int) := by omega
      have hkL : k < L.length := by omega
      have hb := HBY.out k hlt hkL
      obtain ⟨x, hx⟩ : ∃ x, S[k] = x := ⟨_, rfl⟩
      rw [hx] at hb
      by_cases h64 : x = 64
      · have g64 : (x.toNat : Int) = 64 := by rw [h64]; rfl
        obtain ⟨e1, e2⟩ := bef_at hall hkL (by rw [← hb, h64])
        have hY := HYES.out
        rw [e1, e2] at hY
        have ht := HT.out k (by omega)
        have ho := HO.out (k + 1) (by omega)
        have hcast : ((k + 1 : Nat) : Int) = (k : Int) + 1 := by omega
        rw [hcast] at ho
        have hz1 : (ba (L.take k)).size ≤ 1000000 := by rw [ba_size, List.length_take]; omega
        have hz2 : (ba (L.drop (k + 1))).size ≤ 1000000 := by rw [ba_size, List.length_drop]; omega
        have HN := Lib.hid (rname_any (ba (L.take k)) hz1 w)
        have HH := Lib.hid (rhost_any (ba (L.drop (k + 1))) hz2 w)
        rw [ba_list] at HN HH
        generalize Ad.name (L.take k) = r1 at HN hY
        generalize Ad.host (L.drop (k + 1)) = r2 at HH hY
        generalize ba (L.take k) = P1 at ht HN
        generalize ba (L.drop (k + 1)) = P2 at ho HH
        have HY2 := Lib.hid hY
        clear hY e1 e2 hb h64 hall hz1 hz2 hcast
        go_wp2_with fail
        refine HN.out.mono ?_
        rintro e w1 ⟨rfl, hw1⟩
        obtain rfl : w = w1 := hw1.symm
        clear hw1
        go_wp2_with fail
        refine HH.out.mono ?_
        rintro e w1 ⟨rfl, hw1⟩
        obtain rfl : w = w1 := hw1.symm
        clear hw1
        cases r1 with
        | false =>
          go_wp2_with fail
          go_ret
          exact ⟨by rw [HY2.out]; simp, rfl⟩
        | true =>
          cases r2 with
          | false =>
            go_wp2_with fail
            go_ret
            exact ⟨by rw [HY2.out]; simp, rfl⟩
          | true =>
            by_cases h40 : S.size ≤ 40
            · have g40 : (S.size : Int) ≤ 40 := by omega
              have hd : decide (L.length ≤ 40) = true := decide_eq_true (by omega)
              go_wp2_with fail
              go_ret
              exact ⟨by rw [HY2.out, hd]; rfl, rfl⟩
            · have g40 : ¬ (S.size : Int) ≤ 40 := by omega
              have hd : decide (L.length ≤ 40) = false := decide_eq_false (by omega)
              have hdi : decide ((S.size : Int) ≤ 40) = false := decide_eq_false g40
              go_wp2_with fail
              go_ret
              exact ⟨by rw [HY2.out, hd]; rfl, rfl⟩
      · have g64 : ¬ (x.toNat : Int) = 64 := fun e => h64 (UInt8.toNat_inj.1 (by simpa using (by omega : x.toNat = 64)))
        have HA := Lib.hid (take_ne_succ hall hkL (by rw [← hb]; exact h64))
        clear hall hb h64
        go_wp2_with fail
        go_roundw
        case rel => exact ⟨trivial, k + 1, by go_num, by omega, HA.out⟩
        case measure => simp [intOf]; omega
    · obtain rfl : k = S.size := by omega
      rw [List.take_of_length_le (by omega)] at hall
      have HX := Lib.hid (HNO.out (none_in hall))
      clear hall
      go_wp2_with fail
      go_ret
      exact ⟨by rw [HX.out]; rfl, rfl⟩

theorem digit_iff (x : UInt8) : Ad.digit x = true ↔ 48 ≤ x.toNat ∧ x.toNat ≤ 57 := by
  unfold Ad.digit
  simp
theorem phone_bad {L : List UInt8} {k : Nat} (hk : 1 ≤ k) (hkL : k < L.length) (h : Ad.digit L[k] = false) : Ad.phoneOk L = false := by
  unfold Ad.phoneOk
  have : (L.drop 1).all Ad.digit = false := by
    rw [List.all_eq_false]
    refine ⟨L[k], ?_, by rw [h]; decide⟩
    have : (L.drop 1)[k - 1]? = some L[k] := by
      rw [List.getElem?_drop, show 1 + (k - 1) = k by omega, List.getElem?_eq_getElem hkL]
    exact List.mem_of_getElem? this
  rw [this, Bool.and_false]
set_option maxRecDepth 100000 in
set_option maxHeartbeats 4000000 in
theorem risphone_any (s : ByteArray) (hs : s.size ≤ 1000000) (w : World) :
    Calls Tryd.prog 32 #[.string s] w fun e w' => e = .returned (.bool (Ad.phoneOk s.data.toList)) ∧ w' = w := by
  obtain ⟨L, rfl⟩ : ∃ L, s = ba L := ⟨s.data.toList, (ba_back s).symm⟩
  rw [ba_list]
  have hl : L.length = (ba L).size := (ba_size L).symm
  have HBAD := Lib.hid (fun k h1 h2 h3 => @phone_bad L k h1 h2 h3)
  have HDEF : Hid (Ad.phoneOk L = (decide (9 ≤ L.length) && decide (L.length ≤ 16) && L.getD 0 0 == 43 && L.getD 1 0 != 48 && (L.drop 1).all Ad.digit)) := Lib.hid rfl
  generalize Ad.phoneOk L = R at HBAD HDEF ⊢
  obtain ⟨S, hS⟩ : ∃ S, ba L = S := ⟨_, rfl⟩
  rw [hS] at hl hs ⊢
  have HBY := Lib.hid (fun k (h : k < S.size) (h2 : k < L.length) => (by subst hS; rfl : S[k] = L[k]))
  clear hS
  by_cases h9 : 9 ≤ S.size
  · have g9 : ¬ (S.size : Int) < 9 := by omega
    by_cases h16 : S.size ≤ 16
    · have g16 : ¬ (S.size : Int) > 16 := by omega
      obtain ⟨x, hx⟩ : ∃ x, S[0] = x := ⟨_, rfl⟩
      obtain ⟨y, hy⟩ : ∃ y, S[1] = y := ⟨_, rfl⟩
      have e0 : L.getD 0 0 = x := by rw [List.getD_eq_getElem?_getD, List.getElem?_eq_getElem (by omega), ← HBY.out 0 (by omega) (by omega), hx]; rfl
      have e1 : L.getD 1 0 = y := by rw [List.getD_eq_getElem?_getD, List.getElem?_eq_getElem (by omega), ← HBY.out 1 (by omega) (by omega), hy]; rfl
      have hD := HDEF.out
      rw [e0, e1, decide_eq_true (by omega), decide_eq_true (by omega)] at hD
      have hx2 := ne_int x 43 43 rfl
      have hy2 := eq_int y 48 48 rfl
      have hxe : (x == 43) = !(x != 43) := by unfold bne; simp
      have hye : (y != 48) = !(y == 48) := rfl
      rw [hxe, hye] at hD
      generalize (x != 43) = b1 at hx2 hD
      generalize (y == 48) = b2 at hy2 hD
      have HD := Lib.hid hD
      clear hD hxe hye e0 e1
      cases b1 with
      | true =>
        go_enter Tryd.func32, Tryd.ntmps32
        go_wp2_with fail
        go_ret
        exact ⟨by rw [HD.out]; rfl, rfl⟩
      | false =>
        cases b2 with
        | true =>
          go_enter Tryd.func32, Tryd.ntmps32
          go_wp2_with fail
          go_ret
          exact ⟨by rw [HD.out]; rfl, rfl⟩
        | false =>
          go_enter Tryd.func32, Tryd.ntmps32
          go_wp2_with fail
          go_loopw [3] (fun i wr => wr = w ∧ ∃ k : Nat, i = .int .i64 (k : Int) ∧ 1 ≤ k ∧ k ≤ S.size ∧ ((L.drop 1).take (k - 1)).all Ad.digit = true) (fun i _ => S.size - (intOf i).toNat)
          case atStart => exact ⟨rfl, 1, rfl, by omega, by omega, rfl⟩
          case round =>
            obtain ⟨hwr, k, rfl, hk1, hk, hall⟩ := hrel
            obtain rfl : w = wr := hwr.symm
            clear hwr
            by_cases hlt : k < S.size
            · have hki : (k : Int) < (S.size : Int) := by omega
              have hkL : k < L.length := by omega
              have hb := HBY.out k hlt hkL
              obtain ⟨z, hz⟩ : ∃ z, S[k] = z := ⟨_, rfl⟩
              rw [hz] at hb
              have hzl := z.toNat_lt
              have HBK := Lib.hid (fun h => HBAD.out k hk1 hkL h)
              rw [← hb] at HBK
              have hk2 : k - 1 < (L.drop 1).length := by rw [List.length_drop]; omega
              have hgz : (L.drop 1)[k - 1]'hk2 = z := by
                rw [List.getElem_drop, hb]
                congr 1
                omega
              have HALL := Lib.hid (all_take_succ Ad.digit (L.drop 1) (k - 1) hk2)
              rw [hgz, show k - 1 + 1 = k by omega, hall] at HALL
              clear hgz hk2 hall hb
              by_cases h48 : 48 ≤ z.toNat
              · have g48 : ¬ (z.toNat : Int) < 48 := by omega
                by_cases h57 : z.toNat ≤ 57
                · have g57 : ¬ (z.toNat : Int) > 57 := by omega
                  have HOK : Hid (((L.drop 1).take (k + 1 - 1)).all Ad.digit = true) := Lib.hid (by rw [show k + 1 - 1 = k by omega, HALL.out, (digit_iff z).2 ⟨h48, h57⟩]; rfl)
                  clear h48 h57
                  go_wp2_with fail
                  go_roundw
                  case rel => exact ⟨trivial, k + 1, by go_num, by omega, by omega, HOK.out⟩
                  case measure => simp [intOf]; omega
                · have g57 : (z.toNat : Int) > 57 := by omega
                  have HX := Lib.hid (HBK.out (by cases hd : Ad.digit z with
                    | false => rfl
                    | true => exact absurd ((digit_iff z).1 hd).2 h57))
                  clear h48 h57
                  go_wp2_with fail
                  go_ret
                  exact ⟨by rw [HX.out]; rfl, rfl⟩
              · have g48 : (z.toNat : Int) < 48 := by omega
                have HX := Lib.hid (HBK.out (by cases hd : Ad.digit z with
                  | false => rfl
                  | true => exact absurd ((digit_iff z).1 hd).1 h48))
                clear h48
                go_wp2_with fail
                go_ret
                exact ⟨by rw [HX.out]; rfl, rfl⟩
            · obtain rfl : k = S.size := by omega
              rw [List.take_of_length_le (by rw [List.length_drop]; omega)] at hall
              have HX := Lib.hid HD.out
              rw [hall] at HX
              clear hall
              go_wp2_with fail
              go_ret
              exact ⟨by rw [HX.out]; rfl, rfl⟩
    · have g16 : (S.size : Int) > 16 := by omega
      have HX := Lib.hid HDEF.out
      rw [decide_eq_false (p := L.length ≤ 16) (by omega)] at HX
      go_enter Tryd.func32, Tryd.ntmps32
      go_wp2_with fail
      go_ret
      exact ⟨by rw [HX.out]; simp, rfl⟩
  · have g9 : (S.size : Int) < 9 := by omega
    have HX := Lib.hid HDEF.out
    rw [decide_eq_false (p := 9 ≤ L.length) (by omega)] at HX
    go_enter Tryd.func32, Tryd.ntmps32
    go_wp2_with fail
    go_ret
    exact ⟨by rw [HX.out]; simp, rfl⟩
theorem rkind_any (s : ByteArray) (hs : s.size ≤ 1000000) (w : World) :
    Calls Tryd.prog 22 #[.string s] w fun e w' => e = .returned (.int .i64 (Ad.kind s.data.toList : Int)) ∧ w' = w := by
  unfold Ad.kind
  have HT := Lib.hid (rismail_any s hs w)
  have HP := Lib.hid (risphone_any s hs w)
  generalize Ad.mailOk s.data.toList = b at HT ⊢
  generalize Ad.phoneOk s.data.toList = b2 at HP ⊢
  go_enter Tryd.func22, Tryd.ntmps22
  go_wp2_with fail
  refine HT.out.mono ?_
  rintro e w1 ⟨rfl, hw1⟩
  obtain rfl : w = w1 := hw1.symm
  clear hw1
  go_wp2_with fail
  refine HP.out.mono ?_
  rintro e w1 ⟨rfl, hw1⟩
  obtain rfl : w = w1 := hw1.symm
  clear hw1
  cases b with
  | false =>
    cases b2 with
    | false =>
      go_wp2_with fail
      go_ret
      exact ⟨rfl, rfl⟩
    | true =>
      go_wp2_with fail
      go_ret
      exact ⟨rfl, rfl⟩
  | true =>
    go_wp2_with fail
    go_ret
    exact ⟨rfl, rfl⟩
end Go.Proofs.YtpcbbmafallogaaDoor
