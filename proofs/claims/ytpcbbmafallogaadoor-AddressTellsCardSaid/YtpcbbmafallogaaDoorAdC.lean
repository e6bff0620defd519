/-
  Contracts of address.isName, isPhone, isHost. Condition: texts of at most 1000000 bytes; one variable of the library's holds some number.
-/
import Derived.Test.YtpcbbmafallogaaDoorAdA
namespace Go.Proofs.YtpcbbmafallogaaDoor
open Go.RowKit

def abc : ByteArray := ⟨#[97, 98, 99, 100, 101, 102, 103, 104, 105, 106, 107, 108, 109, 110, 111, 112, 113, 114, 115, 116, 117, 118, 119, 120, 121, 122]⟩
def ten : ByteArray := ⟨#[48, 49, 50, 51, 52, 53, 54, 55, 56, 57]⟩
theorem data_getD (s : ByteArray) (i : Nat) (h : i < s.size) : s.data.toList.getD i 0 = s[i] := by
  rw [List.getD_eq_getElem?_getD, Lib.data_getElem? s i h]
  rfl
theorem nil_of_size {s : ByteArray} (h : s.size = 0) : s = ⟨#[]⟩ := by
  have e : s.data.toList = [] := List.eq_nil_of_length_eq_zero (by simpa using h)
  rw [← ba_back s, e]
  rfl
theorem not_empty {s : ByteArray} (h : ¬ s.size = 0) : ¬ (s.toList = []) ∧ s.toList.isEmpty = false := by
  have h1 : ¬ (s.toList = []) := by
    rw [ByteArray.toList_eq]
    intro e
    have := congrArg List.length e
    simp at this
    exact h (by rw [this]; rfl)
  refine ⟨h1, ?_⟩
  cases hl : s.toList with
  | nil => exact absurd hl h1
  | cons a l => rfl
theorem ne_int (x y : UInt8) (n : Int) (h : n = (y.toNat : Int)) : ((x.toNat : Int) != n) = (x != y) := by
  subst h
  rw [Bool.eq_iff_iff, bne_iff_ne, bne_iff_ne]
  constructor
  · intro h1 h2
    exact h1 (by rw [h2])
  · intro h1 h2
    exact h1 (UInt8.toNat_inj.1 (by omega))
theorem eq_int (x y : UInt8) (n : Int) (h : n = (y.toNat : Int)) : ((x.toNat : Int) == n) = (x == y) := by
  have := ne_int x y n h
  unfold bne at this
  simpa using this
/-- oneOf at letters, digits and another text, from a slice that the caller lays. -/
theorem one_name (w : World) :
    Calls Tryd.prog 46 #[.slice (some ⟨w.heap.size, 0, none⟩) 3 3] (w.alloc (.cells #[.string abc, .string ten, .string ⟨#[95, 45, 46]⟩] 9)) fun e w' => ∃ b S, e = .returned (isIn b) ∧ w'.cell? ⟨b, 0, none⟩ = some (.string S) ∧ (∀ c, S.data.toList.contains c = Ad.nameByte c) ∧ Below w.heap.size w w' := by
  refine (oneof3 abc ten ⟨#[95, 45, 46]⟩ w.heap.size _ (Blk.new w _ _) (by decide) (by decide)).mono ?_
  rintro e w' ⟨b, rfl, hc, hb⟩
  exact ⟨b, _, rfl, hc, fun c => (Ad.set_facts c).1, ((Below.refl _ w).alloc (Nat.le_refl _) _).trans (hb.mono (by simp))⟩
theorem one_host (w : World) :
    Calls Tryd.prog 46 #[.slice (some ⟨w.heap.size, 0, none⟩) 3 3] (w.alloc (.cells #[.string abc, .string ten, .string ⟨#[45]⟩] 9)) fun e w' => ∃ b S, e = .returned (isIn b) ∧ w'.cell? ⟨b, 0, none⟩ = some (.string S) ∧ (∀ c, S.data.toList.contains c = Ad.hostByte c) ∧ Below w.heap.size w w' := by
  refine (oneof3 abc ten ⟨#[45]⟩ w.heap.size _ (Blk.new w _ _) (by decide) (by decide)).mono ?_
  rintro e w' ⟨b, rfl, hc, hb⟩
  exact ⟨b, _, rfl, hc, fun c => (Ad.set_facts c).2.1, ((Below.refl _ w).alloc (Nat.le_refl _) _).trans (hb.mono (by simp))⟩
theorem one_digit (w : World) :
    Calls Tryd.prog 46 #[.slice (some ⟨w.heap.size, 0, none⟩) 1 1] (w.alloc (.cells #[.string ten] 9)) fun e w' => ∃ b S, e = .returned (isIn b) ∧ w'.cell? ⟨b, 0, none⟩ = some (.string S) ∧ (∀ c, S.data.toList.contains c = Ad.digit c) ∧ Below w.heap.size w w' := by
  refine (oneof1 ten w.heap.size _ ((Blk.new w _ _).cell 0)).mono ?_
  rintro e w' ⟨b, rfl, hc, hb⟩
  exact ⟨b, _, rfl, hc, fun c => (Ad.set_facts c).2.2.1, ((Below.refl _ w).alloc (Nat.le_refl _) _).trans (hb.mono (by simp))⟩

set_option maxHeartbeats 4000000 in
set_option maxRecDepth 100000 in
theorem name_any (s : ByteArray) (hs : s.size ≤ 1000000) (w : World) (hm : MaxIs w) :
    Calls Tryd.prog 42 #[.string s] w fun e w' => e = .returned (.bool (Ad.name s.data.toList)) ∧ Below w.heap.size w w' := by
  by_cases h0 : s.size = 0
  · have hs0 : s = ⟨#[]⟩ := nil_of_size h0
    subst hs0
    have hn : Ad.name [] = false := rfl
    go_enter Tryd.func42, Tryd.ntmps42
    go_wp2_with fail
    go_ret
    exact ⟨rfl, Below.refl _ _⟩
  · have hne : s ≠ ⟨#[]⟩ := by
      rintro rfl
      exact h0 rfl
    have hne2 := not_empty h0
    have hne3 := hne2.1
    have hne4 := hne2.2
    clear hne2 hne
    have hn := Ad.name_cons s.data.toList (by simp; omega)
    have hl : s.data.toList.length = s.size := by simp
    rw [hl] at hn
    obtain ⟨k, hk⟩ : ∃ k, s.size - 1 = k := ⟨_, rfl⟩
    have hki : (s.size : Int) - 1 = (k : Int) := by omega
    have hks : k < s.size := by omega
    rw [hk, data_getD s 0 (by omega), data_getD s k hks] at hn
    obtain ⟨x, hx⟩ : ∃ x, s[0] = x := ⟨_, rfl⟩
    obtain ⟨y, hy⟩ : ∃ y, s[k] = y := ⟨_, rfl⟩
    rw [hx, hy] at hn
    have hx2 := ne_int x 46 46 rfl
    have hy2 := ne_int y 46 46 rfl
    generalize (x != 46) = p1 at hn hx2
    generalize (y != 46) = p2 at hn hy2
    have HO := Lib.hid (one_name w)
    have HH := Lib.hid (fun W (h : MaxIs W) => has_any s W (by omega) h)
    have HC := Lib.hid (fun W b S h1 h2 => consists_any s b S Ad.nameByte W hs h1 h2)
    have HM := Lib.hid hm
    generalize s.data.toList.all Ad.nameByte = r1 at HC hn
    generalize Ad.dd s.data.toList = r2 at HH hn
    rw [hn]
    clear hn hm
    go_enter Tryd.func42, Tryd.ntmps42
    go_wp2_with fail
    refine HO.out.mono ?_
    rintro e w1 ⟨b, S, rfl, hc, hS, hb⟩
    have HB := Lib.hid hb
    have HC1 := Lib.hid (HC.out w1 b S hc hS)
    have HM1 := Lib.hid (HM.out.below hb)
    clear hc hS hb HO HC
    go_wp2_with fail
    refine HC1.out.mono ?_
    rintro e w2 ⟨rfl, rfl⟩
    clear HC1
    cases r1 with
    | false =>
      go_wp2_with fail
      go_ret
      exact ⟨rfl, HB.out⟩
    | true =>
      cases p1 with
      | false =>
        go_wp2_with fail
        go_ret
        exact ⟨rfl, HB.out⟩
      | true =>
        cases p2 with
        | false =>
          go_wp2_with fail
          go_ret
          exact ⟨rfl, HB.out⟩
        | true =>
          go_wp2_with fail
          refine (HH.out _ HM1.out).mono ?_
          rintro e w3 ⟨rfl, rfl⟩
          go_wp2_with fail
          go_ret
          exact ⟨rfl, HB.out⟩

theorem trimp_len (l p : List UInt8) : (Lib.trimPrefix l p).length ≤ l.length := by
  unfold Lib.trimPrefix
  split
  · rw [List.length_drop]; omega
  · omega
set_option maxHeartbeats 4000000 in
set_option maxRecDepth 100000 in
theorem phone_any (s : ByteArray) (hs : s.size ≤ 1000000) (w : World) :
    Calls Tryd.prog 29 #[.string s] w fun e w' => e = .returned (.bool (Ad.phoneOk s.data.toList)) ∧ Below w.heap.size w w' := by
  have hn := Ad.phone_cons s.data.toList
  have HP := Lib.hid (cutp_any s ⟨#[43]⟩ w)
  rw [show (⟨#[43]⟩ : ByteArray).data.toList = [43] from rfl] at HP
  have hle := trimp_len s.data.toList [43]
  rw [show s.data.toList.length = s.size by simp] at hle
  generalize Lib.hasPrefix s.data.toList [43] = r at HP hn
  generalize Lib.trimPrefix s.data.toList [43] = N at HP hn hle
  obtain ⟨T, rfl⟩ : ∃ T : ByteArray, N = T.data.toList := ⟨ba N, (ba_list N).symm⟩
  rw [ba_back] at HP
  have hTz : T.data.toList.length = T.size := by simp
  rw [hTz] at hn hle
  have hT6 : T.size ≤ 1000000 := by omega
  rw [hn]
  clear hn hs hle
  have HO := Lib.hid (fun W => one_digit W)
  have HC := Lib.hid (fun W b S h1 h2 => consists_any T b S Ad.digit W hT6 h1 h2)
  generalize T.data.toList.all Ad.digit = r1 at HC ⊢
  cases r with
  | false =>
    clear HO HC
    go_enter Tryd.func29, Tryd.ntmps29
    go_wp2_with fail
    refine HP.out.mono ?_
    rintro e w1 ⟨rfl, hb⟩
    have HB := Lib.hid hb
    clear hb
    go_wp2_with fail
    go_ret
    exact ⟨by simp, HB.out⟩
  | true =>
    by_cases h8 : 8 ≤ T.size
    · have h8n : ¬ ((T.size : Int) < 8) := by omega
      by_cases h15 : T.size ≤ 15
      · have h15n : ¬ ((15 : Int) < (T.size : Int)) := by omega
        have hx0 : T.data.toList.getD 0 0 = T[0] := data_getD T 0 (by omega)
        obtain ⟨x, hx⟩ : ∃ x, T[0] = x := ⟨_, rfl⟩
        rw [hx0, hx, decide_eq_true h8, decide_eq_true h15]
        have hx2 := ne_int x 48 48 rfl
        generalize (x != 48) = p1 at hx2 ⊢
        clear hx0
        cases p1 with
        | false =>
          clear HO HC
          go_enter Tryd.func29, Tryd.ntmps29
          go_wp2_with fail
          refine HP.out.mono ?_
          rintro e w1 ⟨rfl, hb⟩
          have HB := Lib.hid hb
          clear hb
          go_wp2_with fail
          go_ret
          exact ⟨rfl, HB.out⟩
        | true =>
          go_enter Tryd.func29, Tryd.ntmps29
          go_wp2_with fail
          refine HP.out.mono ?_
          rintro e w1 ⟨rfl, hb⟩
          have HB := Lib.hid hb
          clear hb
          go_wp2_with fail
          refine (HO.out _).mono ?_
          rintro e w2 ⟨b, S, rfl, hc, hS, hb⟩
          have HB2 := Lib.hid (HB.out.trans (hb.mono HB.out.size))
          have HC1 := Lib.hid (HC.out w2 b S hc hS)
          clear hc hS hb HO HC
          go_wp2_with fail
          refine HC1.out.mono ?_
          rintro e w3 ⟨rfl, rfl⟩
          go_wp2_with fail
          go_ret
          exact ⟨by simp, HB2.out⟩
      · have h15n : (15 : Int) < (T.size : Int) := by omega
        rw [decide_eq_false h15]
        clear HO HC
        go_enter Tryd.func29, Tryd.ntmps29
        go_wp2_with fail
        refine HP.out.mono ?_
        rintro e w1 ⟨rfl, hb⟩
        have HB := Lib.hid hb
        clear hb
        go_wp2_with fail
        go_ret
        exact ⟨by simp, HB.out⟩
    · have h8n : (T.size : Int) < 8 := by omega
      rw [decide_eq_false h8]
      clear HO HC
      go_enter Tryd.func29, Tryd.ntmps29
      go_wp2_with fail
      refine HP.out.mono ?_
      rintro e w1 ⟨rfl, hb⟩
      have HB := Lib.hid hb
      clear hb
      go_wp2_with fail
      go_ret
      exact ⟨by simp, HB.out⟩
end Go.Proofs.YtpcbbmafallogaaDoor
