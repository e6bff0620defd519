/-
  Contract of package frame's Next: what is read of any text. Condition: the table of crc holds what its text says.
-/
import Derived.Test.YtggecdgomgmhmaaDoorFrameA
namespace Go.Proofs.YtggecdgomgmhmaaDoor
open Go.RowKit

/-- How a record is told: by its last byte, and by its head. -/
theorem next_tell (L : List UInt8) (N : Nat) (hN : Fr.len L = N) : Fr.next L = if Fr.ok N ∧ N + 8 ≤ L.length ∧ (L.drop (7 + N)).take (N + 8 - (7 + N)) = [0x5a] ∧ (L.drop 0).take (7 - 0) = headL ((L.drop 7).take (7 + N - 7)) then some ((L.drop 7).take (7 + N - 7)) else none := by
  subst hN
  have e0 : 7 + Fr.len L - 7 = Fr.len L := by omega
  have e1 : Fr.len L + 8 - (7 + Fr.len L) = 1 := by omega
  rw [e0, e1, show (7 - 0 : Nat) = 7 from rfl, List.drop_zero]
  show Fr.next L = if Fr.ok (Fr.len L) ∧ Fr.len L + 8 ≤ L.length ∧ (L.drop (7 + Fr.len L)).take 1 = [0x5a] ∧ L.take 7 = headL (Fr.body L) then some (Fr.body L) else none
  have key : Fr.ok (Fr.len L) → Fr.len L + 8 ≤ L.length → (Fr.wrap (Fr.body L) = L.take (Fr.len L + 8) ↔ (L.drop (7 + Fr.len L)).take 1 = [0x5a] ∧ L.take 7 = headL (Fr.body L)) := by
    intro hk hl
    have hb := Fr.body_length hl
    have hsplit : L.take (Fr.len L + 8) = L.take 7 ++ (Fr.body L ++ (L.drop (7 + Fr.len L)).take 1) := by
      unfold Fr.body
      rw [show Fr.len L + 8 = 7 + (Fr.len L + 1) by omega, List.take_add, List.take_add, List.drop_drop]
    rw [Fr.wrap_ok (by rw [hb]; exact hk), hsplit, rec_head]
    constructor
    · intro h
      obtain ⟨h1, h2⟩ := List.append_inj h (by rw [headL_length, List.length_take]; omega)
      exact ⟨(List.append_inj h2 rfl).2.symm, h1.symm⟩
    · rintro ⟨h1, h2⟩
      rw [h1, h2]
  unfold Fr.next
  by_cases hk : Fr.ok (Fr.len L)
  · by_cases hl : Fr.len L + 8 ≤ L.length
    · have := key hk hl
      by_cases hw : Fr.wrap (Fr.body L) = L.take (Fr.len L + 8)
      · rw [if_pos ⟨by omega, hk, hl, hw⟩, if_pos ⟨hk, hl, this.1 hw⟩]
      · rw [if_neg (fun h => hw h.2.2.2), if_neg (fun h => hw (this.2 h.2.2))]
    · rw [if_neg (fun h => hl h.2.2.1), if_neg (fun h => hl h.2.1)]
  · rw [if_neg (fun h => hk h.2.1), if_neg (fun h => hk h.1)]
theorem next_short {L : List UInt8} (h : L.length < 7) : Fr.next L = none := by
  unfold Fr.next
  rw [if_neg]
  rintro ⟨_, h1, h2, _⟩
  unfold Fr.ok at h1
  omega

/-- What Next answers. -/
def nS (L : List UInt8) : ByteArray := ba ((Fr.next L).getD [])
def nN (L : List UInt8) : Int := match Fr.next L with | some t => (t.length : Int) + 8 | none => 0
def nB (L : List UInt8) : Bool := (Fr.next L).isSome
theorem n_none {L : List UInt8} (h : Fr.next L = none) : nS L = ⟨#[]⟩ ∧ nN L = 0 ∧ nB L = false := by
  unfold nS nN nB
  rw [h]
  exact ⟨rfl, rfl, rfl⟩
theorem n_some {L t : List UInt8} (h : Fr.next L = some t) : nS L = ba t ∧ nN L = (t.length : Int) + 8 ∧ nB L = true := by
  unfold nS nN nB
  rw [h]
  exact ⟨rfl, rfl, rfl⟩

theorem or_bytes (x y : Nat) (hx : x < 256) (hy : y < 256) : bits .or .i64 (wrap64 (x : Int)) (wrap64 (wrap64 (y : Int) * 256)) = ((x + 256 * y : Nat) : Int) := by
  have e1 : wrap64 (x : Int) = (x : Int) := by unfold wrap64; omega
  have e2 : wrap64 (y : Int) = (y : Int) := by unfold wrap64; omega
  have e3 : wrap64 ((y : Int) * 256) = ((256 * y : Nat) : Int) := by unfold wrap64; omega
  rw [e1, e2, e3]
  have key : (BitVec.ofInt 64 (x : Int) ||| BitVec.ofInt 64 ((256 * y : Nat) : Int)).toNat = x + 256 * y := by
    have h1 : (BitVec.ofInt 64 (x : Int)).toNat = x := by rw [BitVec.toNat_ofInt]; omega
    have h2 : (BitVec.ofInt 64 ((256 * y : Nat) : Int)).toNat = 256 * y := by rw [BitVec.toNat_ofInt]; omega
    rw [BitVec.toNat_or, h1, h2, Nat.or_comm, Nat.add_comm]
    exact (Nat.two_pow_add_eq_or_of_lt (i := 8) hx y).symm
  show IntKind.i64.wrap ((BitVec.ofInt 64 (x : Int) ||| BitVec.ofInt 64 ((256 * y : Nat) : Int)).toNat : Nat) = _
  rw [key, IntKind.wrap_i64]
  omega

theorem run_part (s : ByteArray) (i j : Int) (a b : Nat) (hi : i = (a : Int)) (hj : j = (b : Int)) (hab : a ≤ b) (hb : b ≤ s.size) (W : World) :
    (Instr.slice 9 (.string s) (some (.int .i64 i)) (some (.int .i64 j)) none).run Tryd.prog W = .ok (.string (s.extract a b)) W := by
  subst hi; subst hj
  rw [run_slice_string W _ s _ _ _ _ Tryd.underlying9 (by omega) (by omega) (by omega)]
  rfl

theorem next_low (s : ByteArray) (w : World) (hs : s.size < 7) :
    Calls Tryd.prog 66 #[.string s] w fun e w' => e = .returned (.tuple #[.string ⟨#[]⟩, .int .i64 0, .bool false]) ∧ w = w' := by
  go_enter Tryd.func66, Tryd.ntmps66
  go_wp2
  go_ret3
  exact ⟨rfl, rfl⟩

set_option maxHeartbeats 2000000 in
theorem next_size (s : ByteArray) (w : World) (hs : 7 ≤ s.size) (hs' : s.size ≤ 40000) (ht : Tab w):
    Calls Tryd.prog 66 #[.string s] w fun e w' => e = .returned (.tuple #[.string (nS s.data.toList), .int .i64 (nN s.data.toList), .bool (nB s.data.toList)]) ∧ Below w.heap.size w w' := by
  obtain ⟨N, hN⟩ : ∃ N, Fr.len s.data.toList = N := ⟨_, rfl⟩
  have HT := Lib.hid (next_tell s.data.toList N hN)
  have hlen : N = s[1].toNat + 256 * s[2].toNat := by
    rw [← hN]
    unfold Fr.len
    rw [List.getD_eq_getElem?_getD, List.getD_eq_getElem?_getD, List.getElem?_eq_getElem (by rw [size_list]; omega), List.getElem?_eq_getElem (by rw [size_list]; omega)]
    rfl
  have hx := s[1].toNat_lt
  have hy := s[2].toNat_lt
  have hN' : N ≤ 65535 := by omega
  have HE : Hid (wrap64 ((7 : Int) + bits .or .i64 (wrap64 (s[1].toNat : Int)) (wrap64 (wrap64 (s[2].toNat : Int) * 256))) = 7 + (N : Int)) := by
    show wrap64 ((7 : Int) + bits .or .i64 (wrap64 (s[1].toNat : Int)) (wrap64 (wrap64 (s[2].toNat : Int) * 256))) = 7 + (N : Int)
    rw [or_bytes _ _ hx hy, ← hlen]
    unfold wrap64
    omega
  have HS : Hid ((7 : Int) + (N : Int) - (7 : Int) = (N : Int)) := by show (7 : Int) + (N : Int) - (7 : Int) = (N : Int); omega
  clear hlen hx hy hN
  go_enter Tryd.func66, Tryd.ntmps66
  go_wp2
  have hi1 : (1 : Int) < (s.size : Int) := by omega
  have hi2 : (2 : Int) < (s.size : Int) := by omega
  go_quiet (fail)
  rw [HE.out]
  obtain ⟨w1, hw1⟩ : ∃ w1, w.drewN nq = w1 := ⟨_, rfl⟩
  have hb1 : Below w.heap.size w w1 := by rw [← hw1]; exact below_drewN (Below.refl _ _) _
  have ht1 : Tab w1 := ht.below hb1 ht.lt
  rw [hw1]
  clear hw1
  by_cases hk : Fr.ok N
  · have hk' : 1 ≤ (N : Int) ∧ (N : Int) ≤ 32768 := ⟨by have := hk.1; omega, by have := hk.2; omega⟩
    have HZ := Lib.hid (sz_ok hk'.1 hk'.2)
    by_cases hl : N + 8 ≤ s.size
    · have hne : ¬ ((N : Int) + 8 = 0) := by omega
      have hgt : ¬ ((s.size : Int) < (N : Int) + 8) := by omega
      have hb0 : ((N : Int) + 8 == 0) = false := by rw [beq_eq_false_iff_ne]; omega
      have hb2 : decide ((s.size : Int) < (N : Int) + 8) = false := by rw [decide_eq_false_iff_not]; omega
      have ha := run_part s (7 + (N : Int)) ((N : Int) + 8) (7 + N) (N + 8) (by omega) (by omega) (by omega) hl
      have hc := run_part s (7 : Int) (7 + (N : Int)) 7 (7 + N) (by omega) (by omega) (by omega) (by omega)
      have E90 : Hid (([90] : List UInt8) = (ba [0x5a]).toList) := by show ([90] : List UInt8) = (ba [0x5a]).toList; rw [ByteArray.toList_eq, ba_list]
      cases hbl : ((s.extract (7 + N) (N + 8)).toList == ([90] : List UInt8)) with
      | false =>
        have hno : Fr.next s.data.toList = none := by
          rw [HT.out, if_neg]
          rintro ⟨_, _, h3, _⟩
          rw [← extract_list] at h3
          rw [E90.out, str_beq, decide_eq_false_iff_not] at hbl
          exact hbl (eq_of_list (by rw [h3, ba_list]))
        obtain ⟨q1, q2, q3⟩ := n_none hno
        clear HT
        go_wp2_with (go_at_call 31; refine (size_any _ _).mono ?_; rintro e w' ⟨rfl, rfl⟩; rw [HS.out, HZ.out])
        go_ret3
        exact ⟨by rw [q1, q2, q3]; rfl, hb1⟩
      | true =>
        obtain ⟨X, hX⟩ : ∃ X, s.extract 7 (7 + N) = X := ⟨_, rfl⟩
        have hXl : X.data.toList = (s.data.toList.drop 7).take (7 + N - 7) := by rw [← hX, extract_list]
        have hXz : X.data.toList.length = N := by rw [← hX, size_list]; simp; omega
        have HX : Hid (X.size ≤ 40000) := by show X.size ≤ 40000; rw [← hX]; simp; omega
        rw [← hXl] at HT
        rw [hX] at hc
        clear hX hXl
        obtain ⟨Hd, hHd⟩ : ∃ Hd, ba (headL X.data.toList) = Hd := ⟨_, rfl⟩
        have hHl : Hd.data.toList = headL X.data.toList := by rw [← hHd, ba_list]
        have HH := Lib.hid (fun W (hW : Tab W) => head_any X W hW HX.out)
        rw [hHd] at HH
        clear hHd
        cases hbh : ((s.extract 0 7).toList == Hd.toList) with
        | false =>
          have hno : Fr.next s.data.toList = none := by
            rw [HT.out, if_neg]
            rintro ⟨_, _, _, h3⟩
            rw [str_beq, decide_eq_false_iff_not] at hbh
            apply hbh
            apply eq_of_list
            rw [hHl, extract_list]
            exact h3
          obtain ⟨q1, q2, q3⟩ := n_none hno
          clear HT hno hHl hXz
          go_wp2_with (go_at_call 31; refine (size_any _ _).mono ?_; rintro e w' ⟨rfl, rfl⟩; rw [HS.out, HZ.out])
          go_region_with (go_at_call 49; refine (HH.out _ (by exact ht1)).mono ?_; rintro e w' ⟨rfl, hb⟩)
          all_goals go_wp2
          all_goals go_ret3
          all_goals exact ⟨by rw [q1, q2, q3]; rfl, hb1.trans ((undrew hb).mono hb1.size)⟩
        | true =>
          have hyes : Fr.next s.data.toList = some X.data.toList := by
            rw [HT.out, if_pos]
            rw [str_beq, decide_eq_true_iff] at hbh
            rw [E90.out, str_beq, decide_eq_true_iff] at hbl
            refine ⟨hk, by rw [size_list]; exact hl, ?_, ?_⟩
            · rw [← extract_list, hbl, ba_list]
            · rw [← extract_list, hbh, hHl]
          obtain ⟨q1, q2, q3⟩ := n_some hyes
          rw [hXz] at q2
          clear HT hyes hXz hHl
          go_wp2_with (go_at_call 31; refine (size_any _ _).mono ?_; rintro e w' ⟨rfl, rfl⟩; rw [HS.out, HZ.out])
          go_region_with (go_at_call 49; refine (HH.out _ (by exact ht1)).mono ?_; rintro e w' ⟨rfl, hb⟩)
          all_goals go_wp2
          all_goals go_ret3
          all_goals exact ⟨by rw [q1, q2, q3, ba_back]; rfl, hb1.trans ((undrew hb).mono hb1.size)⟩
    · have HZ' : Hid (¬ (Fr.next s.data.toList ≠ none)) := by
        show ¬ (Fr.next s.data.toList ≠ none)
        rw [HT.out, if_neg (fun h => hl (by rw [← size_list]; exact h.2.1))]
        simp
      obtain ⟨q1, q2, q3⟩ := n_none (Classical.not_not.1 HZ'.out)
      clear HT HZ'
      have hne : ¬ ((N : Int) + 8 = 0) := by omega
      have hgt : ((s.size : Int) < (N : Int) + 8) := by omega
      go_wp2_with (go_at_call 31; refine (size_any _ _).mono ?_; rintro e w' ⟨rfl, rfl⟩; rw [HS.out, HZ.out])
      go_ret3
      exact ⟨by rw [q1, q2, q3]; rfl, hb1⟩
  · have HZ := Lib.hid (sz_no (n := (N : Int)) (by intro h; exact hk ⟨by omega, by omega⟩))
    rw [if_neg (fun h => hk h.1)] at HT
    obtain ⟨q1, q2, q3⟩ := n_none HT.out
    go_wp2_with (go_at_call 31; refine (size_any _ _).mono ?_; rintro e w' ⟨rfl, rfl⟩; rw [HS.out, HZ.out])
    go_ret3
    exact ⟨by rw [q1, q2, q3]; rfl, hb1⟩
/-- What Next answers, of any text. -/
theorem next_any' (s : ByteArray) (w : World) (hs' : s.size ≤ 40000) (ht : Tab w) :
    Calls Tryd.prog 66 #[.string s] w fun e w' => e = .returned (.tuple #[.string (nS s.data.toList), .int .i64 (nN s.data.toList), .bool (nB s.data.toList)]) ∧ Below w.heap.size w w' := by
  by_cases h : 7 ≤ s.size
  · exact next_size s w h hs' ht
  · refine (next_low s w (by omega)).mono ?_
    rintro e w' ⟨rfl, rfl⟩
    obtain ⟨q1, q2, q3⟩ := n_none (next_short (L := s.data.toList) (by rw [size_list]; omega))
    exact ⟨by rw [q1, q2, q3], Below.refl _ _⟩
end Go.Proofs.YtggecdgomgmhmaaDoor
