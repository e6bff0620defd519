/-
  Contract of token.Group: a text in groups. Condition: a text of at most 1000000 bytes.
-/
import Derived.Deep.LoopGhost
import Derived.Test.YtcijkfnhjajfbaaTkF
import Derived.Test.YtcijkfnhjajfbaaBld
namespace Go.Proofs.Ytcijkfnhjajfbaa
open Go.RowKit

set_option maxHeartbeats 2000000 in
theorem bld_wbyte (B b : Nat) (l : List UInt8) (x : UInt8) (w : World) (h : Bld B b l w) (hlen : l.length ≤ 100000000) (hBw : B ≤ w.heap.size) :
    Calls Try.prog 20 #[.pointer (some ⟨b, 0, none⟩), .int .u8 (x.toNat : Int)] w fun e w' => e = .returned .nilIface ∧ Bld B b (l ++ [x]) w' ∧ Below B w w' := by
  obtain ⟨i0, hi, hz0, hz1, hz2⟩ := info_u8
  go_enter Try.func20, Try.ntmps20
  go_wp2_with (go_at_call 23; refine (bld_check B b _ _ h).mono ?_)
  rintro e w1 ⟨rfl, h1, hb1⟩
  obtain ⟨hB, v, hbk, hown, hne⟩ := h1
  have c0 : w1.cell? ⟨b, 0, none⟩ = some (.pointer (some ⟨b, 0, none⟩)) := by rw [Lib.cell_of_heap hbk]; rfl
  have c1 : w1.cell? ⟨b, 1, none⟩ = some v := by rw [Lib.cell_of_heap hbk]; rfl
  have hlt : b < w1.heap.size := by
    rcases Nat.lt_or_ge b w1.heap.size with h' | h'
    · exact h'
    · simp [Array.getElem?_eq_none h'] at hbk
  go_wp2_with (at_builtin; refine wpList_append_own _ rfl _ _ 29 rfl B 5 i0 (.int .u8 0) 1 1 Try.underlying29 hi hz0 hz1 hz2 rfl (by decide) _ _ _ rfl (hown.alloc _) ⟨w1.heap.size, 0, none⟩ 1 1 (cb [x]) rfl rfl ?c1 ?c2 ?c3 ?c4 ?c5 ?_)
  case c1 =>
    intro j u hj
    match j, hj with
    | 0, hj => simp [cb] at hj; subst hj; simp [Addr.add]
  case c2 => exact cb_one _
  case c3 => unfold maxLen; rw [Lib.byteCells_length]; omega
  case c4 => rw [Lib.byteCells_length]; omega
  case c5 => have := hb1.size; simp; omega
  intro v' w2 hown' hgrow _
  have hb2 : w2.heap[b]? = some (.cells #[.pointer (some ⟨b, 0, none⟩), v] 41 (0, 0)) := by
    rw [hgrow.block b (by simp; omega) (fun e => hne e.symm), Below.heap_alloc _ _ _ hlt]
    exact hbk
  have d0 : w2.cell? ⟨b, 0, none⟩ = some (.pointer (some ⟨b, 0, none⟩)) := by rw [Lib.cell_of_heap hb2]; rfl
  have d1 : w2.cell? ⟨b, 1, none⟩ = some v := by rw [Lib.cell_of_heap hb2]; rfl
  have f1 : w2.frozen? ⟨b, 1, none⟩ = false := Lib.frozen_of_heap hb2 1
  obtain ⟨ao, n', cap, rfl⟩ : ∃ ao n' cap, v' = .slice ao n' cap := by
    rcases hown'.2 with ⟨hv, _⟩ | ⟨g, cap, cur, hv, _⟩
    · exact ⟨_, _, _, hv⟩
    · exact ⟨_, _, _, hv⟩
  go_wp2
  go_ret
  refine ⟨rfl, .inr ?_, ?_⟩
  · refine Lib.BuilderAt.put (T := 41) (e := 5) hB hb2 (bs' := Lib.byteCells (l ++ [x])) ?_ (by decide)
    have e1 : Lib.byteCells (l ++ [x]) = Lib.byteCells l ++ cb [x] := by rw [Lib.byteCells_append]; rfl
    rw [e1, List.length_append]
    exact hown'
  · exact ((hb1.alloc (by have := hb1.size; omega) _).grown hgrow (by have := hb1.size; simp; omega) (fun k hk => (hown.lt k hk).1)).setCell (p := ⟨b, 1, none⟩) hB _


theorem gat_in (L : List UInt8) (n k m : Nat) (hm : m < n) : Tk.gat L n (k * (n + 1) + m) = L.getD (n * k + m) 0 := by
  unfold Tk.gat
  have e1 : (k * (n + 1) + m) % (n + 1) = m := by rw [Nat.add_comm, Nat.add_mul_mod_self_right, Nat.mod_eq_of_lt (by omega)]
  have e2 : (k * (n + 1) + m) / (n + 1) = k := by rw [Nat.add_comm, Nat.add_mul_div_right _ _ (by omega), Nat.div_eq_of_lt (by omega), Nat.zero_add]
  rw [e1, if_neg (by omega), e2]
  congr 1
  rw [Nat.mul_add, Nat.mul_one, Nat.mul_comm k n]
  omega
theorem gat_end (L : List UInt8) (n k : Nat) : Tk.gat L n (k * (n + 1) + n) = 45 := by
  unfold Tk.gat
  have e1 : (k * (n + 1) + n) % (n + 1) = n := by rw [Nat.add_comm, Nat.add_mul_mod_self_right, Nat.mod_eq_of_lt (by omega)]
  rw [e1, if_pos rfl]
theorem grp_seg (L : List UInt8) (n k m : Nat) (hm : m ≤ n) (h : n * k + m ≤ L.length) : Tk.grpTo L n (k * (n + 1) + m) = Tk.grpTo L n (k * (n + 1)) ++ (L.drop (n * k)).take m := by
  induction m with
  | zero => simp
  | succ m ih =>
    have hlt : n * k + m < L.length := by omega
    have hd : m < (L.drop (n * k)).length := by rw [List.length_drop]; omega
    rw [show k * (n + 1) + (m + 1) = (k * (n + 1) + m) + 1 from rfl, Tk.grpTo_succ, ih (by omega) (by omega), gat_in L n k m (by omega), List.append_assoc, List.take_succ_eq_append_getElem hd]
    congr 2
    rw [List.getElem_drop, List.getD_eq_getElem?_getD, List.getElem?_eq_getElem hlt]
    rfl
theorem grp_round (L : List UInt8) (n k : Nat) (h : n * k + n ≤ L.length) : Tk.grpTo L n ((k + 1) * (n + 1)) = Tk.grpTo L n (k * (n + 1)) ++ (L.drop (n * k)).take n ++ [45] := by
  rw [show (k + 1) * (n + 1) = (k * (n + 1) + n) + 1 by rw [Nat.add_mul, Nat.one_mul]; omega, Tk.grpTo_succ, grp_seg L n k n (Nat.le_refl _) h, gat_end]
theorem grp_last (L : List UInt8) (n k : Nat) (hn : 1 ≤ n) (h1 : n * k ≤ L.length) (h2 : 0 < k → n * k < L.length) (h3 : L.length ≤ n * k + n) : Tk.grp L n = Tk.grpTo L n (k * (n + 1)) ++ L.drop (n * k) := by
  have hm := grp_seg L n k (L.length - n * k) (by omega) (by omega)
  rw [List.take_of_length_le (by rw [List.length_drop]; omega)] at hm
  rw [← hm]
  unfold Tk.grp
  congr 1
  unfold Tk.glen
  by_cases h0 : L.length = 0
  · rw [if_pos h0]
    rcases Nat.eq_zero_or_pos k with hk | hk
    · subst hk; omega
    · have := h2 hk; omega
  · rw [if_neg h0]
    have hlt : n * k < L.length := by
      rcases Nat.eq_zero_or_pos k with hk | hk
      · subst hk; omega
      · exact h2 hk
    have e : (L.length - 1) / n = k := by
      rw [show L.length - 1 = n * k + (L.length - n * k - 1) by omega, Nat.mul_add_div (by omega), Nat.div_eq_of_lt (by omega), Nat.add_zero]
    rw [e, Nat.mul_add, Nat.mul_one, Nat.mul_comm k n]
    omega

def grpV (l : List UInt8) (n : Int) : List UInt8 := if n < 1 then l else Tk.grp l n.toNat
theorem grpTo_len_le (L : List UInt8) (n k : Nat) (h1 : n * k ≤ L.length) (hn : 1 ≤ n) : (Tk.grpTo L n (k * (n + 1))).length ≤ 2 * L.length := by
  rw [Tk.grpTo_length, Nat.mul_add, Nat.mul_one, Nat.mul_comm k n]
  have : k ≤ n * k := Nat.le_mul_of_pos_left k (by omega)
  omega

set_option maxHeartbeats 4000000 in
set_option maxRecDepth 100000 in
theorem group_any (s : ByteArray) (hs : s.size ≤ 1000000) (z : Int) (hz0 : -9223372036854775808 ≤ z) (hz1 : z ≤ 9223372036854775807) (w : World) :
    Calls Try.prog 15 #[.string s, .int .i64 z] w fun e w' => e = .returned (.string (ba (grpV s.data.toList z))) ∧ Below w.heap.size w w' := by
  obtain ⟨L, hL⟩ : ∃ L, s.data.toList = L := ⟨_, rfl⟩
  have hLl : L.length = s.size := by rw [← hL]; simp
  have HL := Lib.hid hL
  have HSB := Lib.hid (show ba L = s by rw [← hL, ba_back])
  clear hL
  unfold grpV
  by_cases h1 : z < 1
  · rw [if_pos h1]
    go_enter Try.func15, Try.ntmps15
    go_wp2_with fail
    go_ret
    exact ⟨by rw [HL.out, HSB.out]; rfl, Below.refl _ _⟩
  · rw [if_neg h1]
    obtain ⟨n, rfl⟩ : ∃ n : Nat, z = (n : Int) := ⟨z.toNat, by omega⟩
    have hn : 1 ≤ n := by omega
    rw [Int.toNat_natCast]
    have HBld := Lib.hid (bld_new w)
    have HB := Lib.hid ((Below.refl w.heap.size w).alloc (Nat.le_refl _) (.cells #[.pointer none, .slice none 0 0] 41))
    go_enter Try.func15, Try.ntmps15
    go_wp2_with fail
    generalize hW2 : w.alloc _ = W2 at HBld HB ⊢
    clear hW2
    go_loopg [0] L.length (fun g v wr => ∃ k : Nat, g = L.length - n * k ∧ v = .string (ba (L.drop (n * k))) ∧ n * k ≤ L.length ∧ (0 < k → n * k < L.length) ∧ Bld w.heap.size w.heap.size (Tk.grpTo L n (k * (n + 1))) wr ∧ Below w.heap.size w wr)
    case atStart => exact ⟨0, by omega, by rw [Nat.mul_zero, List.drop_zero, HSB.out], by omega, by omega, by simpa [Tk.grpTo] using HBld.out, HB.out⟩
    case round =>
      clear HBld HB
      obtain ⟨k, hgk, rfl, hk1, hk2, hb, hB⟩ := hrel
      have HBW := Lib.hid hB
      have HBLD := Lib.hid hb
      have hgl := grpTo_len_le L n k hk1 hn
      have hRl : (ba (L.drop (n * k))).size = L.length - n * k := by rw [ba_size, List.length_drop]
      have hRd : (ba (L.drop (n * k))).data.toList = L.drop (n * k) := ba_list _
      clear hb hB
      by_cases hgt : n < L.length - n * k
      · have hgi : (n : Int) < ((ba (L.drop (n * k))).size : Int) := by omega
        have hround := grp_round L n k (by omega)
        have hnext : (L.drop (n * k)).drop n = L.drop (n * (k + 1)) := by rw [List.drop_drop, Nat.mul_add, Nat.mul_one]
        have HX1 := Lib.hid (ext_take (ba (L.drop (n * k))) n)
        have HX2 := Lib.hid (ext_drop (ba (L.drop (n * k))) n)
        rw [hRd] at HX1 HX2
        rw [hnext] at HX2
        have HRO := Lib.hid hround
        generalize Tk.grpTo L n (k * (n + 1)) = G at HBLD hgl HRO
        clear hnext hround
        have hR1 : (ba (L.drop (n * k))).size ≤ 1000000 := by omega
        generalize ba (L.drop (n * k)) = R at hgi HX1 HX2 hRl hRd hR1
        have hk3 : n * (k + 1) < L.length := by rw [Nat.mul_add, Nat.mul_one]; omega
        have hgn : L.length - n * (k + 1) < gk := by rw [hgk, Nat.mul_add, Nat.mul_one]; omega
        have HW := Lib.hid (bld_write w.heap.size w.heap.size G (R.extract 0 n) wr HBLD.out (by rw [HX1.out, ba_size, List.length_take]; omega) HBW.out.size)
        have hsl : G.length + (R.extract 0 n).size ≤ 90000000 := by rw [HX1.out, ba_size, List.length_take]; omega
        have HSL := Lib.hid hsl
        clear hRd hRl hsl hgt hgk
        go_wp2_with fail
        refine HW.out.mono ?_
        rintro e w3 ⟨rfl, hb3, hB3⟩
        have HB3 := Lib.hid (HBW.out.trans hB3)
        have hw2 := bld_wbyte w.heap.size w.heap.size _ 45 w3 hb3 (by have := HSL.out; simp at this ⊢; omega) HB3.out.size
        rw [show (((45 : UInt8).toNat : Nat) : Int) = 45 from rfl, HX1.out, ba_list, ← HRO.out] at hw2
        have HW2 := Lib.hid hw2
        clear hb3 hB3 hw2 HW
        go_wp2_with fail
        refine HW2.out.mono ?_
        rintro e w4 ⟨rfl, hb4, hB4⟩
        have HBL4 := Lib.hid hb4
        have HB4 := Lib.hid (HB3.out.trans hB4)
        clear hb4 hB4 HW2
        go_wp2_with fail
        go_roundg (L.length - n * (k + 1))
        case rel => exact ⟨k + 1, rfl, by rw [← HX2.out], by omega, fun _ => hk3, HBL4.out, HB4.out⟩
        case measure => exact hgn
      · have hgi : ¬ ((n : Int) < ((ba (L.drop (n * k))).size : Int)) := by omega
        have hlast := grp_last L n k hn hk1 hk2 (by omega)
        have HW := Lib.hid (bld_write w.heap.size w.heap.size _ (ba (L.drop (n * k))) wr HBLD.out (by omega) HBW.out.size)
        rw [hRd, ← hlast] at HW
        have HLA := Lib.hid hlast
        have hR1 : (ba (L.drop (n * k))).size ≤ 1000000 := by omega
        generalize ba (L.drop (n * k)) = R at hgi HW hR1
        clear hRd hRl hlast
        go_wp2_with fail
        refine HW.out.mono ?_
        rintro e w3 ⟨rfl, hb3, hB3⟩
        have HB3 := Lib.hid (HBW.out.trans hB3)
        have HS := Lib.hid (bld_string w.heap.size w.heap.size _ w3 hb3 HB3.out.size)
        clear hb3 hB3
        go_wp2_with fail
        refine HS.out.mono ?_
        rintro e w4 ⟨rfl, hB4⟩
        have HB4 := Lib.hid (HB3.out.trans hB4)
        clear hB4
        go_wp2_with fail
        go_ret
        exact ⟨by rw [HL.out]; rfl, HB4.out⟩
end Go.Proofs.Ytcijkfnhjajfbaa
