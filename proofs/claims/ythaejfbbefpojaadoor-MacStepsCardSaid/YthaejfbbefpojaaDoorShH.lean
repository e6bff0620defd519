/-
  Contract of sha.Hex: two digits for each byte. Condition: at most 100000 bytes.
-/
import Derived.Test.YthaejfbbefpojaaDoorRepA
import Derived.Test.YthaejfbbefpojaaDoorShB
namespace Go.Proofs.YthaejfbbefpojaaDoor
open Go.RowKit

def digitsBA : ByteArray := ⟨#[48, 49, 50, 51, 52, 53, 54, 55, 56, 57, 97, 98, 99, 100, 101, 102]⟩
theorem digit_get (n : Nat) (h : n < digitsBA.size) : digitsBA[n] = Sh.digit n := by
  have e : ∀ j : Fin 16, digitsBA[j.val]? = some (Sh.digit j.val) := by decide
  exact Option.some.inj ((ByteArray.getElem?_lt' digitsBA n h).symm.trans (e ⟨n, h⟩))
theorem hex_take (s : List UInt8) (k : Nat) (h : k < s.length) : Sh.hex (s.take (k + 1)) = Sh.hex (s.take k) ++ [Sh.digit (s[k].toNat / 16)] ++ [Sh.digit (s[k].toNat % 16)] := by
  rw [take_more s k h]
  unfold Sh.hex
  rw [List.flatMap_append, List.append_assoc]
  rfl

set_option maxHeartbeats 2000000 in
theorem bld_wbyte (B b : Nat) (l : List UInt8) (x : UInt8) (w : World) (h : Bld B b l w) (hlen : l.length ≤ 100000000) (hBw : B ≤ w.heap.size) :
    Calls Tryd.prog 39 #[.pointer (some ⟨b, 0, none⟩), .int .u8 (x.toNat : Int)] w fun e w' => e = .returned .nilIface ∧ Bld B b (l ++ [x]) w' ∧ Below B w w' := by
  obtain ⟨i0, hi, hz0, hz1, hz2⟩ := info_u8
  go_enter Tryd.func39, Tryd.ntmps39
  go_wp2_with (go_at_call 53; refine (bld_check B b _ _ h).mono ?_)
  rintro e w1 ⟨rfl, h1, hb1⟩
  obtain ⟨hB, v, hbk, hown, hne⟩ := h1
  have c0 : w1.cell? ⟨b, 0, none⟩ = some (.pointer (some ⟨b, 0, none⟩)) := by rw [Lib.cell_of_heap hbk]; rfl
  have c1 : w1.cell? ⟨b, 1, none⟩ = some v := by rw [Lib.cell_of_heap hbk]; rfl
  have hlt : b < w1.heap.size := by
    rcases Nat.lt_or_ge b w1.heap.size with h' | h'
    · exact h'
    · simp [Array.getElem?_eq_none h'] at hbk
  go_wp2_with (at_builtin; refine wpList_append_own _ rfl _ _ 27 rfl B 5 i0 (.int .u8 0) 1 1 Tryd.underlying27 hi hz0 hz1 hz2 rfl (by decide) _ _ _ rfl (hown.alloc _) ⟨w1.heap.size, 0, none⟩ 1 1 (cb [x]) rfl rfl ?c1 ?c2 ?c3 ?c4 ?c5 ?_)
  case c1 =>
    intro j u hj
    match j, hj with
    | 0, hj => simp [cb] at hj; subst hj; simp [Addr.add]
  case c2 => exact cb_one _
  case c3 => unfold maxLen; rw [Lib.byteCells_length]; omega
  case c4 => rw [Lib.byteCells_length]; omega
  case c5 => have := hb1.size; simp; omega
  intro v' w2 hown' hgrow _
  have hb2 : w2.heap[b]? = some (.cells #[.pointer (some ⟨b, 0, none⟩), v] 71 (0, 0)) := by
    rw [hgrow.block b (by simp; omega) (fun e => hne e.symm), Below.heap_alloc _ _ _ hlt]
    exact hbk
  have d0 : w2.cell? ⟨b, 0, none⟩ = some (.pointer (some ⟨b, 0, none⟩)) := by rw [Lib.cell_of_heap hb2]; rfl
  have d1 : w2.cell? ⟨b, 1, none⟩ = some v := by rw [Lib.cell_of_heap hb2]; rfl
  have f1 : w2.frozen? ⟨b, 1, none⟩ = false := Lib.frozen_of_heap hb2 1
  obtain ⟨ao, n', cap, rfl⟩ : ∃ ao n' cap, v' = .slice ao n' cap := by
    rcases hown'.2 with ⟨hv, _⟩ | ⟨g, cap, cur, hv, _⟩
    · exact ⟨_, _, _, hv⟩
    · exact ⟨_, _, _, hv⟩
  go_wp2
  go_ret
  refine ⟨rfl, .inr ?_, ?_⟩
  · refine Lib.BuilderAt.put (T := 71) (e := 5) hB hb2 (bs' := Lib.byteCells (l ++ [x])) ?_ (by decide)
    have e1 : Lib.byteCells (l ++ [x]) = Lib.byteCells l ++ cb [x] := by rw [Lib.byteCells_append]; rfl
    rw [e1, List.length_append]
    exact hown'
  · exact ((hb1.alloc (by have := hb1.size; omega) _).grown hgrow (by have := hb1.size; simp; omega) (fun k hk => (hown.lt k hk).1)).setCell (p := ⟨b, 1, none⟩) hB _

set_option maxHeartbeats 1000000 in
theorem bld_Grow0 (B b : Nat) (w : World) (hB : B ≤ b) (hbk : w.heap[b]? = some (.cells #[.pointer none, .slice none 0 0] 71 (0, 0))) :
    Calls Tryd.prog 38 #[.pointer (some ⟨b, 0, none⟩), .int .i64 0] w fun e w' => e = .returned (.tuple #[]) ∧ Bld B b [] w' ∧ Below B w w' := by
  have hck := (bld_fresh b w (by rw [Lib.cell_of_heap hbk]; rfl) (by simp [World.shape?, hbk]) (Lib.frozen_of_heap hbk 0))
  have hbk1 : (w.setCell ⟨b, 0, none⟩ (.pointer (some ⟨b, 0, none⟩))).heap[b]? = some (.cells #[.pointer (some ⟨b, 0, none⟩), .slice none 0 0] 71 (0, 0)) := by
    simp [World.setCell, Array.getElem?_modify, hbk]
  have d0 : (w.setCell ⟨b, 0, none⟩ (.pointer (some ⟨b, 0, none⟩))).cell? ⟨b, 0, none⟩ = some (.pointer (some ⟨b, 0, none⟩)) := by rw [Lib.cell_of_heap hbk1]; rfl
  have d1 : (w.setCell ⟨b, 0, none⟩ (.pointer (some ⟨b, 0, none⟩))).cell? ⟨b, 1, none⟩ = some (.slice none 0 0) := by rw [Lib.cell_of_heap hbk1]; rfl
  have hb2 := Lib.hid ((Below.refl B w).setCell (p := ⟨b, 0, none⟩) hB (.pointer (some ⟨b, 0, none⟩)))
  go_enter Tryd.func38, Tryd.ntmps38
  go_wp2_with fail
  refine hck.mono ?_
  rintro e w1 ⟨rfl, rfl⟩
  generalize w.setCell ⟨b, 0, none⟩ (.pointer (some ⟨b, 0, none⟩)) = w1 at d0 d1 hbk1 hb2 ⊢
  have hbk2 := Lib.hid hbk1
  go_wp2_with fail
  go_region
  go_wp2_with fail
  go_end0
  exact ⟨rfl, .inr ⟨hB, .slice none 0 0, hbk2.out, World.ownsRow_nil _ _ _ _, by simp [Value.ownBlock]⟩, hb2.out.drew⟩

set_option maxRecDepth 100000 in
set_option maxHeartbeats 4000000 in
theorem hex_any (s : ByteArray) (hs : s.size ≤ 100000) (w : World) :
    Calls Tryd.prog 18 #[.string s] w fun e w' => e = .returned (.string (ba (Sh.hex s.data.toList))) ∧ Below w.heap.size w w' := by
  have hG : Hid (Calls Tryd.prog 38 #[.pointer (some ⟨w.heap.size, 0, none⟩), .int .i64 (2 * (s.size : Int))] (w.alloc (.cells #[.pointer none, .slice none 0 0] 71))
      fun e w' => e = .returned (.tuple #[]) ∧ Bld w.heap.size w.heap.size [] w' ∧ Below w.heap.size w w') := by
    refine Lib.hid ?_
    have hbn := heap_alloc_new w (.cells #[.pointer none, .slice none 0 0] 71)
    have hb := (Below.refl w.heap.size w).alloc (Nat.le_refl _) (.cells #[.pointer none, .slice none 0 0] 71)
    by_cases h0 : s.size = 0
    · rw [h0]
      exact (bld_Grow0 w.heap.size w.heap.size _ (Nat.le_refl _) hbn).mono fun e w' h => ⟨h.1, h.2.1, hb.trans h.2.2⟩
    · have := bld_Grow w.heap.size w.heap.size (2 * s.size) _ (Nat.le_refl _) hbn (by simp) (by omega) (by omega)
      rw [show ((2 * s.size : Nat) : Int) = 2 * (s.size : Int) by omega] at this
      exact this.mono fun e w' h => ⟨h.1, .inr h.2.1, hb.trans h.2.2⟩
  go_enter Tryd.func18, Tryd.ntmps18
  go_wp2_with fail
  refine hG.out.mono ?_
  rintro e w1 ⟨rfl, h1, hb1⟩
  have H1 := Lib.hid h1
  have HB1 := Lib.hid hb1
  clear h1 hb1 hG
  go_wp2_with fail
  go_loopw [4, 11] (fun _ i wr => ∃ k : Nat, i = .int .i64 k ∧ k ≤ s.size ∧ Bld w.heap.size w.heap.size (Sh.hex (s.data.toList.take k)) wr ∧ Below w.heap.size w wr) (fun _ i _ => s.size - (intOf i).toNat)
  case atStart => exact ⟨0, rfl, by omega, H1.out, HB1.out⟩
  case round =>
    obtain ⟨k, rfl, hk, hbl, hb⟩ := hrel
    have hsl : s.data.toList.length = s.size := by simp
    by_cases hlt : k < s.size
    · have ht := hex_take s.data.toList k (by omega)
      have hlh : (Sh.hex (s.data.toList.take k)).length ≤ 200000 := by rw [Sh.hex_length, List.length_take]; omega
      have hsx : s.data.toList[k] = s[k] := by simp; rfl
      rw [hsx] at ht
      obtain ⟨x, hx⟩ : ∃ x, s[k] = x := ⟨_, rfl⟩
      rw [hx] at ht
      have hx0 := x.toNat_lt
      have HT := Lib.hid ht
      have HBL := Lib.hid hbl
      have HB := Lib.hid hb
      generalize Sh.hex (s.data.toList.take k) = o at HT HBL hlh
      have da : bits BinOp.and IntKind.u8 (x.toNat : Int) 15 = (x.toNat : Int) % 16 := by
        have h := u8_and_nat x.toNat 15 hx0 (by decide)
        rw [show (15 : Nat) = 2 ^ 4 - 1 from rfl, Nat.and_two_pow_sub_one_eq_mod] at h
        rw [show ((x.toNat : Int) % 16) = ((x.toNat % 2 ^ 4 : Nat) : Int) by omega]
        exact h
      have hki : (k : Int) < (s.size : Int) := by omega
      clear ht hbl hb hsx hsl
      have HW1 : ∀ y : UInt8, y = Sh.digit (x.toNat / 16) → Calls Tryd.prog 39 #[.pointer (some ⟨w.heap.size, 0, none⟩), .int .u8 (y.toNat : Int)] wr fun e w' => e = .returned .nilIface ∧ Bld w.heap.size w.heap.size (o ++ [Sh.digit (x.toNat / 16)]) w' ∧ Below w.heap.size wr w' := by
        rintro y rfl
        exact bld_wbyte _ _ o _ wr HBL.out (by omega) HB.out.size
      have HW1' := Lib.hid HW1
      clear HW1
      go_wp2_with fail
      refine (HW1'.out _ (digit_get (x.toNat / 16) (show _ < 16 by omega))).mono ?_
      rintro e w2 ⟨rfl, h2, b2⟩
      have HB2 := Lib.hid (HB.out.trans b2)
      have HW2 : ∀ y : UInt8, y = Sh.digit (x.toNat % 16) → Calls Tryd.prog 39 #[.pointer (some ⟨w.heap.size, 0, none⟩), .int .u8 (y.toNat : Int)] w2 fun e w' => e = .returned .nilIface ∧ Bld w.heap.size w.heap.size (o ++ [Sh.digit (x.toNat / 16)] ++ [Sh.digit (x.toNat % 16)]) w' ∧ Below w.heap.size w2 w' := by
        rintro y rfl
        exact bld_wbyte _ _ _ _ w2 h2 (by simp; omega) HB2.out.size
      have HW2' := Lib.hid HW2
      clear HW2 h2 b2 HW1'
      go_wp2_with fail
      refine (HW2'.out _ (digit_get (x.toNat % 16) (show _ < 16 by omega))).mono ?_
      rintro e w3 ⟨rfl, h3, b3⟩
      have HB3 := Lib.hid (HB2.out.trans b3)
      have H3 := Lib.hid h3
      clear h3 b3 HW2'
      go_wp2_with fail
      go_roundw
      case rel => exact ⟨k + 1, by go_num, by omega, by rw [HT.out]; exact H3.out, HB3.out⟩
      case measure => simp [intOf]; omega
    · obtain rfl : k = s.size := by omega
      rw [List.take_of_length_le (by omega)] at hbl
      have HS := Lib.hid (bld_string w.heap.size w.heap.size _ wr hbl hb.size)
      have HB := Lib.hid hb
      clear hbl hb
      go_wp2_with fail
      refine HS.out.mono ?_
      rintro e w2 ⟨rfl, b2⟩
      have HB2 := Lib.hid (HB.out.trans b2)
      clear b2 HS
      go_wp2_with fail
      go_ret
      exact ⟨rfl, HB2.out⟩
end Go.Proofs.YthaejfbbefpojaaDoor
