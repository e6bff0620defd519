/-
  Contract of token.Encode: the digits of each five bits. Condition: a text of at most 1000000 bytes.
-/
import Derived.Test.YtcijkfnhjajfbaaDoorTkB
namespace Go.Proofs.YtcijkfnhjajfbaaDoor
open Go.RowKit

/-- One more collection, told by all bits that were collected so far. -/
def At (w : World) (B hb nb sb pb eb g m : Nat) (f : Nat → UInt8) (l : List Bool) : Prop := Regs w B hb nb sb pb eb g m (Tk.left m l) ((Tk.grps m l).map f)
theorem at_more {g m : Nat} {f : Nat → UInt8} (PI : PutIs g (2 ^ m) f) (hm : 1 ≤ m ∧ m ≤ 8) {l : List Bool} {B hb nb sb pb eb : Nat} {w : World} (h : At w B hb nb sb pb eb g m f l) (hl : l.length ≤ 80000000) (v b : Nat) (hv : v < 2 ^ b) (hb8 : b ≤ 8) :
    Calls Tryd.prog 29 #[.int .u64 (v : Int), .int .i64 (b : Int), .pointer (some ⟨hb, 0, none⟩), .pointer (some ⟨nb, 0, none⟩), .pointer (some ⟨sb, 0, none⟩), .pointer (some ⟨pb, 0, none⟩)] w fun e w' =>
      e = .returned (.tuple #[]) ∧ At w' B hb nb sb pb eb g m f (l ++ Tk.bitsN b v) ∧ Got B w w' := by
  have h1 : (Tk.left m l).length ≤ 8 := by
    rw [Tk.left_length]
    have := Nat.mod_lt l.length (show 0 < m by omega)
    omega
  have h2 : ((Tk.grps m l).map f).length ≤ 90000000 := by
    rw [List.length_map, Tk.grps_length]
    have := Nat.div_le_self l.length m
    omega
  refine (collect_any PI hm (Tk.left m l) h1 v b hv hb8 _ w h h2).mono ?_
  rintro e w' ⟨rfl, h3, h4⟩
  refine ⟨rfl, ?_, h4⟩
  unfold At
  rw [Tk.left_append m (by omega), Tk.grps_append m (by omega), List.map_append]
  exact h3
theorem at_start {w : World} {B hb nb sb pb eb g m : Nat} {f : Nat → UInt8} (h : Regs w B hb nb sb pb eb g m [] []) : At w B hb nb sb pb eb g m f [] := by
  unfold At
  simpa [Tk.left, Tk.grps, Tk.grpsTo] using h

set_option maxHeartbeats 4000000 in
set_option maxRecDepth 100000 in
theorem encode_any (s : ByteArray) (hs : s.size ≤ 1000000) (w : World) :
    Calls Tryd.prog 12 #[.string s] w fun e w' => e = .returned (.string (ba (Tk.enc s.data.toList))) ∧ Below w.heap.size w w' := by
  obtain ⟨i0, hi, hz, hsz, hy⟩ := info_u8
  obtain ⟨c, hc⟩ : ∃ c, (8 * s.size + 4) / 5 = c := ⟨_, rfl⟩
  obtain ⟨w1, hmk, hown, hgr⟩ := run_make_own (P := Tryd.prog) w w.heap.size 33 5 i0 (.int .u8 0) 1 Tryd.underlying33 hi hz hsz .i64 .i64 c (by rw [hy]; omega) (by unfold maxLen; omega) (Nat.le_refl _)
  have hb1 : Below w.heap.size w w1 := (Below.refl _ w).grown hgr (Nat.le_refl _) (fun k hk => by cases hk)
  have hbs := hb1.size
  have HC := Lib.hid (fun W => collector_any 24 5 w1.heap.size w.heap.size W)
  have HO : Hid (Out (w1.alloc (.cells #[.slice (some ⟨w.heap.size, 0, none⟩) 0 c] 33)) w.heap.size w1.heap.size []) := Lib.hid ⟨hbs, _, Blk.new w1 _ _, hown.alloc _⟩
  have HB := Lib.hid (hb1.alloc hbs (.cells #[.slice (some ⟨w.heap.size, 0, none⟩) 0 c] 33))
  clear hgr hb1 hown hi hz hsz hy
  go_enter Tryd.func12, Tryd.ntmps12
  have hcw : (8 * (s.size : Int) + 5 - 1) / 5 = (c : Int) := by omega
  obtain ⟨L, hL⟩ : ∃ L, s.data.toList = L := ⟨_, rfl⟩
  have hLl : L.length = s.size := by rw [← hL]; simp
  have HL := Lib.hid hL
  go_wp2_with fail
  generalize hW2 : w1.alloc _ = W2 at HO HB ⊢
  clear hW2 hmk hcw
  refine (HC.out _ HO.out).mono ?_
  rintro e w3 ⟨hb, nb, sb, pb, rfl, hr, hb3⟩
  have HR := Lib.hid (at_start (f := Tk.dig) hr)
  have HG : Hid (Below w.heap.size w w3) := Lib.hid (HB.out.trans ⟨hb3.os, hb3.tape, hb3.output, hb3.size, fun k hk => hb3.block k (Nat.lt_of_lt_of_le hk HB.out.size)⟩)
  clear hr hb3 HC HO HB
  go_wp2_with fail
  go_loopw [5, 18] (fun _ i wr => ∃ k : Nat, i = .int .i64 (k : Int) ∧ k ≤ s.size ∧ At wr w.heap.size hb nb sb pb w1.heap.size 24 5 Tk.dig (Tk.bits (L.take k)) ∧ Below w.heap.size w wr) (fun _ i _ => s.size - (intOf i).toNat)
  case atStart => exact ⟨0, rfl, by omega, HR.out, HG.out⟩
  case round =>
    clear HR HG
    obtain ⟨k, rfl, hk, hA, hB⟩ := hrel
    have HBW := Lib.hid hB
    by_cases hlt : k < s.size
    · have hki : (k : Int) < (s.size : Int) := by omega
      have ht := Tk.bits_take_succ L k (by omega)
      have hsx : L[k]'(by omega) = s[k] := by subst hL; simp; rfl
      rw [hsx] at ht
      obtain ⟨x, hx⟩ : ∃ x, s[k] = x := ⟨_, rfl⟩
      rw [hx] at ht
      have HT := Lib.hid ht
      have HCL := Lib.hid (at_more put_dig (by decide) hA (by rw [Tk.bits_length, List.length_take]; omega) x.toNat 8 x.toNat_lt (by decide))
      have hxw := u64_wrap_nat x.toNat (by have := x.toNat_lt; omega)
      clear hA hB ht hsx
      go_wp2_with fail
      refine HCL.out.mono ?_
      rintro e w4 ⟨rfl, hA2, hg2⟩
      have HA2 := Lib.hid hA2
      have HB2 := Lib.hid (HBW.out.trans hg2.below)
      clear hA2 hg2 HCL
      go_wp2_with fail
      go_roundw
      case rel => exact ⟨k + 1, by go_num, by omega, by rw [HT.out]; exact HA2.out, HB2.out⟩
      case measure => simp [intOf]; omega
    · obtain rfl : k = s.size := by omega
      rw [List.take_of_length_le (by omega)] at hA
      obtain ⟨z, hz⟩ : ∃ z, (5 - 8 * s.size % 5) % 5 = z := ⟨_, rfl⟩
      have hzw : (5 - 8 * (s.size : Int) % 5) % 5 = (z : Int) := by omega
      have HCL := Lib.hid (at_more put_dig (by decide) hA (by rw [Tk.bits_length]; omega) 0 z (Nat.two_pow_pos _) (by omega))
      have HE := Lib.hid (Tk.enc_grps L z (by omega) (by omega))
      clear hA hB
      go_wp2_with fail
      refine HCL.out.mono ?_
      rintro e w4 ⟨rfl, hA2, hg2⟩
      have HB2 := Lib.hid (HBW.out.trans hg2.below)
      obtain ⟨_, v, hv, ho⟩ := hA2.out
      rw [HE.out] at ho
      obtain ⟨A, cc, rfl⟩ := own_form ho
      have hcv := run_own_text ho
      have d0 := hv.cell 0
      simp only [List.getElem?_toArray, List.getElem?_cons_zero] at d0
      clear hA2 hg2 HCL ho hv
      obtain ⟨E, hE⟩ : ∃ E, Tk.enc L = E := ⟨_, rfl⟩
      rw [hE] at hcv d0
      have HEQ := Lib.hid hE
      clear hE HE
      go_wp2_with fail
      go_ret
      exact ⟨by rw [HL.out, HEQ.out]; rfl, HB2.out⟩
end Go.Proofs.YtcijkfnhjajfbaaDoor
