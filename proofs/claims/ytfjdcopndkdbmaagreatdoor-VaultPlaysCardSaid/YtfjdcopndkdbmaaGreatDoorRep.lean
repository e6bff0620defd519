/-
  Contract of strings.Repeat at the text of one byte 0: so many bytes 0; and of the calls of strings.Builder that it makes. Condition: at most 2^17 bytes.
  Contract of strings.Repeat at the text of one byte 0: so many bytes 0. Condition: at most 2^17 bytes.
-/
import Derived.Shelf.Strings.BuilderF
import Derived.Shelf.Strings.Builder2
import Derived.Shelf.Bits.Mul64
import Derived.Lib.RepeatB
import Derived.Deep.CutBlock
import Derived.Deep.LoopGhost
import Derived.Deep.DeepCutAuto
import Derived.Test.YtfjdcopndkdbmaaGreatDoorBgr

namespace Go.Proofs.YtfjdcopndkdbmaaGreatDoor
open Go.RowKit Go.Shelf

abbrev BldF (B b : Nat) (l : List UInt8) (w : World) : Prop := Lib.IsBuilderF 162 5 B b (Lib.byteCells l) w
theorem bldF_check (B b : Nat) (bs : List Value) (w : World) (h : Lib.IsBuilderF 162 5 B b bs w) :
    Calls Tryz.prog 130 #[.pointer (some ⟨b, 0, none⟩)] w fun e w' => e = .returned (.tuple #[]) ∧ (Lib.BuilderAtF 162 5 B b (.pointer (some ⟨b, 0, none⟩)) bs w' ∧ Below B w w') := by
  rcases h with h | h
  · refine (bld_fresh b w h.cell0 h.shape h.frozen0).mono ?_
    rintro e w' ⟨rfl, rfl⟩
    exact ⟨rfl, h.used _, (Below.refl B w).setCell (p := ⟨b, 0, none⟩) h.1 _⟩
  · refine (bld_used b w h.cell0).mono ?_
    rintro e w' ⟨rfl, rfl⟩
    exact ⟨rfl, h, Below.refl B _⟩

set_option maxRecDepth 100000 in
set_option maxHeartbeats 2000000 in
theorem bldF_write (B b : Nat) (bs : List Value) (s : ByteArray) (w : World) (h : Lib.IsBuilderF 162 5 B b bs w) (hlen : bs.length + s.size ≤ 1000000000) (hBw : B ≤ w.heap.size) :
    Calls Tryz.prog 120 #[.pointer (some ⟨b, 0, none⟩), .string s] w fun e w' => e = .returned (.tuple #[.int .i64 s.size, .nilIface]) ∧ (Lib.IsBuilderF 162 5 B b (bs ++ Lib.strCells s) w' ∧ Below B w w') := by
  obtain ⟨i0, hi, hz0, hz1, hz2⟩ := info_u8
  go_enter Tryz.func120, Tryz.ntmps120
  go_wp2_with (go_at_call 130; refine (bldF_check B b _ _ h).mono ?_)
  rintro e w1 ⟨rfl, h1, hb1⟩
  obtain ⟨hB, v, hbk, hown, hne⟩ := h1
  have c0 : w1.cell? ⟨b, 0, none⟩ = some (.pointer (some ⟨b, 0, none⟩)) := by rw [Lib.cell_of_heap hbk]; rfl
  have c1 : w1.cell? ⟨b, 1, none⟩ = some v := by rw [Lib.cell_of_heap hbk]; rfl
  go_wp2_with (at_builtin; refine Lib.wpList_append_own_stringF _ rfl _ _ 98 9 rfl B 5 i0 Tryz.underlying98 Tryz.underlying9 hi hz0 hz1 hz2 _ _ _ rfl hown s rfl ?c3 ?c4 ?c5 ?_)
  case c3 => unfold maxLen; omega
  case c4 => omega
  case c5 => have := hb1.size; omega
  intro v' w2 hown' hgrow _
  have hlt : b < w1.heap.size := by
    rcases Nat.lt_or_ge b w1.heap.size with h' | h'
    · exact h'
    · simp [Array.getElem?_eq_none h'] at hbk
  have hb2 : w2.heap[b]? = some (.cells #[.pointer (some ⟨b, 0, none⟩), v] 162 (0, 0)) := by
    rw [hgrow.block b hlt (fun e => hne e.symm)]
    exact hbk
  have d0 : w2.cell? ⟨b, 0, none⟩ = some (.pointer (some ⟨b, 0, none⟩)) := by rw [Lib.cell_of_heap hb2]; rfl
  have d1 : w2.cell? ⟨b, 1, none⟩ = some v := by rw [Lib.cell_of_heap hb2]; rfl
  have f1 : w2.frozen? ⟨b, 1, none⟩ = false := Lib.frozen_of_heap hb2 1
  obtain ⟨ao, n', cap, rfl⟩ : ∃ ao n' cap, v' = .slice ao n' cap := by
    rcases hown'.2 with ⟨hv, _⟩ | ⟨g, cap, cur, fz, hv, _⟩
    · exact ⟨_, _, _, hv⟩
    · exact ⟨_, _, _, hv⟩
  go_wp2
  go_ret2
  refine ⟨rfl, .inr ?_, ?_⟩
  · exact Lib.BuilderAtF.put (T := 162) (e := 5) hB hb2 (bs' := bs ++ Lib.strCells s) (by simpa [Lib.strCells_length] using hown') (by decide)
  · exact (hb1.grown hgrow (by have := hb1.size; omega) (fun k hk => (hown.lt k hk).1)).setCell (p := ⟨b, 1, none⟩) hB _

theorem bldF_len (B b : Nat) (bs : List Value) (w : World) (h : Lib.IsBuilderF 162 5 B b bs w) :
    Calls Tryz.prog 125 #[.pointer (some ⟨b, 0, none⟩)] w fun e w' => e = .returned (.int .i64 bs.length) ∧ w = w' := by
  obtain ⟨p, hB, v, hbk, hown, hne⟩ : ∃ p, Lib.BuilderAtF 162 5 B b p bs w := by
    rcases h with h | h
    · exact ⟨_, h⟩
    · exact ⟨_, h⟩
  obtain ⟨ao, cap, rfl⟩ : ∃ ao cap, v = .slice ao bs.length cap := by
    rcases hown.2 with ⟨hv, h0⟩ | ⟨g, cap, cur, fz, hv, _⟩
    · exact ⟨none, 0, by rw [hv, h0]⟩
    · exact ⟨_, _, hv⟩
  have c1 : w.cell? ⟨b, 1, none⟩ = some (.slice ao bs.length cap) := by rw [Lib.cell_of_heap hbk]; rfl
  go_enter Tryz.func125, Tryz.ntmps125
  go_wp2
  go_ret
  exact ⟨rfl, rfl⟩

end Go.Proofs.YtfjdcopndkdbmaaGreatDoor

namespace Go.Proofs.YtfjdcopndkdbmaaGreatDoor
open Go.RowKit Go.Shelf

def mul_ren : Go.Shelf.Ren := ⟨fun | 212 => 123 | 263 => 133 | 264 => 134 | n => n, fun | 46 => 119 | 51 => 115 | 53 => 111 | 146 => 174 | 148 => 176 | n => n, fun | n => n⟩
theorem mul_lays : Go.Proofs.Lays.n212 Tryz.prog mul_ren := {
  mixed := by kernel_rfl
  f212 := Tryz.func123.trans (congrArg some (by kernel_rfl))
  f263 := Tryz.func133.trans (congrArg some (by kernel_rfl))
  f264 := Tryz.func134.trans (congrArg some (by kernel_rfl))
  t46 := Tryz.underlying119
  a46 := Tryz.isAgg119
  z46 := Tryz.sizeOf119
  v46 := Tryz.zeroValue119
  t51 := Tryz.underlying115
  a51 := Tryz.isAgg115
  z51 := Tryz.sizeOf115
  v51 := Tryz.zeroValue115
  t53 := Tryz.underlying111
  a53 := Tryz.isAgg111
  z53 := Tryz.sizeOf111
  v53 := Tryz.zeroValue111
  t146 := Tryz.underlying174
  a146 := Tryz.isAgg174
  z146 := Tryz.sizeOf174
  v146 := Tryz.zeroValue174
  t148 := Tryz.underlying176
  a148 := Tryz.isAgg176
  z148 := Tryz.sizeOf176
  v148 := Tryz.zeroValue176 }
theorem mul_any (x y : Nat) (h : x * y ≤ 1000000000) (hx : x ≤ 1000000000) (hy : y ≤ 1000000000) (w : World) :
    Calls Tryz.prog 123 #[.int .u64 (x : Int), .int .u64 (y : Int)] w fun e w' => e = .returned (.tuple #[.int .u64 0, .int .u64 ((x * y : Nat) : Int)]) ∧ w = w' := by
  have h0 := Go.Proofs.Any.bits_Mul mul_lays x y (by omega) (by omega) w
  rw [Nat.div_eq_of_lt (by omega : x * y < 18446744073709551616), Nat.mod_eq_of_lt (by omega : x * y < 18446744073709551616)] at h0
  exact h0.mono fun e w' ⟨he, hw⟩ => ⟨he, hw.symm⟩

theorem min3 {P : Program} {w : World} (ts : Array TypeId) (t : TypeId) (a b c m : Nat) (h : m = min a (min b c)) :
    (Builtin.min_ ts t #[.int .i64 (a : Int), .int .i64 (b : Int), .int .i64 (c : Int)]).run P w = .ok (.int .i64 (m : Int)) w := by
  have e : (.int .i64 (m : Int) : Value) = .int .i64 (if (c : Int) < (if (b : Int) < (a : Int) then (b : Int) else (a : Int)) then (c : Int) else (if (b : Int) < (a : Int) then (b : Int) else (a : Int))) := by
    congr 1
    subst h
    repeat' split
    all_goals omega
  rw [e]
  simp [Builtin.min_, Builtin.min2]

/-- So many bytes 0. -/
def zb (n : Nat) : List UInt8 := List.replicate n 0
theorem zb_len (n : Nat) : (zb n).length = n := by simp [zb]
theorem zb_add (a b : Nat) : zb a ++ zb b = zb (a + b) := by simp [zb, List.replicate_append_replicate]
theorem zb_take (n k : Nat) (h : k ≤ n) : (zb n).take k = zb k := by simp [zb, List.take_replicate, Nat.min_eq_left h]
theorem zb_cut (n k : Nat) (h : k ≤ n) : (ba (zb n)).extract 0 k = ba (zb k) := by rw [ext_take, ba_list, zb_take n k h]

theorem cells_zb (a b : Nat) : Lib.byteCells (zb a) ++ Lib.strCells (ba (zb b)) = Lib.byteCells (zb (a + b)) := by
  rw [Lib.strCells_eq, ba_list, ← Lib.byteCells_append, zb_add]

set_option maxRecDepth 1000000 in
set_option maxHeartbeats 2000000 in
theorem repeat_many (n : Nat) (w : World) (h2 : 2 ≤ n) (hn : n ≤ 131072) :
    Calls Tryz.prog 112 #[.string ⟨#[0]⟩, .int .i64 (n : Int)] w fun e w' => e = .returned (.string (ba (zb n))) ∧ Below w.heap.size w w' := by
  have hM := Lib.hid (mul_any 1 n (by omega) (by omega) (by omega) w)
  rw [Nat.one_mul] at hM
  have b0 : Below w.heap.size w (w.alloc (.cells #[.pointer none, .slice none 0 0] 162)) := (Below.refl _ w).alloc (Nat.le_refl _) _
  have hG := Lib.hid (bld_Grow w.heap.size w.heap.size n (w.alloc (.cells #[.pointer none, .slice none 0 0] 162)) (Nat.le_refl _) (heap_alloc_new w _) b0.size (by omega) (by omega))
  have HB0 := Lib.hid b0
  clear b0
  have hn0 : ¬ ((n : Int) = 0) := by omega
  have hn1 : ¬ ((n : Int) = 1) := by omega
  have hn2 : ¬ ((n : Int) < 0) := by omega
  have hn3 : ¬ (9223372036854775807 < (n : Int)) := by omega
  obtain ⟨CM, hCM1, hCM⟩ : ∃ CM : Nat, 1 ≤ CM ∧ ((8192 < (n : Int) ∧ CM = 8192) ∨ (¬ 8192 < (n : Int) ∧ CM = n)) := by
    by_cases h : 8192 < (n : Int)
    · exact ⟨8192, by omega, .inl ⟨h, rfl⟩⟩
    · exact ⟨n, by omega, .inr ⟨h, rfl⟩⟩
  have HZ : Hid ((⟨#[0]⟩ : ByteArray) = ba (zb 1)) := by show _ = _; rfl
  go_enter Tryz.func112, Tryz.ntmps112
  go_upto_if 96 with (go_at_call 123; refine hM.out.mono ?_; rintro e w' ⟨rfl, rfl⟩)
  go_cut [8] (fun s8 wx => w = wx ∧ s8 = .int .i64 (CM : Int))
  case first =>
    rcases hCM with ⟨hb, rfl⟩ | ⟨hb, rfl⟩
    · go_wp2_with fail
      go_meet
      exact ⟨rfl, rfl⟩
    · go_wp2_with fail
      go_meet
      exact ⟨rfl, rfl⟩
  case rest =>
    obtain ⟨rfl, rfl⟩ := hcut
    clear hCM
    go_wp2_with (first
      | (go_at_call 119; refine hG.out.mono ?_; rintro e W1 ⟨rfl, h1, b1⟩; have hW := Lib.hid (bldF_write w.heap.size w.heap.size [] ⟨#[0]⟩ W1 (Lib.IsBuilderF.of (Or.inr h1)) (by decide) (Nat.le_trans HB0.out.size b1.size)); have HB1 := Lib.hid (HB0.out.trans b1); clear h1 b1)
      | (go_at_call 120; refine hW.out.mono ?_; rintro e W2 ⟨rfl, h2', b2⟩))
    have hB2 : BldF w.heap.size w.heap.size (zb 1) W2 := h2'
    have HB2 := Lib.hid (HB1.out.trans b2)
    clear h2' b2 hW hM hG
    go_loopg [] (n - 1) (fun g wx => ∃ q : Nat, 1 ≤ q ∧ q + g = n ∧ BldF w.heap.size w.heap.size (zb q) wx ∧ Below w.heap.size w wx)
    case atStart => exact ⟨1, Nat.le_refl _, by omega, hB2, HB2.out⟩
    case round =>
      obtain ⟨q, hq1, hqg, hB, hbx⟩ := hrel
      have cLen := Lib.hid (bldF_len w.heap.size w.heap.size _ wr hB)
      rw [Lib.byteCells_length, zb_len] at cLen
      have cStr := Lib.hid (Go.Proofs.Any.Builder_String_any_f bld_lays bld_extra w.heap.size w.heap.size (zb q) wr hB hbx.size)
      obtain ⟨S, hS⟩ : ∃ S : ByteArray, (⟨(zb q).toArray⟩ : ByteArray) = S := ⟨_, rfl⟩
      have hSq : S = ba (zb q) := hS.symm
      have hSs : S.size = q := by rw [hSq, ba_size, zb_len]
      rw [hS] at cStr
      have HS := Lib.hid hSq
      have HX := Lib.hid hbx
      clear hS hSq hbx hB HB2 hB2
      cases gk with
      | zero =>
        obtain rfl : q = n := by omega
        go_wp2_with (first
          | (go_at_call 125; refine cLen.out.mono ?_; rintro e w' ⟨rfl, rfl⟩)
          | (go_at_call 121; refine cStr.out.mono ?_; rintro e W3 ⟨rfl, h3, b3⟩))
        go_ret
        exact ⟨by rw [HS.out]; rfl, HX.out.trans b3⟩
      | succ g =>
        obtain ⟨k, hk⟩ : ∃ k, k = min (n - q) (min q CM) := ⟨_, rfl⟩
        have hk1 : 1 ≤ k := by omega
        have hkq : k ≤ q := by omega
        have hkn : q + k ≤ n := by omega
        have hqn : (q : Int) < (n : Int) := by omega
        have hmin : ∀ (ts : Array TypeId) (t : TypeId) (W : World), (Builtin.min_ ts t #[.int .i64 ((n : Int) - (q : Int)), .int .i64 (q : Int), .int .i64 (CM : Int)]).run Tryz.prog W = .ok (.int .i64 (k : Int)) W := fun ts t W => by
          rw [show (n : Int) - (q : Int) = ((n - q : Nat) : Int) by omega]
          exact min3 ts t _ _ _ k hk
        clear hk
        go_wp2_with (first
          | (go_at_call 125; refine cLen.out.mono ?_; rintro e w' ⟨rfl, rfl⟩)
          | (go_at_call 121; refine cStr.out.mono ?_; rintro e W3 ⟨rfl, h3, b3⟩; have hW := Lib.hid (bldF_write w.heap.size w.heap.size _ (S.extract 0 k) W3 h3 (by rw [Lib.byteCells_length, zb_len]; simp; omega) (Nat.le_trans HX.out.size b3.size)))
          | (go_at_call 120; refine hW.out.mono ?_; rintro e W4 ⟨rfl, h4, b4⟩))
        go_roundg (n - (q + k))
        case measure => omega
        case rel =>
          refine ⟨q + k, by omega, by omega, ?_, HX.out.trans (b3.trans b4)⟩
          rw [HS.out, zb_cut q k hkq, cells_zb] at h4
          exact h4
set_option maxRecDepth 1000000 in
theorem repeat_any (n : Nat) (w : World) (hn : n ≤ 131072) :
    Calls Tryz.prog 112 #[.string ⟨#[0]⟩, .int .i64 (n : Int)] w fun e w' => e = .returned (.string (ba (zb n))) ∧ Below w.heap.size w w' := by
  by_cases h0 : n = 0
  · subst h0
    go_enter Tryz.func112, Tryz.ntmps112
    go_wp2
    go_ret
    exact ⟨rfl, Below.refl _ _⟩
  · by_cases h1 : n = 1
    · subst h1
      go_enter Tryz.func112, Tryz.ntmps112
      go_wp2
      go_ret
      exact ⟨rfl, Below.refl _ _⟩
    · exact repeat_many n w (by omega) hn
end Go.Proofs.YtfjdcopndkdbmaaGreatDoor
