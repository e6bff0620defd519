/-
  Contracts of sha.size, sha.padding, and of slices.Grow and slices.Concat at texts. Condition: at most 1000 parts, and 100000 bytes.
-/
import Derived.Lib.AppendZerosOnto
import Derived.LoopTactic
import Derived.Test.YthaejfbbefpojaaDoorApp
import Derived.Test.YthaejfbbefpojaaDoorRepB
import Derived.Test.YthaejfbbefpojaaDoorShB
namespace Go.Proofs.YthaejfbbefpojaaDoor
open Go.RowKit

/-- The bytes of all parts. -/
def len (l : List ByteArray) : Nat := (l.map (·.size)).sum
theorem len_take (l : List ByteArray) (i : Nat) (h : i < l.length) : len (l.take (i + 1)) = len (l.take i) + l[i].size := by
  rw [take_more l i h]
  unfold len
  rw [List.map_append, List.sum_append]
  rfl
theorem len_le (l : List ByteArray) (i : Nat) : len (l.take i) ≤ len l := by
  conv => rhs; rw [← List.take_append_drop i l]
  simp only [len, List.map_append, List.sum_append]
  omega
set_option maxHeartbeats 1000000 in
theorem size_any (l : List ByteArray) (hl : l.length ≤ 1000) (hs : len l ≤ 100000) (A : Option Addr) (c : Nat) (w : World) (hA : Lies (fun _ => False) w A (cs l)) :
    Calls Tryd.prog 32 #[.slice A l.length c] w fun e w' => e = .returned (.int .i64 (len l : Int)) ∧ w' = w := by
  go_enter Tryd.func32, Tryd.ntmps32
  go_wp2_with fail
  go_loop [3, 5, 8] (fun n _ i => ∃ k : Nat, i = .int .i64 k ∧ k ≤ l.length ∧ n = .int .i64 (len (l.take k) : Int)) (fun _ _ i => l.length - (intOf i).toNat)
  case atStart => exact ⟨0, rfl, by omega, rfl⟩
  case round =>
    obtain ⟨k, rfl, hk, rfl⟩ := hrel
    by_cases hlt : k < l.length
    · obtain ⟨a, hAa, _, _, ha3⟩ := hA k _ (cs_get l k hlt)
      subst hAa
      have HL := Lib.hid (len_take l k hlt)
      have hb := len_le l (k + 1)
      rw [HL.out] at hb
      generalize len (l.take k) = n at HL hb ⊢
      generalize l[k] = s at ha3 HL hb
      have hb2 : n + s.size ≤ 100000 := by omega
      clear hb
      have hki : (k : Int) < (l.length : Int) := by omega
      have HA := Lib.hid hA
      go_wp2_with fail
      go_round
      case rel => exact ⟨k + 1, by go_num, by omega, by rw [HL.out]; go_num⟩
      case measure => simp [intOf]; omega
    · obtain rfl : k = l.length := by omega
      rw [List.take_length]
      go_wp2_with fail
      go_ret
      exact ⟨rfl, rfl⟩

set_option maxHeartbeats 2000000 in
set_option maxRecDepth 100000 in
theorem grow_nil (n : Nat) (h1 : 1 ≤ n) (h2 : n ≤ 1000000) (w : World) :
    Calls Tryd.prog 47 #[.slice none 0 0, .int .i64 (n : Int)] w fun e w' => ∃ A c, e = .returned (.slice A 0 c) ∧ w'.ownsRow w.heap.size 9 1 (.slice A 0 c) 0 [] ∧ Below w.heap.size w w' := by
  obtain ⟨i0, hi, hz, hs, hb⟩ := info_str
  have hrz := fun ty => Lib.run_append_grow_zeros (P := Tryd.prog) w 30 3 ty 9 i0 _ .i64 .i64 Tryd.underlying30 Tryd.underlying3 hi hz none 0 0 [] (run_firstCells_none w.drew i0.size 0 0 0) n (by omega) (by omega) (by omega) (by omega) (by rw [hb]; omega)
    (by rw [hb]; exact growslice_fits (by omega) (by omega))
  rw [Nat.zero_add] at hrz
  have hge := grownCap_ge w n 0 9
  have hle := grownCap_le_maxLen w n 0 9 (by unfold maxLen; omega)
  have hOwn : (w.drew.alloc (.cells (([] : List Value).toArray ++ Builtin.zeroCells (Value.string ⟨#[]⟩).cells n ++ Builtin.zeroCells (Value.string ⟨#[]⟩).cells (grownCap w n 0 9 - n)) 9)).ownsRow w.heap.size 9 1 (.slice (some ⟨w.heap.size, 0, none⟩) 0 (grownCap w n 0 9)) 0 [] := by
    refine ⟨rfl, .inr ⟨w.heap.size, _, _, rfl, Nat.le_refl _, Blk.new w.drew _ _, by omega, hle, ?_, by simp⟩⟩
    simp [Builtin.zeroCells, Value.cells]
    omega
  have hOwn' := Lib.hid hOwn
  have hBel := Lib.hid (((Below.refl _ w).drew.alloc (Nat.le_refl _) (.cells (([] : List Value).toArray ++ Builtin.zeroCells (Value.string ⟨#[]⟩).cells n ++ Builtin.zeroCells (Value.string ⟨#[]⟩).cells (grownCap w n 0 9 - n)) 9)))
  generalize w.drew.alloc (.cells (([] : List Value).toArray ++ Builtin.zeroCells (Value.string ⟨#[]⟩).cells n ++ Builtin.zeroCells (Value.string ⟨#[]⟩).cells (grownCap w n 0 9 - n)) 9) = w1 at hrz hOwn' hBel
  generalize grownCap w n 0 9 = G at *
  have hG63 : G ≤ 9223372036854775807 := by unfold maxLen at hle; omega
  clear hOwn
  go_enter Tryd.func47, Tryd.ntmps47
  go_wp2_with (at_builtin; refine wpList_append_run rfl _ _ _ _ rfl _ _ _ rfl rfl (hrz _) ?_)
  all_goals (go_ret; exact ⟨_, _, rfl, hOwn'.out, hBel.out⟩)

/-- Of two rows, what so many give. -/
def pre2 (l m : List ByteArray) (k : Nat) : List ByteArray := if k = 0 then [] else if k = 1 then l else l ++ m
set_option maxHeartbeats 4000000 in
theorem concat_two (l m : List ByteArray) (h1 : 1 ≤ l.length + m.length) (h2 : l.length + m.length ≤ 10000) (B c : Nat) (A1 A2 : Option Addr) (c1 c2 : Nat) (w : World)
    (hc0 : w.cell? ⟨B, 0, none⟩ = some (.slice A1 l.length c1)) (hc1 : w.cell? ⟨B, 1, none⟩ = some (.slice A2 m.length c2)) (hB : B < w.heap.size) (hL1 : Lies (fun _ => False) w A1 (cs l)) (hL2 : Lies (fun _ => False) w A2 (cs m)) :
    Calls Tryd.prog 30 #[.slice (some ⟨B, 0, none⟩) 2 c] w fun e w' => ∃ A c', e = .returned (.slice A (l ++ m).length c') ∧ Lies (fun b => b < w.heap.size) w' A (cs (l ++ m)) ∧ Below w.heap.size w w' := by
  have HL1 := Lib.hid hL1
  have HL2 := Lib.hid hL2
  clear hL1 hL2
  go_enter Tryd.func30, Tryd.ntmps30
  go_wp2_with fail
  go_loop [3, 5, 11] (fun s _ i => ∃ k : Nat, i = .int .i64 k ∧ k ≤ 2 ∧ s = .int .i64 ((pre2 l m k).length : Int)) (fun _ _ i => 2 - (intOf i).toNat)
  case atStart => exact ⟨0, rfl, by omega, rfl⟩
  case round =>
    obtain ⟨k, rfl, hk, rfl⟩ := hrel
    rcases (by omega : k = 0 ∨ k = 1 ∨ k = 2) with rfl | rfl | rfl
    · rw [show pre2 l m 0 = [] from rfl]
      go_wp2_with fail
      go_round
      case rel => exact ⟨1, rfl, by omega, rfl⟩
      case measure => decide
    · rw [show pre2 l m 1 = l from rfl]
      go_wp2_with fail
      go_round
      case rel => exact ⟨2, rfl, by omega, by rw [show pre2 l m 2 = l ++ m from rfl, List.length_append]; go_num⟩
      case measure => decide
    · rw [show pre2 l m 2 = l ++ m from rfl, List.length_append]
      have hG := Lib.hid (grow_nil (l.length + m.length) h1 (by omega) w)
      go_wp2_with fail
      refine hG.out.mono ?_
      rintro e w1 ⟨A, cc, rfl, hown, hb⟩
      have hOwn := Lib.hid hown
      have hBel := Lib.hid hb
      clear hown hb
      go_wp2_with fail
      go_loopw [6, 8, 27] (fun v _ i wr => ∃ (k : Nat) (A' : Option Addr) (c' : Nat), i = .int .i64 k ∧ k ≤ 2 ∧ v = .slice A' (pre2 l m k).length c' ∧ wr.ownsRow w.heap.size 9 1 v (pre2 l m k).length (cs (pre2 l m k)) ∧ Below w.heap.size w wr) (fun _ _ i _ => 2 - (intOf i).toNat)
      case atStart => exact ⟨0, A, cc, rfl, by omega, rfl, hOwn.out, hBel.out⟩
      case round =>
        obtain ⟨k, A', c', rfl, hk, rfl, hown, hb2⟩ := hrel
        rcases (by omega : k = 0 ∨ k = 1 ∨ k = 2) with rfl | rfl | rfl
        · rw [show pre2 l m 0 = ([] : List ByteArray) from rfl] at hown ⊢
          have hBel2 := Lib.hid hb2
          obtain ⟨A3, c3, w3, hrun, hown3, hgr⟩ := run_append_texts wr w.heap.size 30 _ ([] : List ByteArray) hown A1 c1 l (HL1.out.below hb2) (by simp; omega) hb2.size
          have hd := (hb2.cell (p := ⟨B, 0, none⟩) hB).trans hc0
          have hOwn3 := Lib.hid hown3
          have hBel3 := Lib.hid (Kept.below hBel2.out (Kept.grown (S := fun b => w.heap.size ≤ b) (Kept.refl _ wr) hgr (fun b hb => .inl (own_base hown hb))) (fun x hx => hx) hb2.size)
          clear hown hb2 hown3 hgr
          go_wp2_with (at_builtin; refine wpList_append_run rfl _ _ _ _ rfl _ _ _ rfl rfl hrun ?_)
          go_roundw
          case rel => exact ⟨1, A3, c3, rfl, by omega, rfl, hOwn3.out, hBel3.out⟩
          case measure => decide
        · rw [show pre2 l m 1 = l from rfl] at hown ⊢
          have hBel2 := Lib.hid hb2
          obtain ⟨A3, c3, w3, hrun, hown3, hgr⟩ := run_append_texts wr w.heap.size 30 _ l hown A2 c2 m (HL2.out.below hb2) (by omega) hb2.size
          have hd := (hb2.cell (p := ⟨B, 1, none⟩) hB).trans hc1
          have hOwn3 := Lib.hid hown3
          have hBel3 := Lib.hid (Kept.below hBel2.out (Kept.grown (S := fun b => w.heap.size ≤ b) (Kept.refl _ wr) hgr (fun b hb => .inl (own_base hown hb))) (fun x hx => hx) hb2.size)
          clear hown hb2 hown3 hgr
          go_wp2_with (at_builtin; refine wpList_append_run rfl _ _ _ _ rfl _ _ _ rfl rfl hrun ?_)
          go_roundw
          case rel => exact ⟨2, A3, c3, rfl, by omega, by rw [show pre2 l m 2 = l ++ m from rfl, List.length_append], by have h := hOwn3.out; rw [List.length_append] at h; rw [show pre2 l m 2 = l ++ m from rfl, List.length_append]; exact h, hBel3.out⟩
          case measure => decide
        · rw [show pre2 l m 2 = l ++ m from rfl] at hown ⊢
          have hR := Lib.hid (Lies.own (S := fun b => b < w.heap.size) hown (fun _ _ h1 h2 => Nat.lt_irrefl _ (Nat.lt_of_lt_of_le h2 h1)))
          have hBel2 := Lib.hid hb2
          clear hown hb2
          go_wp2_with fail
          go_ret
          exact ⟨_, _, rfl, hR.out, hBel2.out⟩

/-- What a text of n bytes is padded by. -/
def pad (n : Nat) : List UInt8 := 0x80 :: (List.replicate (Sh.zeros n) 0 ++ Sh.be8 (8 * n))
theorem be8_out (n : Nat) (h : n ≤ 1000000000) : Sh.out [BitVec.ofNat 32 (n / 4294967296), BitVec.ofNat 32 n] = Sh.be8 n := by
  simp only [Sh.out, List.flatMap_cons, List.flatMap_nil, Sh.out4, Sh.be8, List.append_nil, List.cons_append, List.nil_append, BitVec.toNat_ofNat]
  have e1 : n / 4294967296 % 2 ^ 32 = 0 := by omega
  have e2 : n % 2 ^ 32 = n := by omega
  rw [e1, e2]
  have e3 : n / 72057594037927936 = 0 := by omega
  have e4 : n / 281474976710656 = 0 := by omega
  have e5 : n / 1099511627776 = 0 := by omega
  have e6 : n / 4294967296 = 0 := by omega
  rw [e3, e4, e5, e6]
set_option maxHeartbeats 2000000 in
theorem padding_any (n : Nat) (hn : n ≤ 100000) (w : World) :
    Calls Tryd.prog 31 #[.int .i64 (n : Int)] w fun e w' => e = .returned (.string (ba (pad n))) ∧ Below w.heap.size w w' := by
  have m1 : (119 - (n : Int) % (64 : Int)) % (64 : Int) = ((Sh.zeros n : Nat) : Int) := by unfold Sh.zeros; omega
  have m2 : (119 - (n : Int)) % (64 : Int) = ((Sh.zeros n : Nat) : Int) := by unfold Sh.zeros; omega
  have hz : Sh.zeros n ≤ 64 := by unfold Sh.zeros; omega
  have HZ := Lib.hid hz
  generalize hzz : Sh.zeros n = z at m1 m2 HZ hz
  go_enter Tryd.func31, Tryd.ntmps31
  go_wp2_with fail
  refine (repeat_any z _ (by omega)).mono ?_
  rintro e w1 ⟨rfl, hb1⟩
  have hzs : (ba (zb z)).size = z := by rw [ba_size]; simp [zb]
  have HB1 := Lib.hid hb1
  have e_hi : (n : Int) * 8 / 4294967296 = R (BitVec.ofNat 32 (8 * n / 4294967296)) := by unfold R; rw [BitVec.toNat_ofNat]; omega
  have e_lo : (n : Int) * 8 = R (BitVec.ofNat 32 (8 * n)) := by unfold R; rw [BitVec.toNat_ofNat]; omega
  have E1 := Lib.hid e_hi
  have E2 := Lib.hid e_lo
  have hBE := fun W hA => bigEndian_any [BitVec.ofNat 32 (8 * n / 4294967296), BitVec.ofNat 32 (8 * n)] (by simp) (some ⟨w1.heap.size, 0, none⟩) 2 W hA
  rw [be8_out (8 * n) (by omega)] at hBE
  have HBE := Lib.hid hBE
  clear hb1 e_hi e_lo hBE
  go_wp2_with fail
  rw [E1.out, E2.out]
  refine (HBE.out _ ?hA).mono ?_
  case hA =>
    intro i u hi
    refine ⟨_, rfl, by simp, fun h => h, ?_⟩
    have hadd : (⟨w1.heap.size, 0, none⟩ : Addr).add i = ⟨w1.heap.size, i, none⟩ := by unfold Addr.add; split <;> simp_all
    rw [hadd, (Blk.new w1 _ _).cell]
    simpa [ru] using hi
  rintro e w2 ⟨rfl, hb2⟩
  have hb3 := HB1.out.trans ((Below.alloc (Below.refl w1.heap.size w1) (Nat.le_refl _) _).trans (hb2.mono (by simp)) |>.mono HB1.out.size)
  have HB3 := Lib.hid hb3
  have hbs : (ba (Sh.be8 (8 * n))).size = 8 := by rw [ba_size]; rfl
  clear hb2 hb3 E1 E2 HBE
  go_wp2_with fail
  go_ret
  refine ⟨?_, HB3.out⟩
  show Ending.returned (Value.string (ba [0x80] ++ ba (zb z) ++ ba (Sh.be8 (8 * n)))) = _
  rw [ba_append, ba_append]
  unfold pad
  rw [hzz]
  rfl
end Go.Proofs.YthaejfbbefpojaaDoor
