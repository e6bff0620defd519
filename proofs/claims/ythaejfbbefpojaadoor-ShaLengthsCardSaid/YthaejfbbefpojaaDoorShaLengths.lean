/-
  Proves the statement of ShaLengths: for every length and every byte the law returns true (texts of one byte over and over are told as the document tells them), and its arguments read as they did. Condition: the package-level tables cubeRoots and squareRoots hold what their texts lay.
-/
import Derived.Test.YthaejfbbefpojaaDoorShort06
import Derived.Test.YthaejfbbefpojaaDoorShR
import Derived.Test.YthaejfbbefpojaaDoorShM
import Derived.Test.YthaejfbbefpojaaDoorByt
import Derived.Test.YthaejfbbefpojaaDoorShS
import Derived.Test.YthaejfbbefpojaaDoorCards
import Derived.Test.YthaejfbbefpojaaDoorTie
namespace Go.Proofs.YthaejfbbefpojaaDoor.shaLengths
open Go.ChangeShapes Go.WideShapes Go.ChangeAt Go.RowKit
open Go.ChangeMaps (open_string shut_string)

/-- What each operation of the last statement leaves. -/
def Vs (t D : ByteArray) (g k : Nat) : Nat → Value → World → Prop
  | 0, v, _ => v = .bool true
  | 1, v, _ => v = .bool true
  | 2, v, _ => v = .slice (some ⟨g, 0, none⟩) k k
  | 3, v, _ => v = .string t
  | 4, v, w => LaidL [t] v w
  | 5, v, _ => v = .string D
  | 6, v, _ => v = .slice (some ⟨g, 0, none⟩) k k
  | 7, v, _ => v = .string t
  | 8, v, _ => v = .string D
  | 9, v, _ => v = .bool true
  | 10, v, _ => v = .bool true
  | 11, v, _ => v = .bool true
  | 12, v, _ => v = .slice (some ⟨g, 0, none⟩) k k
  | 13, v, _ => v = .string t
  | 14, v, w => LaidL [t] v w
  | 15, v, _ => v = .string D
  | 16, v, _ => v = .int .i64 32
  | 17, v, _ => v = .bool true
  | 18, v, _ => v = .bool true
  | 19, v, _ => v = .bool true
  | _, _, _ => True
theorem Vs_below {t D : ByteArray} {g k : Nat} (i : Nat) (v : Value) (w w' : World) (h : Vs t D g k i v w) (hb : Below w.heap.size w w') : Vs t D g k i v w' := by
  match i, h with
  | 0, h => exact h
  | 1, h => exact h
  | 2, h => exact h
  | 3, h => exact h
  | 4, h => exact LaidL.below h hb
  | 5, h => exact h
  | 6, h => exact h
  | 7, h => exact h
  | 8, h => exact h
  | 9, h => exact h
  | 10, h => exact h
  | 11, h => exact h
  | 12, h => exact h
  | 13, h => exact h
  | 14, h => exact LaidL.below h hb
  | 15, h => exact h
  | 16, h => exact h
  | 17, h => exact h
  | 18, h => exact h
  | 19, h => exact h
  | _ + 20, _ => exact trivial
theorem mod_261 (q : Int) : ∃ m : Nat, m ≤ 260 ∧ (wrap64 (q.tmod 261 + 261)).tmod 261 = (m : Int) := by
  have h1 := Int.tmod_lt_of_pos q (show (0 : Int) < 261 by decide)
  have h2 : -261 < q.tmod 261 := by
    have := Int.tmod_lt_of_pos (-q) (show (0 : Int) < 261 by decide)
    rw [Int.neg_tmod] at this
    omega
  generalize q.tmod 261 = t at h1 h2 ⊢
  have h3 : wrap64 (t + 261) = t + 261 := by
    simp only [wrap64]
    omega
  rw [h3]
  have h5 := Int.tmod_lt_of_pos (t + 261) (show (0 : Int) < 261 by decide)
  have h4 : 0 ≤ (t + 261).tmod 261 := Int.tmod_nonneg _ (by omega)
  exact ⟨((t + 261).tmod 261).toNat, by omega, by omega⟩
theorem u8_info : (Tryd.prog.info? 5).map (fun i => (i.zero, i.size, i.bytes)) = some (some (.int .u8 0), 1, 1) := by kernel_rfl
theorem zeros_made (n : Nat) : madeCells (Value.int .u8 0).cells n = (cb (List.replicate n 0)).toArray := by
  apply Array.ext
  · simp [madeCells, cb]
  · intro i h1 h2
    simp [madeCells, cb, Value.cells, Nat.mod_one]
theorem make_bytes (n : Nat) (h : n ≤ 131072) : ∀ W : World, (Instr.makeSlice 27 (.int .i64 (n : Int)) (.int .i64 (n : Int))).run Tryd.prog W = .ok (.slice (some ⟨W.heap.size, 0, none⟩) n n) (W.alloc (.cells (cb (List.replicate n 0)).toArray 5)) := by
  intro W
  obtain ⟨i, hi, hz, hs, hb⟩ := info_u8
  have hr := run_make (P := Tryd.prog) W 27 5 i (.int .u8 0) Tryd.underlying27 hi hz .i64 .i64 n n (by omega) (by omega) (by rw [hb]; omega) (by omega)
  rw [hr, hs]
  simp only [Int.toNat_natCast, Nat.mul_one, zeros_made]
/-- So many bytes c, and bytes 0 behind them. -/
def part (c : UInt8) (n k : Nat) : List UInt8 := List.replicate k c ++ List.replicate (n - k) 0
theorem part_length (c : UInt8) (n k : Nat) (h : k ≤ n) : (part c n k).length = n := by simp [part]; omega
theorem part_set (c : UInt8) (n k : Nat) (h : k < n) : (part c n k).set k c = part c n (k + 1) := by
  unfold part
  rw [show n - k = (n - (k + 1)) + 1 by omega, List.replicate_succ]
  rw [List.set_append_right _ _ (by simp)]
  simp [List.replicate_succ', List.append_assoc]
theorem cb_set (l : List UInt8) (k : Nat) (c : UInt8) : (cb l).toArray.setIfInBounds k (.int .u8 (c.toNat : Int)) = (cb (l.set k c)).toArray := by
  simp [cb, List.map_set]
theorem run_text (W : World) (g n cap : Nat) (l : List UInt8) (hn : l.length = n) (h : Blk W g 5 (cb l).toArray) : (convert 27 9 (.slice (some ⟨g, 0, none⟩) n cap)).run Tryd.prog W = .ok (.string (ba l)) W := by
  refine BL.text (l := l) (fun j hj => ⟨?_, h.frozen j⟩) n cap hn
  rw [h.cell]
  have := cb_get l j hj
  simpa using this

set_option maxRecDepth 100000 in
set_option maxHeartbeats 8000000 in
theorem walk (a : Int) (c : UInt8) (w : World) (ht : Tab w) :
    Calls Tryd.prog 4 #[.int .i64 a, .int .u8 (c.toNat : Int)] w fun e w' => e = .returned (.bool true) ∧ Below w.heap.size w w' := by
  have HT := Lib.hid ht
  clear ht
  obtain ⟨n, hn, ea⟩ := mod_261 a
  have hmk := make_bytes n (by omega)
  go_enter Tryd.func4, Tryd.ntmps4
  go_wp2_with fail
  refine (awake_any _ (by exact HT.out)).mono ?_
  rintro e w1 ⟨rfl, hb1⟩
  have HB1 := Lib.hid hb1
  have HT1 := Lib.hid (HT.out.next hb1)
  clear hb1 HT
  go_wp2_with fail
  clear ea hmk
  go_loopw [7] (fun i wr => ∃ k : Nat, i = .int .i64 (k : Int) ∧ k ≤ n ∧ Blk wr w1.heap.size 5 (cb (part c n k)).toArray ∧ Below w1.heap.size w1 wr) (fun i _ => n - (intOf i).toNat)
  case atStart => exact ⟨0, rfl, Nat.zero_le _, Blk.new _ _ _, (Below.refl _ _).alloc (Nat.le_refl _) _⟩
  case round =>
    obtain ⟨k, rfl, hk, hbk, hb⟩ := hrel
    have HK := Lib.hid hbk
    have HB := Lib.hid hb
    by_cases hlt : k < n
    · have d1 := hbk.cell k
      have hg := cb_get (part c n k) k (by rw [part_length c n k hk]; exact hlt)
      rw [List.getElem?_toArray, hg] at d1
      have d2 := hbk.frozen k
      have ki : (k : Int) < (n : Int) := by omega
      generalize ((part c n k)[k]'(by rw [part_length c n k hk]; exact hlt)).toNat = z at d1
      have HS := Lib.hid (hbk.set_ k (.int .u8 (c.toNat : Int)))
      rw [cb_set, part_set c n k hlt] at HS
      clear hbk hb hg
      go_wp2_with fail
      go_roundw
      case rel => exact ⟨k + 1, by go_num, by omega, HS.out, HB.out.setCell (Nat.le_refl _) _⟩
      case measure => simp [intOf]; omega
    · obtain rfl : k = n := by omega
      obtain ⟨L, hL⟩ : ∃ L, part c k k = L := ⟨_, rfl⟩
      have hLl : L.length = k := by rw [← hL]; exact part_length c k k (Nat.le_refl _)
      rw [hL] at HK
      obtain ⟨t, ht⟩ : ∃ t, ba L = t := ⟨_, rfl⟩
      have hts : t.size = k := by rw [← ht, ba_size]; exact hLl
      have htl : t.data.toList = L := by rw [← ht, ba_list]
      have HCV := Lib.hid (fun W (hW : Below wr.heap.size wr W) => (run_text W w1.heap.size k k L hLl (HK.out.of (hW.block _ HK.out.lt))))
      rw [ht] at HCV
      obtain ⟨g, hg⟩ : ∃ g, w1.heap.size = g := ⟨_, rfl⟩
      rw [hg] at HCV ⊢
      have hDs : (ba (dig t.data.toList)).size = 32 := by rw [ba_size, dig_length]
      obtain ⟨D, hD⟩ : ∃ D, ba (dig t.data.toList) = D := ⟨_, rfl⟩
      rw [hD] at hDs
      have hl1 : len [t] ≤ 100000 := by simp [len]; omega
      have HC29 := Lib.hid (fun W v (h : LaidL [t] v W) (ht : Tab W) => LaidL.sum (by simp) hl1 D (by rw [show (tx [t]).flatten = t.data.toList by simp [tx]]; exact hD) W v h ht)
      have HR := ref_sum_of t (by omega)
      rw [hD] at HR
      have HC32 := Lib.hid (fun W (_ : Tab W) => (HR W).mono fun e w' h => (⟨_, h.1, rfl, h.2⟩ : ∃ u, e = .returned u ∧ (u = .string D ∧ Below W.heap.size W w')))
      have hDD := same_str D
      have HBw := Lib.hid (HB1.out.trans (hb.mono HB1.out.size))
      have HTr := Lib.hid (HT1.out.next hb)
      clear hbk hb hL ht hLl hts htl hD HR HT1 HB1 HK HB hg hl1
      go_wp2_with fail
      refine wp_region_inv (by kernel_rfl) (Vs t D g k) (fun W => Below wr.heap.size wr W ∧ Tab W) (fun W W' => Below W.heap.size W W') (by kernel_rfl) (by kernel_rfl) 43 rfl (by kernel_rfl) Vs_below ⟨(Below.refl _ _).drew, HTr.out.next (Below.refl _ _).drew⟩ ?_ ?_
      · intro i o ho x W hk
        match i, ho with
        | 0, ho =>
          cases ho
          have qf5 : x.tmps[5]?.getD undef = .bool true := hk.fix 5 (by kernel_rfl)
          refine ⟨wanted_plain rfl, ?_⟩
          refine wp_value (v := .bool true) (w' := W) ?_ ⟨_, rfl, rfl, Below.refl _ _, hk.world⟩
          go_simp
        | 1, ho =>
          cases ho
          have q0 : x.tmps[24]?.getD undef = .bool true := hk.dep 0 24 (by kernel_rfl) (by kernel_rfl)
          refine ⟨wanted_plain rfl, ?_⟩
          refine wp_value (v := .bool true) (w' := W) ?_ ⟨_, rfl, rfl, Below.refl _ _, hk.world⟩
          go_simp
        | 2, ho =>
          cases ho
          have qf6 : x.tmps[6]?.getD undef = .slice (some ⟨g, 0, none⟩) k k := hk.fix 6 (by kernel_rfl)
          refine ⟨wanted_guard (g := 1) (d := 25) (by rfl) (by kernel_rfl) (show x.tmps[25]?.getD undef = .bool true from hk.dep 1 25 (by kernel_rfl) (by kernel_rfl)), ?_⟩
          refine wp_value (v := .slice (some ⟨g, 0, none⟩) k k) (w' := W) ?_ ⟨_, rfl, rfl, Below.refl _ _, hk.world⟩
          go_simp
        | 3, ho =>
          cases ho
          have q2 : x.tmps[26]?.getD undef = .slice (some ⟨g, 0, none⟩) k k := hk.dep 2 26 (by kernel_rfl) (by kernel_rfl)
          refine ⟨wanted_guard (g := 1) (d := 25) (by rfl) (by kernel_rfl) (show x.tmps[25]?.getD undef = .bool true from hk.dep 1 25 (by kernel_rfl) (by kernel_rfl)), ?_⟩
          have hcv := HCV.out W hk.world.1
          refine wp_value (v := .string t) (w' := W) ?_ ⟨_, rfl, rfl, Below.refl _ _, hk.world⟩
          go_simp
        | 4, ho =>
          cases ho
          have q3 : x.tmps[27]?.getD undef = .string t := hk.dep 3 27 (by kernel_rfl) (by kernel_rfl)
          refine ⟨wanted_guard (g := 1) (d := 25) (by rfl) (by kernel_rfl) (show x.tmps[25]?.getD undef = .bool true from hk.dep 1 25 (by kernel_rfl) (by kernel_rfl)), ?_⟩
          refine wp_value (v := .slice (some ⟨W.heap.size, 0, none⟩) 1 1) (w' := W.alloc (.cells #[.string t] 9)) ?_ ⟨_, rfl, LaidL.new [t] W, (Below.refl _ _).alloc (Nat.le_refl _) _, hk.world.1.alloc hk.world.1.size _, hk.world.2.next ((Below.refl _ _).alloc (Nat.le_refl _) _)⟩
          go_simp
        | 5, ho =>
          cases ho
          have q4 : LaidL [t] (x.tmps[28]?.getD undef) W := hk.dep 4 28 (by kernel_rfl) (by kernel_rfl)
          refine ⟨wanted_guard (g := 1) (d := 25) (by rfl) (by kernel_rfl) (show x.tmps[25]?.getD undef = .bool true from hk.dep 1 25 (by kernel_rfl) (by kernel_rfl)), ?_⟩
          refine wp_enter (f := 16) (args := #[x.tmps[28]?.getD undef]) (w' := W) ?_ (HC29.out _ _ q4 hk.world.2) ?_
          · go_simp
          · rintro v W' ⟨rfl, hb⟩
            exact ⟨_, rfl, rfl, hb, hk.world.1.trans (hb.mono hk.world.1.size), hk.world.2.next hb⟩
        | 6, ho =>
          cases ho
          have qf6 : x.tmps[6]?.getD undef = .slice (some ⟨g, 0, none⟩) k k := hk.fix 6 (by kernel_rfl)
          refine ⟨wanted_guard (g := 1) (d := 25) (by rfl) (by kernel_rfl) (show x.tmps[25]?.getD undef = .bool true from hk.dep 1 25 (by kernel_rfl) (by kernel_rfl)), ?_⟩
          refine wp_value (v := .slice (some ⟨g, 0, none⟩) k k) (w' := W) ?_ ⟨_, rfl, rfl, Below.refl _ _, hk.world⟩
          go_simp
        | 7, ho =>
          cases ho
          have q6 : x.tmps[30]?.getD undef = .slice (some ⟨g, 0, none⟩) k k := hk.dep 6 30 (by kernel_rfl) (by kernel_rfl)
          refine ⟨wanted_guard (g := 1) (d := 25) (by rfl) (by kernel_rfl) (show x.tmps[25]?.getD undef = .bool true from hk.dep 1 25 (by kernel_rfl) (by kernel_rfl)), ?_⟩
          have hcv := HCV.out W hk.world.1
          refine wp_value (v := .string t) (w' := W) ?_ ⟨_, rfl, rfl, Below.refl _ _, hk.world⟩
          go_simp
        | 8, ho =>
          cases ho
          have q7 : x.tmps[31]?.getD undef = .string t := hk.dep 7 31 (by kernel_rfl) (by kernel_rfl)
          refine ⟨wanted_guard (g := 1) (d := 25) (by rfl) (by kernel_rfl) (show x.tmps[25]?.getD undef = .bool true from hk.dep 1 25 (by kernel_rfl) (by kernel_rfl)), ?_⟩
          refine wp_enter (f := 17) (args := #[.string t]) (w' := W) ?_ (HC32.out _ hk.world.2) ?_
          · go_simp
          · rintro v W' ⟨rfl, hb⟩
            exact ⟨_, rfl, rfl, hb, hk.world.1.trans (hb.mono hk.world.1.size), hk.world.2.next hb⟩
        | 9, ho =>
          cases ho
          have q5 : x.tmps[29]?.getD undef = .string D := hk.dep 5 29 (by kernel_rfl) (by kernel_rfl)
          have q8 : x.tmps[32]?.getD undef = .string D := hk.dep 8 32 (by kernel_rfl) (by kernel_rfl)
          refine ⟨wanted_guard (g := 1) (d := 25) (by rfl) (by kernel_rfl) (show x.tmps[25]?.getD undef = .bool true from hk.dep 1 25 (by kernel_rfl) (by kernel_rfl)), ?_⟩
          refine wp_value (v := .bool true) (w' := W) ?_ ⟨_, rfl, rfl, Below.refl _ _, hk.world⟩
          go_simp
        | 10, ho =>
          cases ho
          have q1 : x.tmps[25]?.getD undef = .bool true := hk.dep 1 25 (by kernel_rfl) (by kernel_rfl)
          have q9 : x.tmps[33]?.getD undef = .bool true := hk.dep 9 33 (by kernel_rfl) (by kernel_rfl)
          refine ⟨wanted_plain rfl, ?_⟩
          refine wp_value (v := .bool true) (w' := W) ?_ ⟨_, rfl, rfl, Below.refl _ _, hk.world⟩
          go_simp
        | 11, ho =>
          cases ho
          have q10 : x.tmps[34]?.getD undef = .bool true := hk.dep 10 34 (by kernel_rfl) (by kernel_rfl)
          refine ⟨wanted_plain rfl, ?_⟩
          refine wp_value (v := .bool true) (w' := W) ?_ ⟨_, rfl, rfl, Below.refl _ _, hk.world⟩
          go_simp
        | 12, ho =>
          cases ho
          have qf6 : x.tmps[6]?.getD undef = .slice (some ⟨g, 0, none⟩) k k := hk.fix 6 (by kernel_rfl)
          refine ⟨wanted_guard (g := 11) (d := 35) (by rfl) (by kernel_rfl) (show x.tmps[35]?.getD undef = .bool true from hk.dep 11 35 (by kernel_rfl) (by kernel_rfl)), ?_⟩
          refine wp_value (v := .slice (some ⟨g, 0, none⟩) k k) (w' := W) ?_ ⟨_, rfl, rfl, Below.refl _ _, hk.world⟩
          go_simp
        | 13, ho =>
          cases ho
          have q12 : x.tmps[36]?.getD undef = .slice (some ⟨g, 0, none⟩) k k := hk.dep 12 36 (by kernel_rfl) (by kernel_rfl)
          refine ⟨wanted_guard (g := 11) (d := 35) (by rfl) (by kernel_rfl) (show x.tmps[35]?.getD undef = .bool true from hk.dep 11 35 (by kernel_rfl) (by kernel_rfl)), ?_⟩
          have hcv := HCV.out W hk.world.1
          refine wp_value (v := .string t) (w' := W) ?_ ⟨_, rfl, rfl, Below.refl _ _, hk.world⟩
          go_simp
        | 14, ho =>
          cases ho
          have q13 : x.tmps[37]?.getD undef = .string t := hk.dep 13 37 (by kernel_rfl) (by kernel_rfl)
          refine ⟨wanted_guard (g := 11) (d := 35) (by rfl) (by kernel_rfl) (show x.tmps[35]?.getD undef = .bool true from hk.dep 11 35 (by kernel_rfl) (by kernel_rfl)), ?_⟩
          refine wp_value (v := .slice (some ⟨W.heap.size, 0, none⟩) 1 1) (w' := W.alloc (.cells #[.string t] 9)) ?_ ⟨_, rfl, LaidL.new [t] W, (Below.refl _ _).alloc (Nat.le_refl _) _, hk.world.1.alloc hk.world.1.size _, hk.world.2.next ((Below.refl _ _).alloc (Nat.le_refl _) _)⟩
          go_simp
        | 15, ho =>
          cases ho
          have q14 : LaidL [t] (x.tmps[38]?.getD undef) W := hk.dep 14 38 (by kernel_rfl) (by kernel_rfl)
          refine ⟨wanted_guard (g := 11) (d := 35) (by rfl) (by kernel_rfl) (show x.tmps[35]?.getD undef = .bool true from hk.dep 11 35 (by kernel_rfl) (by kernel_rfl)), ?_⟩
          refine wp_enter (f := 16) (args := #[x.tmps[38]?.getD undef]) (w' := W) ?_ (HC29.out _ _ q14 hk.world.2) ?_
          · go_simp
          · rintro v W' ⟨rfl, hb⟩
            exact ⟨_, rfl, rfl, hb, hk.world.1.trans (hb.mono hk.world.1.size), hk.world.2.next hb⟩
        | 16, ho =>
          cases ho
          have q15 : x.tmps[39]?.getD undef = .string D := hk.dep 15 39 (by kernel_rfl) (by kernel_rfl)
          refine ⟨wanted_guard (g := 11) (d := 35) (by rfl) (by kernel_rfl) (show x.tmps[35]?.getD undef = .bool true from hk.dep 11 35 (by kernel_rfl) (by kernel_rfl)), ?_⟩
          refine wp_value (v := .int .i64 32) (w' := W) ?_ ⟨_, rfl, rfl, Below.refl _ _, hk.world⟩
          go_simp
        | 17, ho =>
          cases ho
          have q16 : x.tmps[40]?.getD undef = .int .i64 32 := hk.dep 16 40 (by kernel_rfl) (by kernel_rfl)
          refine ⟨wanted_guard (g := 11) (d := 35) (by rfl) (by kernel_rfl) (show x.tmps[35]?.getD undef = .bool true from hk.dep 11 35 (by kernel_rfl) (by kernel_rfl)), ?_⟩
          refine wp_value (v := .bool true) (w' := W) ?_ ⟨_, rfl, rfl, Below.refl _ _, hk.world⟩
          go_simp
        | 18, ho =>
          cases ho
          have q11 : x.tmps[35]?.getD undef = .bool true := hk.dep 11 35 (by kernel_rfl) (by kernel_rfl)
          have q17 : x.tmps[41]?.getD undef = .bool true := hk.dep 17 41 (by kernel_rfl) (by kernel_rfl)
          refine ⟨wanted_plain rfl, ?_⟩
          refine wp_value (v := .bool true) (w' := W) ?_ ⟨_, rfl, rfl, Below.refl _ _, hk.world⟩
          go_simp
        | 19, ho =>
          cases ho
          have q18 : x.tmps[42]?.getD undef = .bool true := hk.dep 18 42 (by kernel_rfl) (by kernel_rfl)
          refine ⟨wanted_plain rfl, ?_⟩
          refine wp_value (v := .bool true) (w' := W) ?_ ⟨_, rfl, rfl, Below.refl _ _, hk.world⟩
          go_simp
        | _ + 20, ho => cases ho
      · intro x W hk
        have hlast : x.tmps[4]?.getD undef = .bool true := hk.last 19 4 (by decide) (by kernel_rfl)
        have hd := hk.defers
        have hW := hk.world.1
        clear hk
        go_wp2
        refine bodyPost_ret (v := .bool true) ?_ hd ⟨rfl, HBw.out.trans (hW.mono HBw.out.size)⟩
        rw [results_tmp (t := 4) (by rfl), Array.getD_eq_getD_getElem?, hlast]

/-! ### The row -/
set_option maxRecDepth 100000 in
theorem contract (H : Type) (enc : TypeId × Value → H) (W : World) (base : Nat) (args : Array Value) (ds gs : List (DataW H)) (before : List MemPlace)
    (hval : ∀ (j : Nat) t v, Tryd.f4.params[j]? = some t → args[j]? = some v → Value.okWide Tryd.prog W .any base t v)
    (hW : DataW.Whole enc Tryd.prog Tryd.f4.params.toList Rows.shaLengthsSpec.vars false W args.toList ds gs before) (hL : laidMetH Tryd.prog Rows.shaLengthsRow.laid W) :
    Calls Tryd.prog 4 args W fun e W' => ∃ v, e = .returned v ∧ Rows.shaLengthsSpec.post enc Tryd.prog Tryd.f4 false true false false W args v W' := by
  have hW' := hW
  obtain ⟨p, q, hA0, hV, rfl, hfz, hnd⟩ := hW
  have hA : DataW.TrodAll enc Tryd.prog W 0 (fun _ => true) true Tryd.f4.params.toList args.toList ds p := hA0
  rw [Tryd.params4] at hA hval
  obtain ⟨v0, vs0, d0, ds0, p0, q0, hargs, rfl, rfl, h0, r0⟩ := trodAll_cons hA
  obtain ⟨v1, vs1, d1, ds1, p1, q1, rfl, rfl, rfl, h1, r1⟩ := trodAll_cons r0
  obtain ⟨rfl, rfl, rfl⟩ := trodAll_nil r1
  obtain rfl : args = #[v0, v1] := by cases args; simp_all
  obtain ⟨rfl, rfl⟩ := trodVars_none hV
  refine law_contract (tb := 4) laidOut (by kernel_rfl) rfl (by kernel_rfl) Tryd.underlying4 rfl hW' ?_
  clear hA0 hW' hA
  obtain ⟨a0, rfl, rfl, rfl, w0⟩ := open_int Tryd.underlying3 (hval 0 3 v0 rfl rfl) h0
  obtain ⟨a1, rfl, rfl, rfl, w1⟩ := open_int Tryd.underlying5 (hval 1 5 v1 rfl rfl) h1
  obtain ⟨n1, rfl, b1⟩ := bounds_u8 w1
  have e1 : (n1 : Int) = (((UInt8.ofNat n1).toNat : Nat) : Int) := by rw [UInt8.toNat_ofNat']; omega
  rw [e1]
  exact walk a0 (UInt8.ofNat n1) W (tab_of_laid hL)

theorem laid_met (os : Os) : laidMet Tryd.prog Rows.shaLengthsRow.laid ((laidWorld os).forCall (fun _ _ => 0) ⟨#[], #[.int .i64 0, .int .u8 0], []⟩).memory :=
  laidMet_of_run' 8 (by kernel_rfl) (by kernel_rfl)
theorem reads (os : Os) {H : Type} (enc : TypeId × Value → H) : ∃ places, DataW.whole enc Tryd.prog ((laidWorld os).forCall (fun _ _ => 0) ⟨#[], #[.int .i64 0, .int .u8 0], []⟩).memory Tryd.f4.params.toList Rows.shaLengthsSpec.vars false (#[.int .i64 0, .int .u8 0] : Array Value).toList 8 = some ([.lit (.int .i64 0), .lit (.int .u8 0)], [], places) :=
  ⟨[], by kernel_rfl⟩

set_option maxRecDepth 100000 in
theorem lifted (os : Os) (started : os.Started) (H : Type) (enc : TypeId × Value → H) (F : Stop.Interp) :
    ReturnsInHanded {} Tryd.checked os 4 .any ((OpenSpec.ofChange Rows.shaLengthsSpec).preRow enc Tryd.prog Tryd.f4 Rows.shaLengthsRow.domain false Rows.shaLengthsRow.laid) (((OpenSpec.ofChange Rows.shaLengthsSpec).at F).post enc Tryd.prog Tryd.f4 false true false false) := by
  obtain ⟨places, hx⟩ := reads os enc
  refine returnsInHanded_of_row (C := Tryd.checked) (s := OpenSpec.ofChange Rows.shaLengthsSpec) own started (by kernel_rfl) Tryd.func4
    (witness_row_at (enc := enc) (C := Tryd.checked) false (laidWorld os) #[.int .i64 0, .int .u8 0] rfl (by kernel_rfl) (by kernel_rfl) (by kernel_rfl)
      (OpenSpec.preRow_of_cond 8 hx (by kernel_rfl) (fun k hk => by cases hk) (by kernel_rfl) (laid_met os))) ?_
  intro W base args ds gs before hval hW _ _ _ hL _ _
  exact contract H enc W base args ds gs before hval hW hL

theorem said : Rows.ShaLengthsSaid :=
  OpenClaim.holds_of_cond 4 Tryd.f4 rfl rfl rfl rfl rfl rfl rfl ⟨rfl, rfl, rfl, rfl, rfl⟩ rfl rfl rfl rfl rfl (by kernel_rfl) Tryd.func4 (by kernel_rfl)
    (of_decide_eq_true (by kernel_rfl)) (by unfold Func.isWrapper; first | (rw [if_pos (by decide +kernel)]; kernel_rfl) | (rw [if_neg (by decide +kernel)]; exact ⟨rfl, rfl⟩))
    (fun os started H enc _ F => by rw [OpenClaim.pre_eq_preRow]; exact lifted os started H enc F)

theorem plain (f : FuncId) (fn : Func) (hf : Tryd.pinned.checked.prog.funcNamed "homecoming/homecominglaw06.ShaLengths" = some f) (hfn : Tryd.pinned.checked.prog.funcs[f]? = some fn) :
    false = Tryd.pinned.checked.prog.looks [] ∧ ∀ (j : Nat) t, fn.params[j]? = some t → Tryd.pinned.checked.prog.wantsStandIn t = false := by
  obtain rfl : f = 4 := Option.some.inj ((show Tryd.prog.funcNamed "homecoming/homecominglaw06.ShaLengths" = some 4 by kernel_rfl).symm.trans hf) |>.symm
  obtain rfl : fn = Tryd.f4 := (Option.some.inj (Tryd.func4.symm.trans hfn)).symm
  refine ⟨by kernel_rfl, fun j t ht => ?_⟩
  have hall : (Tryd.f4.params.toList.all fun u => !Tryd.prog.wantsStandIn u) = true := by kernel_rfl
  have hm : t ∈ Tryd.f4.params.toList := by simpa using Array.mem_of_getElem? ht
  exact (show Tryd.prog.wantsStandIn t = false by simpa using List.all_eq_true.1 hall t hm)

/-- THE STATEMENT. -/
theorem card : Rows.ShaLengthsCardSaid :=
  Claim7.holds_tied_plain_at .later [] _ _ _ _ said (fun _ h => by cases h) (by kernel_rfl) (fun _ h => by cases h) shaLengths_row_tie rfl ⟨rfl, rfl⟩ (by kernel_rfl) rfl plain (by kernel_rfl)
#print axioms card
end Go.Proofs.YthaejfbbefpojaaDoor.shaLengths
