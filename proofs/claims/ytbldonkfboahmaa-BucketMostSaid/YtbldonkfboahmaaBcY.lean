/-
  Law 12's own key, rows, few and awake. Condition: rows of at most 9223372036854775807 pairs (as they come in).
-/
import Derived.Deep.RegionLaw
import Derived.Test.YtbldonkfboahmaaBcX
namespace Go.Proofs.Ytbldonkfboahmaa
open Go.RowKit

def k36 : List UInt8 := [97, 98, 99, 100, 101, 102, 103, 104, 105, 106, 107, 108, 109, 110, 111, 112, 113, 114, 115, 116, 117, 118, 119, 120, 121, 122, 48, 49, 50, 51, 52, 53, 54, 55, 56, 57]
def r36 : List UInt8 := [48, 49, 50, 51, 52, 53, 54, 55, 56, 57, 97, 98, 99, 100, 101, 102, 103, 104, 105, 106, 107, 108, 109, 110, 111, 112, 113, 114, 115, 116, 117, 118, 119, 120, 121, 122]
/-- A key, by its place. -/
def keyS (m : Nat) : ByteArray := ba ((k36.drop m).take 1)
def rk (m : Nat) : ByteArray := ba ((r36.drop m).take 1)
theorem kl_ba (a b : List UInt8) : kl (ba a) (ba b) = Op.bytesLess a b := by
  unfold kl
  rw [ByteArray.toList_eq, ByteArray.toList_eq, ba_list, ba_list]
theorem ba_ne {a : List UInt8} (h : a ≠ []) : ¬ ba a = ⟨#[]⟩ := fun e => h (ba_inj (e.trans (show (⟨#[]⟩ : ByteArray) = ba [] from rfl)))
theorem rk_lt : ∀ i j, i < j → j < 36 → kl (rk i) (rk j) = true := fun i j hij hj => by
  unfold rk
  rw [kl_ba]
  have h : ∀ i : Fin 36, ∀ j : Fin 36, i.1 < j.1 → Op.bytesLess ((r36.drop i.1).take 1) ((r36.drop j.1).take 1) = true := of_decide_eq_true (by kernel_rfl)
  exact h ⟨i, by omega⟩ ⟨j, hj⟩ hij
theorem take_one_ne {l : List UInt8} {m : Nat} (h : m < l.length) : (l.drop m).take 1 ≠ [] := by
  rw [List.drop_eq_getElem_cons h, List.take_succ_cons]
  exact List.cons_ne_nil _ _
theorem rk_ne (i : Nat) (h : i < 36) : ¬ rk i = ⟨#[]⟩ := ba_ne (take_one_ne h)
theorem keyS_ne (i : Nat) (h : i < 36) : ¬ keyS i = ⟨#[]⟩ := ba_ne (take_one_ne h)
theorem key_two : ¬ keyS 1 = keyS 0 := fun h => by
  have := ba_inj h
  revert this
  decide
/-- Low bits. -/
def lo (x : Int) (n : Nat) : Nat := (x % (n : Int)).toNat
theorem lo_lt (x : Int) (n : Nat) (h : 0 < n) : lo x n < n := by
  unfold lo
  have := Int.emod_nonneg x (show (n : Int) ≠ 0 by omega)
  have := Int.emod_lt_of_pos x (show (0 : Int) < (n : Int) by omega)
  omega
theorem and_mask (x : Int) (c : Int) (k : Nat) (hk : k ≤ 8) (hm : (BitVec.ofInt 64 c).toNat = 2 ^ k - 1) : bits .and .i64 x c = (lo x (2 ^ k) : Int) := by
  have key : (BitVec.ofInt 64 x &&& BitVec.ofInt 64 c).toNat = (x % ((2 ^ 64 : Nat) : Int)).toNat % 2 ^ k := by
    rw [BitVec.toNat_and, BitVec.toNat_ofInt, hm, Nat.and_two_pow_sub_one_eq_mod]
  show IntKind.i64.wrap ((BitVec.ofInt 64 x &&& BitVec.ofInt 64 c).toNat : Nat) = _
  rw [key, IntKind.wrap_i64]
  unfold lo
  match k, hk with
  | 0, _ => omega
  | 1, _ => omega
  | 2, _ => omega
  | 3, _ => omega
  | 4, _ => omega
  | 5, _ => omega
  | 6, _ => omega
  | 7, _ => omega
  | 8, _ => omega
theorem and1 (x : Int) : bits .and .i64 x 1 = (lo x 2 : Int) := and_mask x 1 1 (by decide) (by decide)
theorem and3 (x : Int) : bits .and .i64 x 3 = (lo x 4 : Int) := and_mask x 3 2 (by decide) (by decide)
theorem and31 (x : Int) : bits .and .i64 x 31 = (lo x 32 : Int) := and_mask x 31 5 (by decide) (by decide)
theorem and63 (x : Int) : bits .and .i64 x 63 = (lo x 64 : Int) := and_mask x 63 6 (by decide) (by decide)
theorem and127 (x : Int) : bits .and .i64 x 127 = (lo x 128 : Int) := and_mask x 127 7 (by decide) (by decide)
theorem and255 (x : Int) : bits .and .i64 x 255 = (lo x 256 : Int) := and_mask x 255 8 (by decide) (by decide)
/-- Which key a number names. -/
def kix (n : Int) : Nat := ((n.tmod 36 + 36).tmod 36).toNat
theorem kix_spec (n : Int) : kix n < 36 ∧ (n.tmod 36 + 36).tmod 36 = (kix n : Int) ∧ IntKind.i64.wrap (n.tmod 36) = n.tmod 36 ∧ IntKind.i64.wrap (n.tmod 36 + 36) = n.tmod 36 + 36 := by
  have h1 := Int.tmod_lt_of_pos n (show (0 : Int) < 36 by omega)
  have h2 : -36 < n.tmod 36 := by
    have := Int.tmod_lt_of_pos (-n) (show (0 : Int) < 36 by omega)
    rw [Int.neg_tmod] at this
    omega
  unfold kix
  have e : (n.tmod 36 + 36).tmod 36 = (n.tmod 36 + 36) % 36 := Int.tmod_eq_emod_of_nonneg (by omega)
  rw [e, IntKind.wrap_i64, IntKind.wrap_i64]
  generalize n.tmod 36 = t at h1 h2
  omega
theorem kix_zero : kix 0 = 0 := by decide
theorem kix_one : kix 1 = 1 := by decide
set_option maxRecDepth 100000 in
set_option maxHeartbeats 2000000 in
theorem key_any (n : Int) (w : World) : Calls Try.prog 12 #[.int .i64 n] w fun e w' => e = .returned (.string (keyS (kix n))) ∧ w = w' := by
  obtain ⟨h36, h1, h2, h3⟩ := kix_spec n
  obtain ⟨m, hm⟩ : ∃ m, kix n = m := ⟨_, rfl⟩
  rw [hm] at h36 h1 ⊢
  obtain ⟨t, ht⟩ : ∃ t, n.tmod 36 = t := ⟨_, rfl⟩
  rw [ht] at h1 h2 h3
  have hw1 : IntKind.i64.wrap ((m : Int) + 1) = (m : Int) + 1 := by rw [IntKind.wrap_i64]; omega
  have hw0 : IntKind.i64.wrap (m : Int) = (m : Int) := by rw [IntKind.wrap_i64]; omega
  have HM := Lib.hid hm
  have hrun : ∀ W, (Instr.slice 9 (.string ⟨#[97, 98, 99, 100, 101, 102, 103, 104, 105, 106, 107, 108, 109, 110, 111, 112, 113, 114, 115, 116, 117, 118, 119, 120, 121, 122, 48, 49, 50, 51, 52, 53, 54, 55, 56, 57]⟩) (some (.int .i64 (m : Int))) (some (.int .i64 ((m : Int) + 1))) none).run Try.prog W = .ok (.string (keyS m)) W := fun W => by
    have h := run_sub k36 m (m + 1) (by omega) (by show m + 1 ≤ 36; omega) W
    rw [show m + 1 - m = 1 by omega, show ((m + 1 : Nat) : Int) = (m : Int) + 1 by omega] at h
    exact h
  clear hm
  go_enter Try.func12, Try.ntmps12
  go_wp2_with fail
  go_ret
  exact ⟨rfl, rfl⟩
/-! ### Pairs that came in -/
structure PrAt (W : World) (p : Addr) (x : Int × Int) : Prop where
  c0 : W.cell? p = some (.int .i64 x.1)
  c1 : W.cell? ⟨p.block, p.off + 1, none⟩ = some (.int .i64 x.2)
  lt : p.block < W.heap.size
theorem PrAt.below {W w : World} {p : Addr} {x : Int × Int} (h : PrAt W p x) (hb : Below W.heap.size W w) : PrAt w p x :=
  ⟨(hb.cell h.lt).trans h.c0, (hb.cell (p := ⟨p.block, p.off + 1, none⟩) h.lt).trans h.c1, Nat.lt_of_lt_of_le h.lt hb.size⟩
def Prs (W : World) (A : Option Addr) (l : List (Int × Int)) : Prop := ∀ i (hi : i < l.length), ∃ a, A = some a ∧ PrAt W (a.add (i * 2)) l[i]
theorem Prs.below {W w : World} {A : Option Addr} {l : List (Int × Int)} (h : Prs W A l) (hb : Below W.heap.size W w) : Prs w A l := fun i hi => by
  obtain ⟨a, e, hp⟩ := h i hi
  exact ⟨a, e, hp.below hb⟩
theorem Prs.take {W : World} {A : Option Addr} {l : List (Int × Int)} (h : Prs W A l) (n : Nat) : Prs W A (l.take n) := fun i hi => by
  have hi2 : i < l.length := by rw [List.length_take] at hi; omega
  obtain ⟨a, e, hp⟩ := h i hi2
  exact ⟨a, e, by rw [List.getElem_take]; exact hp⟩
def rowOf (l : List (Int × Int)) (i : Nat) : Bb := ⟨rk i, lo (l.getD i (0, 0)).1 4, lo (l.getD i (0, 0)).2 128⟩
def rowsK (l : List (Int × Int)) (k : Nat) : List Bb := (List.range k).map (rowOf l)
def rowsL (l : List (Int × Int)) : List Bb := rowsK l (min l.length 26)
theorem rowsK_more (l : List (Int × Int)) (k : Nat) : rowsK l (k + 1) = rowsK l k ++ [rowOf l k] := by
  unfold rowsK
  rw [List.range_succ, List.map_append]
  rfl
theorem rowsK_length (l : List (Int × Int)) (k : Nat) : (rowsK l k).length = k := by simp [rowsK]
theorem rows_mem {l : List (Int × Int)} {k : Nat} {b : Bb} (h : b ∈ rowsK l k) : ∃ i, i < k ∧ b = rowOf l i := by
  obtain ⟨i, hi, rfl⟩ := List.mem_map.1 h
  exact ⟨i, List.mem_range.1 hi, rfl⟩
theorem rows_gd (l : List (Int × Int)) (k : Nat) (hk : k ≤ 24) : Gd (rowsK l k) := by
  refine ⟨vl_of ?_ (fun b hb => ?_) (by rw [rowsK_length]; exact hk), by rw [rowsK_length]; exact hk, fun b hb => ?_⟩
  · unfold Bk.Rising rowsK
    rw [List.pairwise_map]
    refine (List.pairwise_lt_range (n := k)).imp_of_mem (fun {i j} hi hj hij => ?_)
    have := List.mem_range.1 hj
    exact rk_lt i j hij (by omega)
  · obtain ⟨i, hi, rfl⟩ := rows_mem hb
    have h1 := lo_lt (l.getD i (0, 0)).1 4 (by decide)
    have h2 := lo_lt (l.getD i (0, 0)).2 128 (by decide)
    exact ⟨⟨by show lo _ 4 ≤ 4; omega, by show lo _ 128 ≤ _; omega⟩, h1⟩
  · obtain ⟨i, hi, rfl⟩ := rows_mem hb
    exact rk_ne i (by omega)
theorem rows_at {l : List (Int × Int)} {k : Nat} {b : Bb} (h : b ∈ rowsK l k) : b.at_ ≤ 127 := by
  obtain ⟨i, hi, rfl⟩ := rows_mem h
  have h2 := lo_lt (l.getD i (0, 0)).2 128 (by decide)
  show lo _ 128 ≤ 127
  omega
set_option maxRecDepth 100000 in
set_option maxHeartbeats 4000000 in
theorem rows_any (A : Option Addr) (cp : Nat) (l : List (Int × Int)) (w : World) (hA : Prs w A l) :
    Calls Try.prog 11 #[.slice A l.length cp] w fun e w' => (∃ v, e = .returned v ∧ Row (fun _ => False) (M (rowsL l)) v w') ∧ Below w.heap.size w w' := by
  have HA := Lib.hid hA
  unfold rowsL
  obtain ⟨mn, hmn⟩ : ∃ mn, min l.length 26 = mn := ⟨_, rfl⟩
  rw [hmn]
  clear hA
  go_enter Try.func11, Try.ntmps11
  go_wp2_with fail
  go_loopw [4, 5] (fun v i wr => ∃ (k : Nat) (A' : Option Addr) (c' : Nat), v = .slice A' k c' ∧ i = .int .i64 (k : Int) ∧ k ≤ mn ∧ wr.ownsRow w.heap.size 54 3 (.slice A' k c') k (bus (M (rowsK l k))) ∧ Below w.heap.size w wr) (fun _ i _ => mn - (intOf i).toNat)
  case atStart => exact ⟨0, _, _, rfl, rfl, by omega, ⟨rfl, .inl ⟨rfl, rfl⟩⟩, Below.refl _ w⟩
  case round =>
    obtain ⟨k, A', c', rfl, rfl, hk, hown, hB⟩ := hrel
    have HOW := Lib.hid hown
    have HBW := Lib.hid hB
    clear hown hB
    by_cases hlt : k < mn
    · have hkl : k < l.length := by omega
      have hki : (k : Int) < (l.length : Int) := by omega
      have hk26 : (k : Int) < 26 := by omega
      obtain ⟨ad, rfl, sa0⟩ := HA.out k hkl
      have sa := sa0.below HBW.out
      obtain ⟨q, hq0⟩ : ∃ q, ad.add (k * 2) = q := ⟨_, rfl⟩
      have HD : Hid (rowOf l k = ⟨rk k, lo (l[k]).1 4, lo (l[k]).2 128⟩) := Lib.hid (by unfold rowOf; rw [List.getD_eq_getElem?_getD, List.getElem?_eq_getElem hkl]; rfl)
      obtain ⟨x, y⟩ : ∃ x, l[k] = x := ⟨_, rfl⟩
      rw [hq0, y] at sa
      rw [y] at HD
      obtain ⟨x0, x1⟩ := x
      have s0 := sa.c0
      have s1 := sa.c1
      simp only at s0 s1 HD
      obtain ⟨q0, q1, q2⟩ := q
      have ha3 := and3 x0
      have ha127 := and127 x1
      have hlo4 := lo_lt x0 4 (by decide)
      have hlo128 := lo_lt x1 128 (by decide)
      obtain ⟨m0, hm0⟩ : ∃ m, lo x0 4 = m := ⟨_, rfl⟩
      obtain ⟨m1, hm1⟩ : ∃ m, lo x1 128 = m := ⟨_, rfl⟩
      rw [hm0] at ha3 HD hlo4
      rw [hm1] at ha127 HD hlo128
      have hw1 : IntKind.i64.wrap ((k : Int) + 1) = (k : Int) + 1 := by rw [IntKind.wrap_i64]; omega
      have hcut : ∀ W, (Instr.slice 9 (.string ⟨#[48, 49, 50, 51, 52, 53, 54, 55, 56, 57, 97, 98, 99, 100, 101, 102, 103, 104, 105, 106, 107, 108, 109, 110, 111, 112, 113, 114, 115, 116, 117, 118, 119, 120, 121, 122]⟩) (some (.int .i64 (k : Int))) (some (.int .i64 ((k : Int) + 1))) none).run Try.prog W = .ok (.string (rk k)) W := fun W => by
        have h := run_sub r36 k (k + 1) (by omega) (by show k + 1 ≤ 36; omega) W
        rw [show k + 1 - k = 1 by omega, show ((k + 1 : Nat) : Int) = (k : Int) + 1 by omega] at h
        exact h
      have HT : Hid (bus (M (rowsK l (k + 1))) = bus (M (rowsK l k) ++ [up ⟨rk k, m0, m1⟩])) := Lib.hid (by rw [rowsK_more, M_append, HD.out]; rfl)
      obtain ⟨A3, c3, w3, hrun, hown3, hbel⟩ := append_one (W := wr.drew) HBW.out.size (own_on HOW.out (Below.refl _ wr).drew) (up ⟨rk k, m0, m1⟩) (by omega) 23
      simp only [up] at hrun
      have HRU := Lib.hid hrun
      have HO3 := Lib.hid hown3
      have HB3 := Lib.hid (hbel w HBW.out.drew)
      clear hrun hown3 hbel sa sa0 y hm0 hm1
      go_upto_region 6 with fail
      go_region_law (refine step_append_run rfl (.tmp 16) (.tmp 35) _ _ rfl _ _ _ rfl rfl HRU.out ?_)
      all_goals go_wp2_with fail
      all_goals exact ⟨⟨k + 1, _, _, rfl, by go_num, by omega, by rw [HT.out]; exact HO3.out, HB3.out⟩, by simp [intOf]; omega⟩
    · obtain rfl : k = mn := by omega
      by_cases h1 : k < l.length
      · have hki : (k : Int) < (l.length : Int) := by omega
        have hk26 : ¬ (k : Int) < 26 := by omega
        go_wp2_with fail
        go_ret
        exact ⟨⟨_, rfl, row_own HOW.out⟩, HBW.out⟩
      · have hki : ¬ (k : Int) < (l.length : Int) := by omega
        go_wp2_with fail
        go_ret
        exact ⟨⟨_, rfl, row_own HOW.out⟩, HBW.out⟩
/-! ### Rows as they stand -/
def fewOf (b : Bu) : Bu := ⟨cut b.key 8, b.left, b.at_⟩
def fewL (l : List Bu) : List Bu := (l.take 26).map fewOf
theorem few_more (l : List Bu) (k : Nat) (h : k < l.length) : (l.take (k + 1)).map fewOf = (l.take k).map fewOf ++ [fewOf l[k]] := by
  rw [take_more l k h, List.map_append]
  rfl
theorem few_length (l : List Bu) : (fewL l).length ≤ 26 := by
  unfold fewL
  rw [List.length_map, List.length_take]
  omega
set_option maxRecDepth 100000 in
set_option maxHeartbeats 4000000 in
theorem few_any {S : Nat → Prop} (A : Option Addr) (cp : Nat) (l : List Bu) (w : World) (hA : Lies S w A (bus l)) :
    Calls Try.prog 15 #[.slice A l.length cp] w fun e w' => (∃ v, e = .returned v ∧ Row (fun _ => False) (fewL l) v w') ∧ Below w.heap.size w w' := by
  have HA := Lib.hid hA
  unfold fewL
  obtain ⟨mn, hmn⟩ : ∃ mn, min l.length 26 = mn := ⟨_, rfl⟩
  rw [show l.take 26 = l.take mn by rw [List.take_eq_take_min, Nat.min_comm, hmn]]
  clear hA
  go_enter Try.func15, Try.ntmps15
  go_wp2_with fail
  go_loopw [3, 4, 5] (fun v i _ wr => ∃ (k : Nat) (A' : Option Addr) (c' : Nat), v = .slice A' k c' ∧ i = .int .i64 (k : Int) ∧ k ≤ mn ∧ wr.ownsRow w.heap.size 54 3 (.slice A' k c') k (bus ((l.take k).map fewOf)) ∧ Below w.heap.size w wr) (fun _ i _ _ => mn - (intOf i).toNat)
  case atStart => exact ⟨0, _, _, rfl, rfl, by omega, ⟨rfl, .inl ⟨rfl, rfl⟩⟩, Below.refl _ w⟩
  case round =>
    obtain ⟨k, A', c', rfl, rfl, hk, hown, hB⟩ := hrel
    have HOW := Lib.hid hown
    have HBW := Lib.hid hB
    clear hown hB
    by_cases hlt : k < mn
    · have hkl : k < l.length := by omega
      have hki : (k : Int) < (l.length : Int) := by omega
      have hk26 : (k : Int) < 26 := by omega
      obtain ⟨ad, rfl, sa0⟩ := lies_bu HA.out k hkl
      have sa := sa0.below HBW.out
      obtain ⟨q, hq0⟩ : ∃ q, ad.add (k * 3) = q := ⟨_, rfl⟩
      have HT0 := few_more l k hkl
      obtain ⟨x, y⟩ : ∃ x, l[k] = x := ⟨_, rfl⟩
      rw [hq0, y] at sa
      rw [y] at HT0
      have s0 := sa.c0
      have s1 := sa.c1
      have s2 := sa.c2
      by_cases h8 : 8 < x.key.size
      · have hg : (x.key.size : Int) > 8 := by omega
        have hcu : cut x.key 8 = x.key.extract 0 8 := by unfold cut; rw [if_pos h8]
        have HT : Hid (bus ((l.take (k + 1)).map fewOf) = bus ((l.take k).map fewOf ++ [⟨x.key.extract 0 8, x.left, x.at_⟩])) := Lib.hid (by rw [HT0]; unfold fewOf; rw [hcu])
        have hW : (wr.alloc (.cells #[.string (x.key.extract 0 8), .int .i64 x.left, .int .i64 x.at_] 54)).heap.size = wr.heap.size + 1 := by simp
        obtain ⟨A3, c3, w3, hrun, hown3, hbel⟩ := append_one (W := wr.alloc (.cells #[.string (x.key.extract 0 8), .int .i64 x.left, .int .i64 x.at_] 54)) (by rw [hW]; have := HBW.out.size; omega) (own_on HOW.out ((Below.refl _ wr).alloc (Nat.le_refl _) _)) ⟨x.key.extract 0 8, x.left, x.at_⟩ (by omega) 23
        rw [hW] at hrun
        have HRU := Lib.hid hrun
        have HO3 := Lib.hid hown3
        have HB3 := Lib.hid (hbel w (HBW.out.alloc HBW.out.size _))
        have hex : ∀ W, (Instr.slice 9 (.string x.key) none (some (.int .i64 8)) none).run Try.prog W = .ok (.string (x.key.extract 0 8)) W := fun W => by
          rw [run_slice_string_to_if _ _ _ _ _ Try.underlying9, if_pos (by omega)]
          rfl
        have hblk := Blk.new wr 54 #[.string x.key, .int .i64 x.left, .int .i64 x.at_]
        have b0 := (hblk.cell 0).trans rfl
        have f0 := hblk.frozen 0
        clear hrun hown3 hbel sa sa0 y HT0 hcu hblk
        go_wp2_with (at_builtin; refine wpList_append_run rfl (.tmp 28) (.tmp 30) 23 23 rfl _ _ _ rfl rfl HRU.out ?_)
        go_roundw
        case rel => exact ⟨k + 1, _, _, rfl, by go_num, by omega, by rw [HT.out]; exact HO3.out, HB3.out⟩
        case measure => simp [intOf]; omega
      · have hg : ¬ (x.key.size : Int) > 8 := by omega
        have hcu : cut x.key 8 = x.key := by unfold cut; rw [if_neg h8]
        have HT : Hid (bus ((l.take (k + 1)).map fewOf) = bus ((l.take k).map fewOf ++ [⟨x.key, x.left, x.at_⟩])) := Lib.hid (by rw [HT0]; unfold fewOf; rw [hcu])
        have hW : (wr.alloc (.cells #[.string x.key, .int .i64 x.left, .int .i64 x.at_] 54)).heap.size = wr.heap.size + 1 := by simp
        obtain ⟨A3, c3, w3, hrun, hown3, hbel⟩ := append_one (W := wr.alloc (.cells #[.string x.key, .int .i64 x.left, .int .i64 x.at_] 54)) (by rw [hW]; have := HBW.out.size; omega) (own_on HOW.out ((Below.refl _ wr).alloc (Nat.le_refl _) _)) ⟨x.key, x.left, x.at_⟩ (by omega) 23
        rw [hW] at hrun
        have HRU := Lib.hid hrun
        have HO3 := Lib.hid hown3
        have HB3 := Lib.hid (hbel w (HBW.out.alloc HBW.out.size _))
        clear hrun hown3 hbel sa sa0 y HT0 hcu
        go_wp2_with (at_builtin; refine wpList_append_run rfl (.tmp 28) (.tmp 30) 23 23 rfl _ _ _ rfl rfl HRU.out ?_)
        go_roundw
        case rel => exact ⟨k + 1, _, _, rfl, by go_num, by omega, by rw [HT.out]; exact HO3.out, HB3.out⟩
        case measure => simp [intOf]; omega
    · obtain rfl : k = mn := by omega
      by_cases h1 : k < l.length
      · have hki : (k : Int) < (l.length : Int) := by omega
        have hk26 : ¬ (k : Int) < 26 := by omega
        go_wp2_with fail
        go_ret
        exact ⟨⟨_, rfl, by first | exact row_own HOW.out | (rw [← List.map_take]; exact row_own HOW.out)⟩, HBW.out⟩
      · have hki : ¬ (k : Int) < (l.length : Int) := by omega
        go_wp2_with fail
        go_ret
        exact ⟨⟨_, rfl, by first | exact row_own HOW.out | (rw [← List.map_take]; exact row_own HOW.out)⟩, HBW.out⟩
/-! ### The chapter's example -/
theorem take_nil (k : ByteArray) (hk : ¬ k = ⟨#[]⟩) (now : Nat) : takeB [] k now = ([⟨k, 3, now⟩], 0) := by
  have h1 : ¬ (k = ⟨#[]⟩ ∨ Bk.left [] k now = 0) := by
    rintro (h | h)
    · exact hk h
    · cases h
  rw [take_c h1 (fun e => by have := e.2; simp [Bk.sweep] at this)]
  rfl
theorem left_one (k : ByteArray) (m t now : Nat) : Bk.left [⟨k, m, t⟩] k now = Bk.left1 ⟨k, m, t⟩ now := by
  unfold Bk.left
  rw [Bk.find_cons, if_pos rfl]
theorem take_one (k : ByteArray) (hk : ¬ k = ⟨#[]⟩) (m t now : Nat) (h1 : 1 ≤ Bk.left1 ⟨k, m, t⟩ now) (h4 : Bk.left1 ⟨k, m, t⟩ now < 4) :
    takeB [⟨k, m, t⟩] k now = ([⟨k, Bk.left1 ⟨k, m, t⟩ now - 1, t + 25 * (Bk.left1 ⟨k, m, t⟩ now - m)⟩], 0) := by
  have hs : Bk.sweep [(⟨k, m, t⟩ : Bb)] now = [⟨k, m, t⟩] := by
    rw [Bk.sweep_cons, if_pos h4]
    rfl
  have h0 : ¬ (k = ⟨#[]⟩ ∨ Bk.left [(⟨k, m, t⟩ : Bb)] k now = 0) := by
    rw [left_one]
    rintro (h | h)
    · exact hk h
    · omega
  rw [take_c h0 (fun e => by have := e.2; rw [hs] at this; simp at this)]
  unfold Bk.taken
  rw [hs, left_one]
  unfold Bk.put
  rw [if_neg (by rw [ordK.irrefl]; decide), if_pos rfl]
theorem take_none (k : ByteArray) (m t now : Nat) (h1 : Bk.left1 ⟨k, m, t⟩ now = 0) : (takeB [(⟨k, m, t⟩ : Bb)] k now).2 = 22 := by
  rw [take_a (.inr (by rw [left_one]; exact h1))]
def KK : ByteArray := ⟨#[107]⟩
theorem KK_ne : ¬ KK = ⟨#[]⟩ := ba_ne (a := [107]) (by decide)
def aw (i : Nat) : List Bb := if i = 0 then [] else [⟨KK, 4 - i, 0⟩]
theorem aw_gd (i : Nat) : Gd (aw i) := by
  unfold aw
  split
  · exact gd_nil
  · rename_i h
    refine ⟨vl_of (List.pairwise_singleton _ _) (fun b hb => ?_) (by simp), by simp, fun b hb => ?_⟩
    · rw [List.mem_singleton] at hb
      subst hb
      exact ⟨⟨by show 4 - i ≤ 4; omega, Nat.zero_le _⟩, by show 4 - i < 4; omega⟩
    · rw [List.mem_singleton] at hb
      subst hb
      exact KK_ne
theorem aw_next (i : Nat) (h : i < 4) : takeB (aw i) KK 0 = (aw (i + 1), 0) := by
  match i, h with
  | 0, _ => exact take_nil KK KK_ne 0
  | 1, _ => exact take_one KK KK_ne 3 0 0 (by decide) (by decide)
  | 2, _ => exact take_one KK KK_ne 2 0 0 (by decide) (by decide)
  | 3, _ => exact take_one KK KK_ne 1 0 0 (by decide) (by decide)
set_option maxRecDepth 100000 in
set_option maxHeartbeats 4000000 in
theorem awake_any (w : World) : Calls Try.prog 10 #[] w fun e w' => e = .returned (.bool true) ∧ Below w.heap.size w w' := by
  have HT : Hid (∀ (L : List Bb) (now : Nat) (A : Option Addr) (cp : Nat) (W : World), Gd L → now ≤ 100 → L.length ≤ cp → Lies (fun _ => False) W A (bus (M L)) → Calls Try.prog 19 #[.slice A L.length cp, .string ⟨#[107]⟩, .int .i64 (now : Int)] W fun e w' => (∃ v, e = .returned (.tuple #[v, .int .i64 ((takeB L KK now).2 : Int)]) ∧ Row (fun _ => False) (M (takeB L KK now).1) v w') ∧ Below W.heap.size W w') :=
    Lib.hid (fun L now A cp W hg hn hcp hA => Take_any A cp L hcp hg KK now (by omega) W hA)
  go_enter Try.func10, Try.ntmps10
  go_wp2_with fail
  go_loopw [1, 2, 3, 4] (fun v i _ _ wr => ∃ k : Nat, i = .int .i64 (k : Int) ∧ k ≤ 4 ∧ Row (fun _ => False) (M (aw k)) v wr ∧ Below w.heap.size w wr) (fun _ i _ _ _ => 4 - (intOf i).toNat)
  case atStart => exact ⟨0, rfl, by omega, ⟨none, 0, rfl, Nat.le_refl _, Lies.none _ _⟩, Below.refl _ w⟩
  case round =>
    obtain ⟨k, rfl, hk, hrow, hB⟩ := hrel
    obtain ⟨A, c, rfl, hc, hA⟩ := hrow
    rw [M_length] at hc
    simp only [M_length]
    have HBW := Lib.hid hB
    have HAW := Lib.hid hA
    clear hB hA
    by_cases hlt : k < 4
    · have hki : (k : Int) < 4 := by omega
      have hcall := HT.out (aw k) 0 A c wr (aw_gd k) (by omega) hc HAW.out
      rw [aw_next k hlt] at hcall
      have HCA := Lib.hid hcall
      clear hcall
      go_wp2_with fail
      refine HCA.out.mono ?_
      rintro e w2 ⟨⟨v, rfl, hr⟩, hb⟩
      have HR := Lib.hid hr
      have HB2 := Lib.hid (HBW.out.trans (hb.mono HBW.out.size))
      clear hr hb
      go_wp2_with fail
      go_roundw
      case rel => exact ⟨k + 1, by go_num, by omega, HR.out, HB2.out⟩
      case measure => simp [intOf]; omega
    · obtain rfl : k = 4 := by omega
      have h1 := HT.out (aw 4) 24 A c wr (aw_gd 4) (by omega) hc HAW.out
      rw [show (takeB (aw 4) KK 24).2 = 22 from take_none KK 0 0 24 (by decide)] at h1
      have h2 := fun W hW => HT.out (aw 4) 25 A c W (aw_gd 4) (by omega) hc (HAW.out.below hW)
      rw [show (takeB (aw 4) KK 25).2 = 0 from congrArg Prod.snd (take_one KK KK_ne 0 0 25 (by decide) (by decide))] at h2
      have H1 := Lib.hid h1
      have H2 := Lib.hid h2
      clear h1 h2
      go_wp2_with fail
      refine H1.out.mono ?_
      rintro e w2 ⟨⟨v, rfl, hr⟩, hb⟩
      have HB2 := Lib.hid (HBW.out.trans (hb.mono HBW.out.size))
      have H3 := Lib.hid (H2.out w2 hb)
      clear hr hb
      go_wp2_with fail
      refine H3.out.mono ?_
      rintro e w3 ⟨⟨v3, rfl, hr⟩, hb⟩
      have HB3 := Lib.hid (HB2.out.trans (hb.mono HB2.out.size))
      clear hr hb
      go_wp2_with fail
      go_ret
      exact ⟨rfl, HB3.out⟩
end Go.Proofs.Ytbldonkfboahmaa
