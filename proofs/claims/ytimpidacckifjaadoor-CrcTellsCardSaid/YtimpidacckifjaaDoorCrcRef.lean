/-
  Contracts of the document's own answers for layer 1 (homecomingref01): in, Extend, Sum, Join, Seal, Open return the same values as the mathematics of the checksum. Conditions: texts of at most 1000 bytes for Seal and Open; none else.
-/
import Derived.Test.YtimpidacckifjaaDoorCrcSeal
namespace Go.Proofs.YtimpidacckifjaaDoor
open Go.RowKit

def InRel (q : BitVec 32) (t0 t5 : Value) : Prop := ∃ k : Nat, k ≤ 8 ∧ t0 = .int .u32 (R (Crc.shN k q)) ∧ t5 = .int .i64 (k : Int)

theorem refIn_any (r : BitVec 32) (c : UInt8) (w : World) :
    Calls Tryd.prog 23 #[.int .u32 (R r), .int .u8 (c.toNat : Int)] w fun e w' => e = .returned (.int .u32 (R (Crc.inB r c))) ∧ w = w' := by
  have hcw := bw_R c
  have hx := R_xor r (Crc.bw c)
  go_enter Tryd.func23, Tryd.ntmps23
  go_wp2
  go_loop [0, 5] (InRel (r ^^^ Crc.bw c)) (fun _ i => 8 - (intOf i).toNat)
  case atStart => exact ⟨0, by omega, rfl, rfl⟩
  case round =>
    obtain ⟨k, hk, rfl, rfl⟩ := hrel
    clear hx
    by_cases hlt : k < 8
    · generalize hq : Crc.shN k (r ^^^ Crc.bw c) = q
      have HQ : Hid (Crc.shN (k + 1) (r ^^^ Crc.bw c) = Crc.sh q) := by rw [← hq]; rfl
      clear hq
      have h1 := R_1 q
      rw [R_low] at h1
      have hh := R_half q
      cases hb : q.getLsbD 0
      · rw [hb, if_neg (by simp)] at h1
        have HS : Hid (Crc.sh q = q >>> 1) := Crc.sh_even hb
        clear hb
        go_wp2
        go_round
        case rel => exact ⟨k + 1, by omega, by rw [HQ.out, HS.out], by go_num⟩
        case measure => simp [intOf]; omega
      · rw [hb, if_pos rfl] at h1
        have HS : Hid (Crc.sh q = q >>> 1 ^^^ Crc.poly) := Crc.sh_odd hb
        have hp := R_poly (q >>> 1)
        clear hb
        go_wp2
        go_round
        case rel => exact ⟨k + 1, by omega, by rw [HQ.out, HS.out], by go_num⟩
        case measure => simp [intOf]; omega
    · obtain rfl : k = 8 := by omega
      go_wp2
      go_ret
      exact ⟨rfl, rfl⟩

def ExtRel (q : BitVec 32) (s : ByteArray) (t5 t6 : Value) : Prop := ∃ k : Nat, k ≤ s.size ∧ t5 = .int .u32 (R (Crc.fold q (s.data.toList.take k))) ∧ t6 = .int .i64 (k : Int)

theorem refExtend_any (x : BitVec 32) (s : ByteArray) (w : World) (hs : s.size ≤ 1000) :
    Calls Tryd.prog 16 #[.int .u32 (R x), .string s] w fun e w' => e = .returned (.int .u32 (R (Crc.ext x s.data.toList))) ∧ w = w' := by
  have h0 := R_ones x
  go_enter Tryd.func16, Tryd.ntmps16
  go_wp2
  go_loop [5, 6] (ExtRel (x ^^^ Crc.ones) s) (fun _ i => s.size - (intOf i).toNat)
  case atStart => exact ⟨0, by omega, rfl, rfl⟩
  case round =>
    obtain ⟨k, hk, rfl, rfl⟩ := hrel
    by_cases hlt : k < s.size
    · have HT : Hid (Crc.fold (x ^^^ Crc.ones) (s.data.toList.take (k + 1)) = Crc.inB (Crc.fold (x ^^^ Crc.ones) (s.data.toList.take k)) s[k]) := (congrArg (Crc.fold (x ^^^ Crc.ones)) (take_snoc s k hlt)).trans (Crc.fold_snoc _ _ _)
      generalize Crc.fold (x ^^^ Crc.ones) (s.data.toList.take k) = q at HT
      go_wp2_with (go_at_call 23; refine (refIn_any _ _ _).mono ?_; rintro e w' ⟨rfl, rfl⟩)
      go_round
      case rel => exact ⟨k + 1, by omega, by rw [HT.out], by go_num⟩
      case measure => simp [intOf]; omega
    · obtain rfl : k = s.size := by omega
      rw [List.take_of_length_le (by simp)]
      have h1 := R_ones (Crc.fold (x ^^^ Crc.ones) s.data.toList)
      go_wp2
      go_ret
      exact ⟨rfl, rfl⟩

theorem ext_zero (l : List UInt8) : Crc.ext 0#32 l = Crc.sum l := by
  unfold Crc.ext Crc.sum
  rw [BitVec.zero_xor]
theorem refExtend_zero (s : ByteArray) (w : World) (hs : s.size ≤ 1000) :
    Calls Tryd.prog 16 #[.int .u32 0, .string s] w fun e w' => e = .returned (.int .u32 (R (Crc.sum s.data.toList))) ∧ w = w' := by
  rw [← ext_zero]
  exact refExtend_any 0#32 s w hs
theorem refSum_any (s : ByteArray) (w : World) (hs : s.size ≤ 1000) :
    Calls Tryd.prog 14 #[.string s] w fun e w' => e = .returned (.int .u32 (R (Crc.sum s.data.toList))) ∧ w = w' := by
  go_enter Tryd.func14, Tryd.ntmps14
  go_wp2_with (go_at_call 16; refine (refExtend_zero _ _ hs).mono ?_; rintro e w' ⟨rfl, rfl⟩)
  go_ret
  exact ⟨rfl, rfl⟩

theorem refIn_zero (r : BitVec 32) (w : World) :
    Calls Tryd.prog 23 #[.int .u32 (R r), .int .u8 0] w fun e w' => e = .returned (.int .u32 (R (Crc.shN 8 r))) ∧ w = w' := by
  rw [← Crc.inB_zero]
  exact refIn_any r 0 w

def RJoinRel (a : BitVec 32) (n : Nat) (t0 t7 : Value) : Prop := ∃ k : Nat, k ≤ n ∧ t0 = .int .u32 (R (Crc.shN (8 * k) a)) ∧ t7 = .int .i64 (k : Int)
theorem shN_8 (k : Nat) (r : BitVec 32) : Crc.shN 8 (Crc.shN (8 * k) r) = Crc.shN (8 * (k + 1)) r := by
  rw [← Crc.shN_add, show 8 + 8 * k = 8 * (k + 1) by omega]
theorem refJoin_pos (a b : BitVec 32) (n : Nat) (hn : n ≤ 9223372036854775807) (w : World) :
    Calls Tryd.prog 18 #[.int .u32 (R a), .int .u32 (R b), .int .i64 (n : Int)] w fun e w' => e = .returned (.int .u32 (R (Crc.join a b n))) ∧ w = w' := by
  go_enter Tryd.func18, Tryd.ntmps18
  go_wp2
  go_loop [0, 7] (RJoinRel a n) (fun _ i => n - (intOf i).toNat)
  case atStart => exact ⟨0, by omega, rfl, rfl⟩
  case round =>
    obtain ⟨k, hk, rfl, rfl⟩ := hrel
    by_cases hlt : k < n
    · have HQ : Hid (Crc.shN (8 * (k + 1)) a = Crc.shN 8 (Crc.shN (8 * k) a)) := (shN_8 k a).symm
      generalize Crc.shN (8 * k) a = q at HQ
      go_wp2_with (go_at_call 23; refine (refIn_zero _ _).mono ?_; rintro e w' ⟨rfl, rfl⟩)
      go_round
      case rel => exact ⟨k + 1, by omega, by rw [HQ.out], by go_num⟩
      case measure => simp [intOf]; omega
    · obtain rfl : k = n := by omega
      have hx := R_xor (Crc.shN (8 * k) a) b
      go_wp2
      go_ret
      exact ⟨rfl, rfl⟩
theorem refJoin_neg (a b : BitVec 32) (n : Int) (hn : n ≤ 0) (w : World) :
    Calls Tryd.prog 18 #[.int .u32 (R a), .int .u32 (R b), .int .i64 n] w fun e w' => e = .returned (.int .u32 (R (a ^^^ b))) ∧ w = w' := by
  have hx := R_xor a b
  go_enter Tryd.func18, Tryd.ntmps18
  go_wp2
  refine wp_loop_rounds 1 ?_
  rw [rounds_succ]
  go_wp2
  go_ret
  exact ⟨rfl, rfl⟩
theorem refJoin_at (a b : BitVec 32) (n : Int) (hn : n ≤ 9223372036854775807) (w : World) :
    Calls Tryd.prog 18 #[.int .u32 (R a), .int .u32 (R b), .int .i64 n] w fun e w' => e = .returned (.int .u32 (R (Crc.join a b n.toNat))) ∧ w = w' := by
  by_cases h : n ≤ 0
  · rw [Int.toNat_eq_zero.2 h]
    exact refJoin_neg a b n h w
  · obtain ⟨k, rfl⟩ : ∃ k : Nat, n = (k : Int) := ⟨n.toNat, by omega⟩
    exact refJoin_pos a b k (by omega) w

theorem bytes4_sealOf (l : List UInt8) : bytes4 (R (Crc.sum l) % 256) (R (Crc.sum l) / 256 % 256) (R (Crc.sum l) / 65536 % 256) (R (Crc.sum l) / 16777216 % 256) = sealOf l := bytes4_le4 _

theorem refSeal_any (s : ByteArray) (w : World) (hs : s.size ≤ 1000) :
    Calls Tryd.prog 20 #[.string s] w fun e w' => e = .returned (.string (s ++ sealOf s.data.toList)) ∧ Below w.heap.size w w' := by
  have hcv := run_bytes4
  have hB := bytes4_sealOf s.data.toList
  have hz : (sealOf s.data.toList).size ≤ 4 := Nat.le_refl _
  go_enter Tryd.func20, Tryd.ntmps20
  go_wp2_with (go_at_call 14; refine (refSum_any _ _ hs).mono ?_; rintro e w' ⟨rfl, rfl⟩)
  go_ret
  exact ⟨rfl, (Below.refl _ _).alloc (Nat.le_refl _) _⟩

theorem refOpen_short (s : ByteArray) (w : World) (hs : s.size < 4) :
    Calls Tryd.prog 12 #[.string s] w fun e w' => e = .returned (.tuple #[.string ⟨#[]⟩, .bool false]) ∧ Below w.heap.size w w' := by
  go_enter Tryd.func12, Tryd.ntmps12
  go_wp2
  go_ret2
  exact ⟨rfl, Below.refl _ _⟩

theorem refOpen_yes (s : ByteArray) (w : World) (hs : 4 ≤ s.size) (hs' : s.size ≤ 1000) (h : ((s.extract 0 (s.size - 4) ++ sealOf (s.data.toList.take (s.size - 4))).toList == s.toList) = true) :
    Calls Tryd.prog 12 #[.string s] w fun e w' => e = .returned (.tuple #[.string (s.extract 0 (s.size - 4)), .bool true]) ∧ Below w.heap.size w w' := by
  have HZ : Hid ((s.extract 0 (s.size - 4)).size ≤ 1000) := by show (s.extract 0 (s.size - 4)).size ≤ 1000; simp; omega
  have hsub : ((s.size : Int) - 4).toNat = s.size - 4 := by omega
  go_enter Tryd.func12, Tryd.ntmps12
  go_wp2_with (go_at_call 20; refine (refSeal_any _ _ (by exact HZ.out)).mono ?_; rintro e w' ⟨rfl, hb⟩)
  go_ret2
  exact ⟨rfl, hb⟩
theorem refOpen_no (s : ByteArray) (w : World) (hs : 4 ≤ s.size) (hs' : s.size ≤ 1000) (h : ((s.extract 0 (s.size - 4) ++ sealOf (s.data.toList.take (s.size - 4))).toList == s.toList) = false) :
    Calls Tryd.prog 12 #[.string s] w fun e w' => e = .returned (.tuple #[.string ⟨#[]⟩, .bool false]) ∧ Below w.heap.size w w' := by
  have HZ : Hid ((s.extract 0 (s.size - 4)).size ≤ 1000) := by show (s.extract 0 (s.size - 4)).size ≤ 1000; simp; omega
  have hsub : ((s.size : Int) - 4).toNat = s.size - 4 := by omega
  go_enter Tryd.func12, Tryd.ntmps12
  go_wp2_with (go_at_call 20; refine (refSeal_any _ _ (by exact HZ.out)).mono ?_; rintro e w' ⟨rfl, hb⟩)
  go_ret2
  exact ⟨rfl, hb⟩

theorem refOk_eq (s : ByteArray) : ((s.extract 0 (s.size - 4) ++ sealOf (s.data.toList.take (s.size - 4))).toList == s.toList) = okL s.data.toList := by
  unfold okL
  rw [ByteArray.toList_eq, ByteArray.toList_eq, data_append, extract_list, size_list]
  rw [Bool.eq_iff_iff]
  simp only [beq_iff_eq, List.drop_zero, Nat.sub_zero, sealOf]
  constructor
  · intro e
    have := congrArg (List.drop (s.size - 4)) e
    rw [List.drop_left' (by simp)] at this
    exact this.symm
  · intro e
    conv => rhs; rw [← List.take_append_drop (s.size - 4) s.data.toList]
    rw [e]

/-- What both Opens return: the text and whether its seal is right. -/
theorem open_both (s : ByteArray) (hs' : s.size ≤ 1000) : ∃ (t : ByteArray) (ok : Bool),
    (∀ w, Tab w → Calls Tryd.prog 11 #[.string s] w fun e w' => e = .returned (.tuple #[.string t, .bool ok]) ∧ Below w.heap.size w w') ∧
    (∀ w, Calls Tryd.prog 12 #[.string s] w fun e w' => e = .returned (.tuple #[.string t, .bool ok]) ∧ Below w.heap.size w w') := by
  by_cases h4 : 4 ≤ s.size
  · cases hok : okL s.data.toList
    · exact ⟨_, _, fun w ht => open_no s w ht h4 hs' (by rw [ok_eq]; exact hok), fun w => refOpen_no s w h4 hs' (by rw [refOk_eq s]; exact hok)⟩
    · exact ⟨_, _, fun w ht => open_yes s w ht h4 hs' (by rw [ok_eq]; exact hok), fun w => refOpen_yes s w h4 hs' (by rw [refOk_eq s]; exact hok)⟩
  · exact ⟨_, _, fun w _ => (open_short s w (by omega)).mono fun e w' ⟨he, hw⟩ => ⟨he, hw ▸ Below.refl _ _⟩, fun w => refOpen_short s w (by omega)⟩
end Go.Proofs.YtimpidacckifjaaDoor
