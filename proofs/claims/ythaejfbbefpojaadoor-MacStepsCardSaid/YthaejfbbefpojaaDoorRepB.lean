/-
  Contract of strings.Repeat at the text of one byte 0: so many bytes 0. Condition: at most 2^17 bytes.
-/
import Derived.Deep.LoopGhost
import Derived.Deep.DeepCutAuto
import Derived.Test.YthaejfbbefpojaaDoorRepA
namespace Go.Proofs.YthaejfbbefpojaaDoor
open Go.RowKit Go.Shelf

def mul_ren : Go.Shelf.Ren := ⟨fun | 212 => 57 | 263 => 64 | 264 => 65 | n => n, fun | 46 => 67 | 51 => 50 | 53 => 66 | 146 => 102 | 148 => 104 | n => n, fun | n => n⟩
theorem mul_lays : Go.Proofs.Lays.n212 Tryd.prog mul_ren := {
  mixed := by kernel_rfl
  f212 := Tryd.func57.trans (congrArg some (by kernel_rfl))
  f263 := Tryd.func64.trans (congrArg some (by kernel_rfl))
  f264 := Tryd.func65.trans (congrArg some (by kernel_rfl))
  t46 := Tryd.underlying67
  a46 := Tryd.isAgg67
  z46 := Tryd.sizeOf67
  v46 := Tryd.zeroValue67
  t51 := Tryd.underlying50
  a51 := Tryd.isAgg50
  z51 := Tryd.sizeOf50
  v51 := Tryd.zeroValue50
  t53 := Tryd.underlying66
  a53 := Tryd.isAgg66
  z53 := Tryd.sizeOf66
  v53 := Tryd.zeroValue66
  t146 := Tryd.underlying102
  a146 := Tryd.isAgg102
  z146 := Tryd.sizeOf102
  v146 := Tryd.zeroValue102
  t148 := Tryd.underlying104
  a148 := Tryd.isAgg104
  z148 := Tryd.sizeOf104
  v148 := Tryd.zeroValue104 }
theorem mul_any (x y : Nat) (h : x * y ≤ 1000000000) (hx : x ≤ 1000000000) (hy : y ≤ 1000000000) (w : World) :
    Calls Tryd.prog 57 #[.int .u64 (x : Int), .int .u64 (y : Int)] w fun e w' => e = .returned (.tuple #[.int .u64 0, .int .u64 ((x * y : Nat) : Int)]) ∧ w = w' := by
  have h0 := Go.Proofs.Any.bits_Mul mul_lays x y (by omega) (by omega) w
  rw [Nat.div_eq_of_lt (by omega : x * y < 18446744073709551616), Nat.mod_eq_of_lt (by omega : x * y < 18446744073709551616)] at h0
  exact h0.mono fun e w' ⟨he, hw⟩ => ⟨he, hw.symm⟩

theorem min3 {P : Program} {w : World} (ts : Array TypeId) (t : TypeId) (a b c m : Nat) (h : m = min a (min b c)) :
    (Builtin.min_ ts t #[.int .i64 (a : Int), .int .i64 (b : Int), .int .i64 (c : Int)]).run P w = .ok (.int .i64 (m : Int)) w := by
  have e : (.int .i64 (m : Int) : Value) = .int .i64 (if (c : Int) < (if (b : Int) < (a : Int) then (b : Int) else (a : Int)) then (c : Int) else (if (b : Int) < (a : Int) then (b : Int) else (a : Int))) := by
    congr 1
    subst h
    repeat' split
    all_goals omega
  rw [e]
  simp [Builtin.min_, Builtin.min2]

/-- So many bytes 0. -/
def zb (n : Nat) : List UInt8 := List.replicate n 0
theorem zb_len (n : Nat) : (zb n).length = n := by simp [zb]
theorem zb_add (a b : Nat) : zb a ++ zb b = zb (a + b) := by simp [zb, List.replicate_append_replicate]
theorem zb_take (n k : Nat) (h : k ≤ n) : (zb n).take k = zb k := by simp [zb, List.take_replicate, Nat.min_eq_left h]
theorem zb_cut (n k : Nat) (h : k ≤ n) : (ba (zb n)).extract 0 k = ba (zb k) := by rw [ext_take, ba_list, zb_take n k h]

theorem cells_zb (a b : Nat) : Lib.byteCells (zb a) ++ Lib.strCells (ba (zb b)) = Lib.byteCells (zb (a + b)) := by
  rw [Lib.strCells_eq, ba_list, ← Lib.byteCells_append, zb_add]

set_option maxRecDepth 1000000 in
set_option maxHeartbeats 2000000 in
theorem repeat_many (n : Nat) (w : World) (h2 : 2 ≤ n) (hn : n ≤ 131072) :
    Calls Tryd.prog 48 #[.string ⟨#[0]⟩, .int .i64 (n : Int)] w fun e w' => e = .returned (.string (ba (zb n))) ∧ Below w.heap.size w w' := by
  have hM := Lib.hid (mul_any 1 n (by omega) (by omega) (by omega) w)
  rw [Nat.one_mul] at hM
  have b0 : Below w.heap.size w (w.alloc (.cells #[.pointer none, .slice none 0 0] 71)) := (Below.refl _ w).alloc (Nat.le_refl _) _
  have hG := Lib.hid (bld_Grow w.heap.size w.heap.size n (w.alloc (.cells #[.pointer none, .slice none 0 0] 71)) (Nat.le_refl _) (heap_alloc_new w _) b0.size (by omega) (by omega))
  have HB0 := Lib.hid b0
  clear b0
  have hn0 : ¬ ((n : Int) = 0) := by omega
  have hn1 : ¬ ((n : Int) = 1) := by omega
  have hn2 : ¬ ((n : Int) < 0) := by omega
  have hn3 : ¬ (9223372036854775807 < (n : Int)) := by omega
  obtain ⟨CM, hCM1, hCM⟩ : ∃ CM : Nat, 1 ≤ CM ∧ ((8192 < (n : Int) ∧ CM = 8192) ∨ (¬ 8192 < (n : Int) ∧ CM = n)) := by
    by_cases h : 8192 < (n : Int)
    · exact ⟨8192, by omega, .inl ⟨h, rfl⟩⟩
    · exact ⟨n, by omega, .inr ⟨h, rfl⟩⟩
  have HZ : Hid ((⟨#[0]⟩ : ByteArray) = ba (zb 1)) := by show _ = _; rfl
  go_enter Tryd.func48, Tryd.ntmps48
  go_upto_if 96 with (go_at_call 57; refine hM.out.mono ?_; rintro e w' ⟨rfl, rfl⟩)
  go_cut [8] (fun s8 wx => w = wx ∧ s8 = .int .i64 (CM : Int))
  case first =>
    rcases hCM with ⟨hb, rfl⟩ | ⟨hb, rfl⟩
    · go_wp2_with fail
      go_meet
      exact ⟨rfl, rfl⟩
    · go_wp2_with fail
      go_meet
      exact ⟨rfl, rfl⟩
  case rest =>
    obtain ⟨rfl, rfl⟩ := hcut
    clear hCM
    go_wp2_with (first
      | (go_at_call 38; refine hG.out.mono ?_; rintro e W1 ⟨rfl, h1, b1⟩; have hW := Lib.hid (bldF_write w.heap.size w.heap.size [] ⟨#[0]⟩ W1 (Lib.IsBuilderF.of (Or.inr h1)) (by decide) (Nat.le_trans HB0.out.size b1.size)); have HB1 := Lib.hid (HB0.out.trans b1); clear h1 b1)
      | (go_at_call 59; refine hW.out.mono ?_; rintro e W2 ⟨rfl, h2', b2⟩))
    have hB2 : BldF w.heap.size w.heap.size (zb 1) W2 := h2'
    have HB2 := Lib.hid (HB1.out.trans b2)
    clear h2' b2 hW hM hG
    go_loopg [] (n - 1) (fun g wx => ∃ q : Nat, 1 ≤ q ∧ q + g = n ∧ BldF w.heap.size w.heap.size (zb q) wx ∧ Below w.heap.size w wx)
    case atStart => exact ⟨1, Nat.le_refl _, by omega, hB2, HB2.out⟩
    case round =>
      obtain ⟨q, hq1, hqg, hB, hbx⟩ := hrel
      have cLen := Lib.hid (bldF_len w.heap.size w.heap.size _ wr hB)
      rw [Lib.byteCells_length, zb_len] at cLen
      have cStr := Lib.hid (Go.Proofs.Any.Builder_String_any_f bld_lays bld_extra w.heap.size w.heap.size (zb q) wr hB hbx.size)
      obtain ⟨S, hS⟩ : ∃ S : ByteArray, (⟨(zb q).toArray⟩ : ByteArray) = S := ⟨_, rfl⟩
      have hSq : S = ba (zb q) := hS.symm
      have hSs : S.size = q := by rw [hSq, ba_size, zb_len]
      rw [hS] at cStr
      have HS := Lib.hid hSq
      have HX := Lib.hid hbx
      clear hS hSq hbx hB HB2 hB2
      cases gk with
      | zero =>
        obtain rfl : q = n := by omega
        go_wp2_with (first
          | (go_at_call 60; refine cLen.out.mono ?_; rintro e w' ⟨rfl, rfl⟩)
          | (go_at_call 40; refine cStr.out.mono ?_; rintro e W3 ⟨rfl, h3, b3⟩))
        go_ret
        exact ⟨by rw [HS.out]; rfl, HX.out.trans b3⟩
      | succ g =>
        obtain ⟨k, hk⟩ : ∃ k, k = min (n - q) (min q CM) := ⟨_, rfl⟩
        have hk1 : 1 ≤ k := by omega
        have hkq : k ≤ q := by omega
        have hkn : q + k ≤ n := by omega
        have hqn : (q : Int) < (n : Int) := by omega
        have hmin : ∀ (ts : Array TypeId) (t : TypeId) (W : World), (Builtin.min_ ts t #[.int .i64 ((n : Int) - (q : Int)), .int .i64 (q : Int), .int .i64 (CM : Int)]).run Tryd.prog W = .ok (.int .i64 (k : Int)) W := fun ts t W => by
          rw [show (n : Int) - (q : Int) = ((n - q : Nat) : Int) by omega]
          exact min3 ts t _ _ _ k hk
        clear hk
        go_wp2_with (first
          | (go_at_call 60; refine cLen.out.mono ?_; rintro e w' ⟨rfl, rfl⟩)
          | (go_at_call 40; refine cStr.out.mono ?_; rintro e W3 ⟨rfl, h3, b3⟩; have hW := Lib.hid (bldF_write w.heap.size w.heap.size _ (S.extract 0 k) W3 h3 (by rw [Lib.byteCells_length, zb_len]; simp; omega) (Nat.le_trans HX.out.size b3.size)))
          | (go_at_call 59; refine hW.out.mono ?_; rintro e W4 ⟨rfl, h4, b4⟩))
        go_roundg (n - (q + k))
        case measure => omega
        case rel =>
          refine ⟨q + k, by omega, by omega, ?_, HX.out.trans (b3.trans b4)⟩
          rw [HS.out, zb_cut q k hkq, cells_zb] at h4
          exact h4
set_option maxRecDepth 1000000 in
theorem repeat_any (n : Nat) (w : World) (hn : n ≤ 131072) :
    Calls Tryd.prog 48 #[.string ⟨#[0]⟩, .int .i64 (n : Int)] w fun e w' => e = .returned (.string (ba (zb n))) ∧ Below w.heap.size w w' := by
  by_cases h0 : n = 0
  · subst h0
    go_enter Tryd.func48, Tryd.ntmps48
    go_wp2
    go_ret
    exact ⟨rfl, Below.refl _ _⟩
  · by_cases h1 : n = 1
    · subst h1
      go_enter Tryd.func48, Tryd.ntmps48
      go_wp2
      go_ret
      exact ⟨rfl, Below.refl _ _⟩
    · exact repeat_many n w (by omega) hn
end Go.Proofs.YthaejfbbefpojaaDoor
