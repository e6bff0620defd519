/-
  Contracts of sha.bigEndian and of sha.size. Condition: the numbers and the parts lie in memory; at most 1000000 of them, and bytes of the parts.
-/
import Derived.LoopTactic
import Derived.BigRegion
import Derived.Test.YthaejfbbefpojaaDoorWords
import Derived.Test.YthaejfbbefpojaaDoorApp
import Derived.Test.YthaejfbbefpojaaDoorShW
namespace Go.Proofs.YthaejfbbefpojaaDoor
open Go.RowKit

theorem out_snoc (l : Sh.V) (x : BitVec 32) : Sh.out (l ++ [x]) = Sh.out l ++ Sh.out4 x := by simp [Sh.out]
theorem out_take (l : Sh.V) (i : Nat) (h : i < l.length) : Sh.out (l.take (i + 1)) = Sh.out (l.take i) ++ Sh.out4 (l.getD i 0) := by
  rw [take_more l i h, out_snoc]
  simp [h]
theorem cb_out4 (x : BitVec 32) : cb (Sh.out4 x) = [.int .u8 (R x / 16777216 % 256), .int .u8 (R x / 65536 % 256), .int .u8 (R x / 256 % 256), .int .u8 (R x % 256)] := by
  simp only [Sh.out4, cb, List.map_cons, List.map_nil, R, UInt8.toNat_ofNat']
  congr <;> omega

set_option maxRecDepth 100000 in
set_option maxHeartbeats 4000000 in
theorem bigEndian_any (l : Sh.V) (hl : l.length ≤ 1000000) (A : Option Addr) (c : Nat) (w : World) (hA : Lies (fun _ => False) w A (ru l).toList) :
    Calls Tryd.prog 34 #[.slice A l.length c] w fun e w' => e = .returned (.string (ba (Sh.out l))) ∧ Below w.heap.size w w' := by
  obtain ⟨i0, hi, hz0, hz1, hz2⟩ := info_u8
  go_enter Tryd.func34, Tryd.ntmps34
  go_wp2_with (refine wpList_make_own _ rfl _ _ 27 rfl w.heap.size 5 i0 (.int .u8 0) 1 Tryd.underlying27 hi hz0 hz1 .i64 .i64 _ (4 * l.length) rfl rfl (by omega) (by rw [hz2]; omega) (by unfold maxLen; omega) (Nat.le_refl _) ?_)
  intro w1 hown1 hg1
  have hK1 := Kept.grown (S := fun _ => False) (Kept.refl _ w) hg1 (by simp)
  have hb1 : Below w.heap.size w w1 := Kept.below (Below.refl _ w) hK1 (by simp) (Nat.le_refl _)
  have hsz1 : w.heap.size ≤ w1.heap.size := hb1.size
  have hA1 := lies_off (S := fun b => w.heap.size ≤ b) hA hb1 (fun _ h => h)
  clear hK1 hg1
  go_wp2_with fail
  go_loopw [3, 5, 12] (fun v _ i wr => ∃ (k : Nat) (A' : Option Addr) (c' : Nat), i = .int .i64 k ∧ k ≤ l.length ∧ v = .slice A' (Sh.out (l.take k)).length c' ∧ wr.ownsRow w.heap.size 5 1 v (Sh.out (l.take k)).length (cb (Sh.out (l.take k))) ∧ Lies (fun b => w.heap.size ≤ b) wr A (ru l).toList ∧ Below w.heap.size w wr)
    (fun _ _ i _ => l.length - (intOf i).toNat)
  case atStart => exact ⟨0, _, _, rfl, by omega, rfl, hown1, hA1, hb1⟩
  case round =>
    obtain ⟨k, A', c', rfl, hk, rfl, hown, hAr, hb⟩ := hrel
    by_cases hlt : k < l.length
    · have hget : (ru l).toList[k]? = some (.int .u32 (R (l.getD k 0))) := by have := ru_getD l k hlt; simpa using this
      obtain ⟨a, hAa, _, _, ha3⟩ := hAr k _ hget
      subst hAa
      have HE := Lib.hid (out_take l k hlt)
      have HO := Lib.hid (cb_out4 (l.getD k 0))
      have hlen : (Sh.out (l.take k)).length = 4 * k := by rw [Sh.out_length, List.length_take]; omega
      generalize l.getD k 0 = x at ha3 HE HO
      have HAr := Lib.hid hAr
      have Hb := Lib.hid hb
      have Hown := Lib.hid hown
      have hki : (k : Int) < (l.length : Int) := by omega
      generalize Sh.out (l.take k) = o at hlen Hown HE
      clear hAr hb hown
      go_wp2_with (at_builtin; refine wpList_append_own _ rfl _ _ 27 rfl w.heap.size 5 i0 (.int .u8 0) 1 1 Tryd.underlying27 hi hz0 hz1 hz2 rfl (by decide) _ _ _ rfl (Hown.out.alloc _) ⟨wr.heap.size, 0, none⟩ 4 4 (cb (Sh.out4 x)) rfl rfl ?c1 ?c2 ?c3 ?c4 ?c5 ?_)
      case c1 =>
        rw [HO.out]
        intro j u hj
        match j, hj with
        | 0, hj => simp at hj; subst hj; rfl
        | 1, hj => simp at hj; subst hj; rfl
        | 2, hj => simp at hj; subst hj; rfl
        | 3, hj => simp at hj; subst hj; rfl
      case c2 => exact cb_one _
      case c3 => unfold maxLen; omega
      case c4 => omega
      case c5 => have := Hb.out.size; simp; omega
      intro v' w2 hown' hgrow _
      have hl4 : 4 * k + 4 = (Sh.out (l.take (k + 1))).length := by rw [Sh.out_length, List.length_take]; omega
      rw [← show cb (o ++ Sh.out4 x) = cb o ++ cb (Sh.out4 x) by simp [cb], ← HE.out, hl4] at hown'
      obtain ⟨A2, c2, rfl⟩ := own_form hown'
      have hown2 := Lib.hid hown'
      have hsz := Hb.out.size
      have hK2 := Lib.hid (Kept.grown (S := fun b => w.heap.size ≤ b) (Kept.alloc (Kept.refl _ wr) _) hgrow (fun b hb => .inl (own_base Hown.out (b := b) (by rw [hlen]; exact hb))))
      have hHb := Lib.hid (Kept.below Hb.out hK2.out (fun _ h => h) hsz)
      have hAr2 := Lib.hid (HAr.out.kept hK2.out)
      clear hown' hgrow
      go_wp2_with fail
      go_roundw
      case rel => exact ⟨k + 1, A2, c2, by go_num, by omega, rfl, hown2.out, hAr2.out, hHb.out⟩
      case measure => simp [intOf]; omega
    · obtain rfl : k = l.length := by omega
      rw [List.take_length] at hown
      have HT := run_own_text hown
      have Hb := Lib.hid hb
      clear hown hAr hb
      go_wp2_with fail
      go_ret
      exact ⟨rfl, Hb.out⟩
end Go.Proofs.YthaejfbbefpojaaDoor
