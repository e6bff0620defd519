/-
  Contract of the document's Hex: two digits of each byte. Condition: a text of 100000 bytes at most.
-/
import Derived.Test.YthaejfbbefpojaaDoorShK
import Derived.Test.YthaejfbbefpojaaDoorShH
import Derived.Deep.RegionHeld3
namespace Go.Proofs.YthaejfbbefpojaaDoor
open Go.RowKit

theorem ref_sum_of (s : ByteArray) (hs : s.size ≤ 100000) (w : World) :
    Calls Tryd.prog 17 #[.string s] w fun e w' => e = .returned (.string (ba (dig s.data.toList))) ∧ Below w.heap.size w w' := by
  have h := ref_sum s.data.toList (by simpa using hs) w
  rw [ba_back] at h
  exact h
theorem own2 (wd : World) (t : TypeId) (v0 v1 : Value) : ∀ j u, ([v0, v1] : List Value)[j]? = some u → (wd.alloc (.cells #[v0, v1] t)).cell? ((⟨wd.heap.size, 0, none⟩ : Addr).add j) = some u := by
  intro j u hj
  have hadd : (⟨wd.heap.size, 0, none⟩ : Addr).add j = ⟨wd.heap.size, j, none⟩ := by unfold Addr.add; split <;> simp_all
  rw [hadd, (Blk.new wd _ _).cell]
  simpa using hj
def digits16 : ByteArray := ⟨#[48, 49, 50, 51, 52, 53, 54, 55, 56, 57, 97, 98, 99, 100, 101, 102]⟩
theorem digit_tab : ∀ j : Fin 16, digits16.data.toList.getD j.val 0 = Sh.digit j.val := by decide
theorem digit_at (y : Nat) (h : y < 16) (W : World) : (Instr.index 9 (.string digits16) (.int .u8 (y : Int))).run Tryd.prog W = .ok (.int .u8 ((Sh.digit y).toNat : Int)) W := by
  have hz : digits16.size = 16 := rfl
  rw [run_index_string W 9 digits16 .u8 (y : Int) Tryd.underlying9, dif_pos ⟨by omega, by omega⟩]
  have h1 : digits16.data.toList[y]? = some (digits16[y]'(by omega)) := by simp [hz, h]; rfl
  have h2 : digits16.data.toList.getD y 0 = digits16[y]'(by omega) := by rw [List.getD_eq_getElem?_getD, h1]; rfl
  rw [← digit_tab ⟨y, h⟩, h2]
  rfl
theorem byte_in (s : ByteArray) (i : Nat) (hi : i < s.size) (W : World) : (Instr.index 9 (.string s) (.int .i64 (i : Int))).run Tryd.prog W = .ok (.int .u8 ((s.data.toList.getD i 0).toNat : Int)) W := by
  rw [byte_at s i hi W, R_zw]
set_option maxRecDepth 100000 in
set_option maxHeartbeats 4000000 in
theorem ref_hex (s : ByteArray) (hs : s.size ≤ 100000) (w : World) :
    Calls Tryd.prog 19 #[.string s] w fun e w' => e = .returned (.string (ba (Sh.hex s.data.toList))) ∧ Below w.heap.size w w' := by
  obtain ⟨i0, hi, hz0, hz1, hz2⟩ := info_u8
  have hsl : s.data.toList.length = s.size := by simp
  go_enter Tryd.func19, Tryd.ntmps19
  go_wp2_with fail
  have HDG := Lib.hid digit_at
  have HDS : digits16.size = 16 := rfl
  rw [show (⟨#[48, 49, 50, 51, 52, 53, 54, 55, 56, 57, 97, 98, 99, 100, 101, 102]⟩ : ByteArray) = digits16 from rfl]
  generalize digits16 = D at HDG HDS ⊢
  go_loopw [4, 5] (fun v i wr => ∃ (k : Nat) (A' : Option Addr) (c' : Nat), i = .int .i64 (k : Int) ∧ k ≤ s.size ∧ v = .slice A' (Sh.hex (s.data.toList.take k)).length c' ∧ wr.ownsRow w.heap.size 5 1 v (Sh.hex (s.data.toList.take k)).length (cb (Sh.hex (s.data.toList.take k))) ∧ Below w.heap.size w wr)
    (fun _ i _ => s.size - (intOf i).toNat)
  case atStart => exact ⟨0, none, 0, rfl, by omega, rfl, World.ownsRow_nil _ _ _ _, Below.refl _ _⟩
  case round =>
    obtain ⟨k, A', c', rfl, hk, rfl, hown, hb⟩ := hrel
    by_cases hlt : k < s.size
    · have HE := Lib.hid (hex_take s.data.toList k (by omega))
      have hlen : (Sh.hex (s.data.toList.take k)).length = 2 * k := by rw [Sh.hex_length, List.length_take]; omega
      have hlen2 : Hid (2 * k + 2 = (Sh.hex (s.data.toList.take (k + 1))).length) := Lib.hid (by rw [Sh.hex_length, List.length_take]; omega)
      have hB := byte_in s k hlt
      have hxe : s.data.toList.getD k 0 = s.data.toList[k] := by simp [List.getD_eq_getElem?_getD, hlt]
      rw [hxe] at hB
      have hx256 := s.data.toList[k].toNat_lt
      generalize s.data.toList[k] = x at HE hB hx256
      have hD1 := HDG.out (x.toNat / 16) (by omega)
      have hD2 := HDG.out (x.toNat % 16) (by omega)
      generalize x.toNat = y at HE hB hx256 hD1 hD2
      have e1 : (y : Int) / 16 = ((y / 16 : Nat) : Int) := by omega
      have e2 : (y : Int).tmod 16 = ((y % 16 : Nat) : Int) := by rw [Int.tmod_eq_emod_of_nonneg (by omega)]; omega
      have hy1 : y / 16 < 16 := by omega
      have hy2 : y % 16 < 16 := by omega
      generalize y / 16 = y1 at HE hD1 e1 hy1
      generalize y % 16 = y2 at HE hD2 e2 hy2
      have hy3 : (y1 : Int) < 16 := by omega
      have hy4 : (y2 : Int) < 16 := by omega
      have hw1 : IntKind.u8.wrap (y1 : Int) = (y1 : Int) := by rw [IntKind.wrap_u8]; omega
      have hw2 : IntKind.u8.wrap (y2 : Int) = (y2 : Int) := by rw [IntKind.wrap_u8]; omega
      rw [hlen] at hown ⊢
      have hn63 : 2 * k + 2 ≤ maxLen := by unfold maxLen; omega
      have hnb : (2 * k + 2) * 1 ≤ 140737488355328 := by omega
      have hgw2 := hb.size
      have Hown := Lib.hid hown
      have Hb := Lib.hid hb
      have ki : (k : Int) < (s.size : Int) := by omega
      have HDA := Lib.hid (cb_one [Sh.digit y1, Sh.digit y2])
      clear hlen
      generalize Sh.hex (s.data.toList.take k) = o at Hown HE
      clear hown hb hxe
      go_wp2_with fail
      go_region_held3 (fun _ => True)
        (first | go_keep | trivial)
        ((refine step_append_lies _ (by rfl) _ _ _ (by rfl) w.heap.size 5 i0 _ 1 1 Tryd.underlying27 hi hz0 hz1 hz2 rfl (by omega) (.slice A' (2 * k) c') (2 * k) (cb o) (by rfl) ((Hown.out.alloc _).drew) ⟨wr.heap.size, 0, none⟩ 2 2 (cb [Sh.digit y1, Sh.digit y2]) (by rfl) (by rfl) (World.news_of_block (cs := (cb [Sh.digit y1, Sh.digit y2]).toArray) (t := 5) (fr := (0, 0)) (heap_alloc_new wr _)) (HDA.out) (by omega) hn63 hnb (by simp; omega) (wr.heap.size + 1) (by simp) ?_; intro g' cap w2 hown' hgrow hgo hlt'))
      all_goals
        rw [← show cb (o ++ [Sh.digit y1, Sh.digit y2]) = cb o ++ cb [Sh.digit y1, Sh.digit y2] by simp [cb], show o ++ [Sh.digit y1, Sh.digit y2] = o ++ [Sh.digit y1] ++ [Sh.digit y2] by simp, ← HE.out] at hown'
        have hown2 := Lib.hid hown'
        have hK2 := Lib.hid (Kept.grown (S := fun b => w.heap.size ≤ b) (Kept.drew (Kept.alloc (Kept.refl _ wr) _)) hgrow (fun b hb => .inl (own_base Hown.out (b := b) hb)))
        have hHb := Lib.hid (Kept.below Hb.out hK2.out (fun _ h => h) Hb.out.size)
        clear hown' hgrow
        go_wp2_with fail
        go_roundw
        case rel => exact ⟨k + 1, _, _, by go_num, by omega, by rw [← hlen2.out], by rw [← hlen2.out]; exact hown2.out, hHb.out⟩
        case measure => simp [intOf]; omega
    · obtain rfl : k = s.size := by omega
      rw [List.take_of_length_le (by omega)] at hown
      have HCV := run_own_text hown
      rw [List.take_of_length_le (by omega)]
      have HBE := Lib.hid hb
      clear hown hb
      go_wp2_with fail
      go_ret
      exact ⟨rfl, HBE.out⟩
end Go.Proofs.YthaejfbbefpojaaDoor
