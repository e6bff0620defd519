/-
  Contracts of address.oneOf, of the closure that it returns, of consists, lower, withoutTag, without. Condition: texts of at most 1000000 bytes; one variable of the library's holds some number.
-/
import Derived.Lib.OthersKept
import Derived.Test.YtpcbbmafallogaaDoorAdL
import Derived.Test.YtpcbbmafallogaaDoorAdJ
import Derived.Test.YtpcbbmafallogaaDoorByt
namespace Go.Proofs.YtpcbbmafallogaaDoor
open Go.RowKit

/-- The closure that oneOf returns: the box of its set lies at b. -/
def isIn (b : Nat) : Value := .func (.func 59) #[] #[.pointer (some ⟨b, 0, none⟩)]
theorem in_any (b : Nat) (S : ByteArray) (c : UInt8) (w : World) (hb : w.cell? ⟨b, 0, none⟩ = some (.string S)) :
    Calls Tryd.prog 59 #[.int .u8 (c.toNat : Int), .pointer (some ⟨b, 0, none⟩)] w fun e w' => e = .returned (.bool (S.data.toList.contains c)) ∧ w' = w := by
  have HI := Lib.hid (index_any S c w)
  have hx := Ad.indexByte_eq S.data.toList c
  obtain ⟨v, hv⟩ : ∃ v, Lib.indexByte S.data.toList c = v := ⟨_, rfl⟩
  rw [hv] at HI hx
  have hd : decide (0 ≤ v) = S.data.toList.contains c := by
    rw [hx]
    cases S.data.toList.contains c with
    | true => simp
    | false => rfl
  generalize S.data.toList.contains c = r at hd ⊢
  clear hx hv
  go_enter Tryd.func59, Tryd.ntmps59
  go_wp2_with fail
  refine HI.out.mono ?_
  rintro e w1 ⟨rfl, rfl⟩
  go_wp2_with fail
  go_ret
  exact ⟨rfl, rfl⟩

theorem oneof3 (x y z : ByteArray) (g : Nat) (w : World) (hg : Blk w g 9 #[.string x, .string y, .string z]) (h1 : 1 ≤ x.size + y.size + z.size) (h2 : x.size + y.size + z.size ≤ 1000) :
    Calls Tryd.prog 46 #[.slice (some ⟨g, 0, none⟩) 3 3] w fun e w' => ∃ b, e = .returned (isIn b) ∧ w'.cell? ⟨b, 0, none⟩ = some (.string (x ++ y ++ z)) ∧ Below w.heap.size w w' := by
  have HJ := Lib.hid (join3 x y z g w hg h1 h2)
  generalize x ++ y ++ z = S at HJ ⊢
  clear hg h1 h2
  go_enter Tryd.func46, Tryd.ntmps46
  go_wp2_with fail
  refine HJ.out.mono ?_
  rintro e w1 ⟨rfl, hb⟩
  have HB := Lib.hid hb
  clear hb HJ
  go_wp2_with fail
  go_ret
  exact ⟨_, rfl, (Blk.new w1 _ _).cell 0, HB.out.alloc HB.out.size _⟩

set_option maxRecDepth 100000 in
theorem join1 (x : ByteArray) (g : Nat) (w : World) (hg : w.cell? ⟨g, 0, none⟩ = some (.string x)) :
    Calls Tryd.prog 58 #[.slice (some ⟨g, 0, none⟩) 1 1, .string ⟨#[]⟩] w fun e w' => e = .returned (.string x) ∧ w' = w := by
  go_enter Tryd.func58, Tryd.ntmps58
  go_wp2_with fail
  go_ret
  exact ⟨rfl, rfl⟩
theorem oneof1 (x : ByteArray) (g : Nat) (w : World) (hg : w.cell? ⟨g, 0, none⟩ = some (.string x)) :
    Calls Tryd.prog 46 #[.slice (some ⟨g, 0, none⟩) 1 1] w fun e w' => ∃ b, e = .returned (isIn b) ∧ w'.cell? ⟨b, 0, none⟩ = some (.string x) ∧ Below w.heap.size w w' := by
  have HJ := Lib.hid (join1 x g w hg)
  clear hg
  go_enter Tryd.func46, Tryd.ntmps46
  go_wp2_with fail
  refine HJ.out.mono ?_
  rintro e w1 ⟨rfl, rfl⟩
  clear HJ
  go_wp2_with fail
  go_ret
  exact ⟨_, rfl, (Blk.new w1 _ _).cell 0, (Below.refl _ _).alloc (Nat.le_refl _) _⟩

theorem all_take_succ (p : UInt8 → Bool) (l : List UInt8) (k : Nat) (h : k < l.length) : (l.take (k + 1)).all p = ((l.take k).all p && p l[k]) := by
  rw [List.take_succ_eq_append_getElem h, List.all_append]
  simp
theorem all_false (p : UInt8 → Bool) (l : List UInt8) (k : Nat) (h : k < l.length) (hp : p l[k] = false) : l.all p = false := by
  rw [List.all_eq_false]
  exact ⟨l[k], List.getElem_mem h, by rw [hp]; decide⟩
set_option maxRecDepth 100000 in
theorem consists_any (s : ByteArray) (b : Nat) (S : ByteArray) (p : UInt8 → Bool) (w : World) (hs : s.size ≤ 1000000) (hb : w.cell? ⟨b, 0, none⟩ = some (.string S)) (hp : ∀ c, S.data.toList.contains c = p c) :
    Calls Tryd.prog 45 #[.string s, isIn b] w fun e w' => e = .returned (.bool (s.data.toList.all p)) ∧ w' = w := by
  unfold isIn
  have HI := Lib.hid (fun c => in_any b S c w hb)
  simp only [hp] at HI
  obtain ⟨L, hL⟩ : ∃ L, s.data.toList = L := ⟨_, rfl⟩
  have hLl : L.length = s.size := by rw [← hL]; simp
  have HL := Lib.hid hL
  have HP := Lib.hid hp
  rw [hL]
  clear hL hb hp
  go_enter Tryd.func45, Tryd.ntmps45
  go_wp2_with fail
  go_loopw [5, 8] (fun _ i wr => wr = w ∧ ∃ k : Nat, i = .int .i64 (k : Int) ∧ k ≤ s.size ∧ (L.take k).all p = true) (fun _ i _ => s.size - (intOf i).toNat)
  case atStart => exact ⟨rfl, 0, rfl, by omega, rfl⟩
  case round =>
    obtain ⟨hwr, k, rfl, hk, hall⟩ := hrel
    obtain rfl : w = wr := hwr.symm
    clear hwr
    by_cases hlt : k < s.size
    · have hki : (k : Int) < (s.size : Int) := by omega
      have hkL : k < L.length := by omega
      have hsx : L[k] = s[k] := by
        have h1 := HL.out
        subst h1
        simp
        rfl
      obtain ⟨x, hx⟩ : ∃ x, s[k] = x := ⟨_, rfl⟩
      rw [hx] at hsx
      have HA := Lib.hid (all_take_succ p L k hkL)
      have HF := Lib.hid (all_false p L k hkL)
      rw [hsx] at HA HF
      have HC := Lib.hid (HI.out x)
      clear hsx HI
      obtain ⟨r, hr⟩ : ∃ r, p x = r := ⟨_, rfl⟩
      rw [hr] at HA HF HC
      have HALL := Lib.hid hall
      clear hall
      go_wp2_with fail
      refine HC.out.mono ?_
      rintro e w1 ⟨rfl, rfl⟩
      clear HC
      cases r with
      | true =>
        go_wp2_with fail
        go_roundw
        case rel => exact ⟨trivial, k + 1, by go_num, by omega, by rw [HA.out, HALL.out]; rfl⟩
        case measure => simp [intOf]; omega
      | false =>
        go_wp2_with fail
        go_ret
        exact ⟨by rw [HF.out trivial]; rfl, rfl⟩
    · obtain rfl : k = s.size := by omega
      rw [List.take_of_length_le (by omega)] at hall
      go_wp2_with fail
      go_ret
      exact ⟨by rw [hall]; rfl, rfl⟩
end Go.Proofs.YtpcbbmafallogaaDoor
