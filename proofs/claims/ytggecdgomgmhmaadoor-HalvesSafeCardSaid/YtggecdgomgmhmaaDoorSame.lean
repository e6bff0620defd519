/-
  Contract of the document's own comparison of two rows of texts (homecomingref03.Same). Condition: both lie in memory.
-/
import Derived.Test.YtggecdgomgmhmaaDoorWords
namespace Go.Proofs.YtggecdgomgmhmaaDoor
open Go.RowKit

/-- Where the loop of Same stands. -/
def SameRel (w : World) (n : Nat) (l m : List ByteArray) (x : Value) (wr : World) : Prop := ∃ j : Nat, j ≤ n ∧ x = .int .i64 (j : Int) ∧ l.take j = m.take j ∧ Below w.heap.size w wr
theorem take_eq_step {α : Type} {l m : List α} {j : Nat} (h : l.take j = m.take j) (hl : j < l.length) (hm : j < m.length) (e : l[j] = m[j]) : l.take (j + 1) = m.take (j + 1) := by
  rw [take_more l j hl, take_more m j hm, h, e]
theorem same_n (w : World) (A1 A2 : Option Addr) (c1 c2 n : Nat) (l m : List ByteArray) (hl : l.length = n) (hm : m.length = n) (hn : n ≤ 1000000) (hA : Lies (fun _ => False) w A1 (cs l)) (hB : Lies (fun _ => False) w A2 (cs m)) :
    Calls Tryd.prog 16 #[.slice A1 n c1, .slice A2 n c2] w fun e w' => e = .returned (.bool (decide (l = m))) ∧ Below w.heap.size w w' := by
  have HA := Lib.hid hA
  have HB := Lib.hid hB
  have HL := Lib.hid hl
  have HM := Lib.hid hm
  clear hA hB hl hm
  go_enter Tryd.func16, Tryd.ntmps16
  go_wp2_with fail
  go_loopw [5] (SameRel w n l m) (fun i _ => n - (intOf i).toNat)
  case atStart => exact ⟨0, by omega, rfl, by simp, Below.refl _ _⟩
  case round =>
    obtain ⟨j, hj, rfl, he, hb⟩ := hrel
    by_cases hlt : j < n
    · have hlt1 : j < l.length := by have := HL.out; omega
      have hlt2 : j < m.length := by have := HM.out; omega
      obtain ⟨a, rfl, _, _, hc⟩ := HA.out.below hb j _ (cs_get l j hlt1)
      obtain ⟨b, rfl, _, _, hd⟩ := HB.out.below hb j _ (cs_get m j hlt2)
      generalize hx : l[j] = x at hc
      generalize hy : m[j] = y at hd
      have HX := Lib.hid hx
      have HY := Lib.hid hy
      have HT := Lib.hid he
      clear hx hy he
      by_cases hxy : x = y
      · subst hxy
        have HS := Lib.hid (take_eq_step HT.out hlt1 hlt2 (HX.out.trans HY.out.symm))
        clear hlt1 hlt2 HX HY
        go_wp2_with fail
        go_quiet (fail)
        go_wp2_with fail
        go_roundw
        case rel => exact ⟨j + 1, by omega, by go_num, HS.out, below_drewN hb _⟩
        case measure => simp [intOf]; omega
      · have HN := Lib.hid (show l ≠ m by
          rintro rfl
          exact hxy (HX.out.symm.trans HY.out))
        have hne := str_ne hxy
        clear hlt1 hlt2 HX HY
        go_wp2_with fail
        go_quiet (fail)
        go_wp2_with fail
        go_ret
        exact ⟨by rw [decide_eq_false HN.out]; rfl, below_drewN hb _⟩
    · obtain rfl : j = n := by omega
      have HT := Lib.hid (show l = m by
        rw [← HL.out, List.take_length, HL.out, ← HM.out, List.take_length] at he
        exact he)
      clear he
      go_wp2_with fail
      go_ret
      exact ⟨by rw [decide_eq_true HT.out]; rfl, hb⟩
theorem same_any (w : World) (A1 A2 : Option Addr) (c1 c2 : Nat) (l m : List ByteArray) (hl : l.length ≤ 1000000) (_hm : m.length ≤ 1000000) (hA : Lies (fun _ => False) w A1 (cs l)) (hB : Lies (fun _ => False) w A2 (cs m)) :
    Calls Tryd.prog 16 #[.slice A1 l.length c1, .slice A2 m.length c2] w fun e w' => e = .returned (.bool (decide (l = m))) ∧ Below w.heap.size w w' := by
  by_cases hlen : l.length = m.length
  · have := same_n w A1 A2 c1 c2 l.length l m rfl hlen.symm hl hA hB
    rw [hlen] at this ⊢
    exact this
  · have HN := Lib.hid (show l ≠ m from fun e => hlen (by rw [e]))
    go_enter Tryd.func16, Tryd.ntmps16
    go_wp2_with fail
    go_ret
    exact ⟨by rw [decide_eq_false HN.out]; rfl, Below.refl _ _⟩
end Go.Proofs.YtggecdgomgmhmaaDoor
