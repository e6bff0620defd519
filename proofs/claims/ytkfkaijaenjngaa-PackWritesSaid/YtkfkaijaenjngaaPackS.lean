/-
  Contracts of the document's own answers of layer 3 (package homecomingref03): Text, Row. Condition: what is written lies in memory.
-/
import Derived.Test.YtkfkaijaenjngaaPackR
namespace Go.Proofs.Ytkfkaijaenjngaa
open Go.RowKit

theorem text_ba (s : ByteArray) : ba (Pk.num s.size) ++ s = ba (Pk.text s.data.toList) := by
  have e : ba (Pk.num s.size) ++ s = ba (Pk.num s.size) ++ ba s.data.toList := by rw [ba_back]
  rw [e, ba_append]
  rfl
theorem reftext_any (s : ByteArray) (w : World) (hs : s.size ≤ 1000000) :
    Calls Try.prog 15 #[.string s] w fun e w' => e = .returned (.string (ba (Pk.text s.data.toList))) ∧ Below w.heap.size w w' := by
  have HC := Lib.hid (refnum_any s.size w (by omega))
  have hz : (ba (Pk.num s.size)).size ≤ 10 := by rw [ba_size]; exact Pk.num_len_le _ (by omega)
  rw [← text_ba]
  generalize ba (Pk.num s.size) = N at *
  go_enter Try.func15, Try.ntmps15
  go_wp2_with fail
  refine HC.out.mono ?_
  rintro e w1 ⟨rfl, hb⟩
  go_wp2_with fail
  go_ret
  exact ⟨rfl, hb⟩

/-- Where the loop of Row stands. -/
def RowRel (w : World) (ss : List ByteArray) (x y : Value) (wr : World) : Prop :=
  ∃ j : Nat, j ≤ ss.length ∧ y = .int .i64 (j : Int) ∧ x = .string (ba (Pk.num ss.length ++ Pk.texts (tx (ss.take j)))) ∧ Below w.heap.size w wr
theorem refrow_any (w : World) (A : Option Addr) (c : Nat) (ss : List ByteArray) (hns : ∀ s ∈ ss, s.size ≤ 1000) (hA : Lies (fun _ => False) w A (cs ss)) (hl : ss.length ≤ 500) :
    Calls Try.prog 16 #[.slice A ss.length c] w fun e w' => e = .returned (.string (ba (Pk.row (tx ss)))) ∧ Below w.heap.size w w' := by
  have HC := Lib.hid (refnum_any ss.length w (by omega))
  have HN := Lib.hid (Pk.num_len_le ss.length (by omega))
  have HA := Lib.hid hA
  have HS := Lib.hid hns
  clear hA hns
  go_enter Try.func16, Try.ntmps16
  go_wp2_with fail
  refine HC.out.mono ?_
  rintro e w1 ⟨rfl, hb1⟩
  clear HC
  go_wp2_with fail
  go_loopw [3, 4] (RowRel w ss) (fun _ i _ => ss.length - (intOf i).toNat)
  case atStart => exact ⟨0, by omega, rfl, by simp [tx, Pk.texts], hb1⟩
  case round =>
    clear hb1
    obtain ⟨j, hj, rfl, rfl, hb⟩ := hrel
    by_cases hlt : j < ss.length
    · obtain ⟨a, rfl, _, _, hc⟩ := HA.out.below hb j _ (cs_get ss j hlt)
      have hsj := HS.out _ (List.getElem_mem hlt)
      have hlen := texts_len (ss.take j) (fun n hn => HS.out n (List.mem_of_mem_take hn))
      have hz1 : (ba (Pk.num ss.length ++ Pk.texts (tx (ss.take j)))).size ≤ 600000 := by
        have := HN.out
        rw [ba_size, List.length_append]
        simp at hlen
        omega
      have hz2 : (ba (Pk.text ss[j].data.toList)).size ≤ 2000 := by
        have := Pk.num_len_le ss[j].size (by omega)
        have e : (Pk.text ss[j].data.toList).length = (Pk.num ss[j].size).length + ss[j].size := by simp [Pk.text]
        rw [ba_size]
        omega
      have HE := Lib.hid (show ba (Pk.num ss.length ++ Pk.texts (tx (ss.take j))) ++ ba (Pk.text ss[j].data.toList) = ba (Pk.num ss.length ++ Pk.texts (tx (ss.take (j + 1)))) by
        have e : tx (ss.take j ++ [ss[j]]) = tx (ss.take j) ++ [ss[j].data.toList] := by unfold tx; rw [List.map_append]; rfl
        rw [ba_append, take_snoc ss j hlt, e, Pk.texts_snoc, List.append_assoc])
      have HC := Lib.hid (reftext_any ss[j] wr (by omega))
      clear hlen
      generalize ba (Pk.num ss.length ++ Pk.texts (tx (ss.take j))) = X at *
      generalize ba (Pk.text ss[j].data.toList) = Y at *
      go_wp2_with fail
      refine HC.out.mono ?_
      rintro e w2 ⟨rfl, hb2⟩
      clear HC
      go_wp2_with fail
      go_roundw
      case rel => exact ⟨j + 1, by omega, by go_num, by rw [HE.out], hb.trans (hb2.mono hb.size)⟩
      case measure => simp [intOf]; omega
    · obtain rfl : j = ss.length := by omega
      have HE := Lib.hid (show ba (Pk.num ss.length ++ Pk.texts (tx (ss.take ss.length))) = ba (Pk.row (tx ss)) by
        rw [List.take_length]
        simp [Pk.row, tx])
      generalize ba (Pk.num ss.length ++ Pk.texts (tx (ss.take ss.length))) = X at *
      go_wp2_with fail
      go_ret
      exact ⟨by rw [← HE.out]; rfl, hb⟩
end Go.Proofs.Ytkfkaijaenjngaa
