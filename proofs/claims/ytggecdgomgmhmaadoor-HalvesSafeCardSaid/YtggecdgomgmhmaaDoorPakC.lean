/-
  Contracts of package pack, the writer: text, Num, Text, Row, String. Condition: the writer lies in memory as its calls lay it, what is written lies elsewhere.
-/
import Derived.Test.YtggecdgomgmhmaaDoorPakB
namespace Go.Proofs.YtggecdgomgmhmaaDoor
open Go.RowKit

theorem text_any (w : World) (d : Nat) (v : Value) (l : List UInt8) (h : WrAt w d v l) (s : ByteArray) (hl : l.length + s.size ≤ 1000000) :
    Calls Tryd.prog 57 #[.pointer (some ⟨d, 0, none⟩), .string s] w fun e w' => e = .returned (.tuple #[]) ∧ Wrote w d v (l ++ Pk.text s.data.toList) w' := by
  have HN := Lib.hid (Pk.num_len_le s.size (by omega))
  have HC := Lib.hid (number_any w d v l h s.size (by omega) (by omega))
  go_enter Tryd.func57, Tryd.ntmps57
  go_wp2_with fail
  refine HC.out.mono ?_
  rintro e w1 ⟨rfl, v1, h1, k1, f1⟩
  have hl1 : (l ++ Pk.num s.size).length ≤ l.length + 10 := by have := HN.out; simp; omega
  generalize hL : l ++ Pk.num s.size = l1 at h1 hl1
  have HL := Lib.hid hL
  clear hL
  obtain ⟨i0, hi0, hz0, hz1, hz2⟩ := info_u8
  obtain ⟨A', c', w2, hr, hown, hgrow, hat⟩ := run_append_text (P := Tryd.prog) w1 51 9 51 5 i0 Tryd.underlying51 Tryd.underlying9 hi0 hz0 hz1 hz2 v1 _ _ h1.own s (by omega)
  have HP := Lib.hid (Wrote.trans k1 f1 (h1.push (m := s.data.toList) (Below.refl _ _) (by simp) hown hgrow hat))
  have hd := h1.blk.of (hgrow.block _ h1.blk.lt (fun e => h1.ne_ e.symm))
  have d0 := hd.cell 0
  have f0 := hd.frozen 0
  have c0 := h1.blk.cell 0
  simp only [List.getElem?_toArray, List.getElem?_cons_zero] at c0 d0
  obtain ⟨A, c, rfl⟩ := h1.form
  clear HC hi0 hz0 hz1 hz2 hown hgrow hat hd h1 k1 f1
  have HR := Lib.hid hr
  clear hr
  go_wp2_with
    (at_builtin
     refine wpList_append_run rfl (.tmp 13) (.tmp 14) 51 9 rfl _ _ _ rfl rfl HR.out ?_
     clear c0)
  go_end0
  refine ⟨rfl, ?_⟩
  have e : l ++ Pk.text s.data.toList = l1 ++ s.data.toList := by rw [← HL.out, List.append_assoc]; rfl
  rw [e]
  exact HP.out

section
variable {S T : Nat → Prop} {w w' : World} {A : Option Addr} {vs : List Value}
end
def numsB (l : List Nat) : List UInt8 := l.flatMap Pk.num
theorem numsB_snoc (l : List Nat) (n : Nat) : numsB (l ++ [n]) = numsB l ++ Pk.num n := by simp [numsB]
theorem numsB_len (l : List Nat) (h : ∀ n ∈ l, n ≤ 18446744073709551615) : (numsB l).length ≤ 10 * l.length := by
  induction l with
  | nil => simp [numsB]
  | cons a r ih =>
    have h1 := Pk.num_len_le a (by have := h a (by simp); omega)
    have h2 := ih (fun n hn => h n (by simp [hn]))
    have : numsB (a :: r) = Pk.num a ++ numsB r := by simp [numsB]
    rw [this, List.length_append, List.length_cons]
    omega
theorem tx_snoc (l : List ByteArray) (s : ByteArray) : tx (l ++ [s]) = tx l ++ [s.data.toList] := by simp [tx]
theorem texts_take (ss : List ByteArray) (j : Nat) (h : j < ss.length) : (Pk.texts (tx (ss.take j))).length + ss[j].size ≤ (Pk.texts (tx ss)).length := by
  have e : tx ss = tx (ss.take (j + 1)) ++ tx (ss.drop (j + 1)) := by unfold tx; rw [← List.map_append, List.take_append_drop]
  have e2 : Pk.texts (tx (ss.take (j + 1)) ++ tx (ss.drop (j + 1))) = Pk.texts (tx (ss.take (j + 1))) ++ Pk.texts (tx (ss.drop (j + 1))) := by simp [Pk.texts]
  have e3 : (Pk.text ss[j].data.toList).length = (Pk.num ss[j].size).length + ss[j].size := by simp [Pk.text]
  rw [e, e2, take_more ss j h, tx_snoc, Pk.texts_snoc, List.length_append, List.length_append, e3]
  omega
theorem texts_count (ss : List ByteArray) : ss.length ≤ (Pk.texts (tx ss)).length := by
  induction ss with
  | nil => exact Nat.zero_le _
  | cons a r ih =>
    have h0 := Pk.num_pos a.size
    have e : Pk.texts (tx (a :: r)) = Pk.text a.data.toList ++ Pk.texts (tx r) := by simp [tx, Pk.texts]
    have h3 : (Pk.text a.data.toList).length = (Pk.num a.size).length + a.size := by simp [Pk.text]
    rw [e, List.length_append, List.length_cons]
    omega
/-- Where a loop stands that writes. -/
def WRel (w : World) (d : Nat) (v : Value) (f : Nat → List UInt8) (n : Nat) (x : Value) (wr : World) : Prop :=
  ∃ (j : Nat) (v' : Value), j ≤ n ∧ x = .int .i64 (j : Int) ∧ WrAt wr d v' (f j) ∧ Kept (foot d v) w wr ∧ ∀ k, foot d v' k → foot d v k ∨ w.heap.size ≤ k

theorem wnum_any (w : World) (d : Nat) (v : Value) (l : List UInt8) (h : WrAt w d v l) (A : Option Addr) (c : Nat) (ns : List Nat) (hns : ∀ n ∈ ns, n ≤ 18446744073709551615) (hA : Lies (foot d v) w A (cn ns)) (hl : l.length + 10 * ns.length ≤ 1000000) :
    Calls Tryd.prog 39 #[.pointer (some ⟨d, 0, none⟩), .slice A ns.length c] w fun e w' => e = .returned (.pointer (some ⟨d, 0, none⟩)) ∧ Wrote w d v (l ++ numsB ns) w' := by
  have HA := Lib.hid hA
  have HS := Lib.hid hns
  clear hA hns
  go_enter Tryd.func39, Tryd.ntmps39
  go_wp2_with fail
  go_loopw [11] (WRel w d v (fun j => l ++ numsB (ns.take j)) ns.length) (fun i _ => ns.length - (intOf i).toNat)
  case atStart => exact ⟨0, v, by omega, rfl, by simpa [numsB] using h, Kept.refl _ _, fun _ hk => .inl hk⟩
  case round =>
    clear h
    obtain ⟨j, v1, hj, rfl, h1, k1, f1⟩ := hrel
    by_cases hlt : j < ns.length
    · obtain ⟨a, rfl, _, _, hc⟩ := HA.out.kept k1 j _ (cn_get ns j hlt)
      have hlen := numsB_len (ns.take j) (fun n hn => HS.out n (List.mem_of_mem_take hn))
      have HC := Lib.hid (number_any wr d v1 _ h1 ns[j] (HS.out _ (List.getElem_mem hlt)) (by simp at hlen ⊢; omega))
      have HK := Lib.hid k1
      have HF := Lib.hid f1
      clear k1 f1 h1 hlen
      go_wp2_with fail
      refine HC.out.mono ?_
      rintro e w1 ⟨rfl, h2⟩
      clear HC
      go_wp2_with fail
      go_roundw
      case rel =>
        obtain ⟨v2, r1, r2, r3⟩ := Wrote.trans HK.out HF.out h2
        refine ⟨j + 1, v2, by omega, by go_num, ?_, r2, r3⟩
        show WrAt w1 d v2 (l ++ numsB (ns.take (j + 1)))
        rw [take_more ns j hlt, numsB_snoc, ← List.append_assoc]
        exact r1
      case measure => simp [intOf]; omega
    · obtain rfl : j = ns.length := by omega
      go_wp2_with fail
      go_ret
      have h2 : WrAt wr d v1 (l ++ numsB (ns.take ns.length)) := h1
      rw [List.take_length] at h2
      exact ⟨rfl, v1, h2, k1, f1⟩

theorem wtext_any (w : World) (d : Nat) (v : Value) (l : List UInt8) (h : WrAt w d v l) (A : Option Addr) (c : Nat) (ss : List ByteArray) (hA : Lies (foot d v) w A (cs ss)) (hl : l.length + (Pk.texts (tx ss)).length ≤ 900000) :
    Calls Tryd.prog 40 #[.pointer (some ⟨d, 0, none⟩), .slice A ss.length c] w fun e w' => e = .returned (.pointer (some ⟨d, 0, none⟩)) ∧ Wrote w d v (l ++ Pk.texts (tx ss)) w' := by
  have HA := Lib.hid hA
  have hcnt := texts_count ss
  clear hA
  go_enter Tryd.func40, Tryd.ntmps40
  go_wp2_with fail
  go_loopw [11] (WRel w d v (fun j => l ++ Pk.texts (tx (ss.take j))) ss.length) (fun i _ => ss.length - (intOf i).toNat)
  case atStart => exact ⟨0, v, by omega, rfl, by simpa [tx, Pk.texts] using h, Kept.refl _ _, fun _ hk => .inl hk⟩
  case round =>
    clear h
    obtain ⟨j, v1, hj, rfl, h1, k1, f1⟩ := hrel
    by_cases hlt : j < ss.length
    · obtain ⟨a, rfl, _, _, hc⟩ := HA.out.kept k1 j _ (cs_get ss j hlt)
      have hlen := texts_take ss j hlt
      have HC := Lib.hid (text_any wr d v1 _ h1 ss[j] (by simp at hlen ⊢; omega))
      have HK := Lib.hid k1
      have HF := Lib.hid f1
      clear k1 f1 h1 hlen
      go_wp2_with fail
      refine HC.out.mono ?_
      rintro e w1 ⟨rfl, h2⟩
      clear HC
      go_wp2_with fail
      go_roundw
      case rel =>
        obtain ⟨v2, r1, r2, r3⟩ := Wrote.trans HK.out HF.out h2
        refine ⟨j + 1, v2, by omega, by go_num, ?_, r2, r3⟩
        show WrAt w1 d v2 (l ++ Pk.texts (tx (ss.take (j + 1))))
        have e : tx (ss.take j ++ [ss[j]]) = tx (ss.take j) ++ [ss[j].data.toList] := by unfold tx; rw [List.map_append]; rfl
        rw [take_more ss j hlt, e, Pk.texts_snoc, ← List.append_assoc]
        exact r1
      case measure => simp [intOf]; omega
    · obtain rfl : j = ss.length := by omega
      go_wp2_with fail
      go_ret
      have h2 : WrAt wr d v1 (l ++ Pk.texts (tx (ss.take ss.length))) := h1
      rw [List.take_length] at h2
      exact ⟨rfl, v1, h2, k1, f1⟩

theorem str_any (w : World) (d : Nat) (v : Value) (l : List UInt8) (h : WrAt w d v l) :
    Calls Tryd.prog 41 #[.pointer (some ⟨d, 0, none⟩)] w fun e w' => e = .returned (.string (ba l)) ∧ w = w' := by
  have c0 := h.blk.cell 0
  simp only [List.getElem?_toArray, List.getElem?_cons_zero] at c0
  obtain ⟨A, c, rfl⟩ := h.form
  have hcv : (convert 51 9 (.slice A l.length c)).run Tryd.prog w = .ok (.string (ba l)) w := by
    rcases h.own.2 with ⟨hv, h0⟩ | ⟨g, cap, cur, hv, hb, hh, _⟩
    · have hl0 : l = [] := List.eq_nil_of_length_eq_zero h0
      subst hl0
      have : A = none := by injection hv
      subst this
      rw [run_convert_bytes_string w 51 9 5 none _ _ Tryd.underlying51 Tryd.underlying5 Tryd.underlying9]
      simp [ba, Conv.bytesToString]
      rfl
    · have : A = some ⟨g, 0, none⟩ := by injection hv
      subst this
      have hr := run_convert_bytes_back (P := Tryd.prog) w 51 9 5 ⟨g, 0, none⟩ c l Tryd.underlying51 Tryd.underlying5 Tryd.underlying9 (by
        intro i hi
        exact h.own.cells (g := g) rfl i _ (cb_get l i hi))
      exact hr
  clear h
  go_enter Tryd.func41, Tryd.ntmps41
  go_wp2_with fail
  go_ret
  exact ⟨rfl, rfl⟩
end Go.Proofs.YtggecdgomgmhmaaDoor
