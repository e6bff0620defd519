/-
  PackWrites: numbers, texts and rows are written as the document says: for every row of numbers and every row of texts the statement's function returns true and changes nothing that was there. No condition.
-/
import Derived.Test.YtkfkaijaenjngaaPackO
import Derived.Test.YtkfkaijaenjngaaPackS
import Derived.Test.YtkfkaijaenjngaaPackT
import Derived.Deep.Cut
namespace Go.Proofs.Ytkfkaijaenjngaa.packWrites
open Go.ChangeShapes Go.WideShapes Go.ChangeAt Go.RowKit
open Go.ChangeMaps (open_string shut_string)

theorem lies_off {S : Nat → Prop} {w2 wi : World} {A : Option Addr} {vs : List Value} (h : Lies (fun _ => False) w2 A vs) (hb : Below w2.heap.size w2 wi) (hf : ∀ k, S k → w2.heap.size ≤ k) : Lies S wi A vs := fun i u hi => by
  obtain ⟨a, h1, h2, _, h4⟩ := h i u hi
  refine ⟨a, h1, Nat.lt_of_lt_of_le h2 hb.size, fun hs => by have := hf _ hs; omega, ?_⟩
  rw [← h4]
  exact World.cell?_of_block (by rw [add_block]; exact hb.block _ h2)

/-- Where the first loop stands. -/
def Rel1 (w2 : World) (ns : List Nat) (x y : Value) (wr : World) : Prop :=
  ∃ (j : Nat) (v : Value), j ≤ ns.length ∧ j ≤ 8 ∧ y = .int .i64 (j : Int) ∧ x = .string (ba (nums (ns.take j))) ∧ Wr w2.heap.size w2 wr w2.heap.size v (nums (ns.take j))
/-- Where the second loop stands. -/
def Rel2 (w2 : World) (v : Value) (L1 L2 : List UInt8) (m : List ByteArray) (x y : Value) (wr : World) : Prop :=
  ∃ j : Nat, j ≤ m.length ∧ y = .int .i64 (j : Int) ∧ x = .string (ba (L1 ++ Pk.texts (tx (m.take j)))) ∧ Wr w2.heap.size w2 wr w2.heap.size v L2

set_option maxRecDepth 100000 in
set_option maxHeartbeats 4000000 in
theorem walk (A1 A2 : Option Addr) (c1 c2 : Nat) (ns : List Nat) (l : List ByteArray) (w : World) (hn : ns.length ≤ maxLen) (hl : l.length ≤ maxLen) (hns : ∀ n ∈ ns, n ≤ 18446744073709551615) (hls : ∀ s ∈ l, s.size ≤ maxLen)
    (h1 : Lies (fun _ => False) w A1 (cn ns)) (h2 : Lies (fun _ => False) w A2 (cs l)) :
    Calls Try.prog 3 #[.slice A1 ns.length c1, .slice A2 l.length c2] w fun e w' => e = .returned (.bool true) ∧ Below w.heap.size w w' := by
  have HF2 := Lib.hid (fun (W : World) (hb : Below w.heap.size w W) => few_any W A2 c2 l hl hls (h2.below hb))
  have HA1 := Lib.hid h1
  have HNS := Lib.hid hns
  have hlb := fw_len l
  have HSB := Lib.hid (fw_size l)
  generalize l.length = n2 at *
  generalize fw l = m at *
  unfold maxLen at hn
  clear h1 h2 hls hns hl
  go_enter Try.func3, Try.ntmps3
  go_wp2_with fail
  refine (awake_any _).mono ?_
  rintro e w1 ⟨rfl, hb1⟩
  have hz1 := hb1.size
  have HC := Lib.hid (HF2.out _ hb1)
  have HB1 := Lib.hid hb1
  clear hb1 HF2
  go_wp2_with fail
  refine HC.out.mono ?_
  rintro e w2 ⟨A3, c3, rfl, ho3, hb3⟩
  have hB2 : Below w.heap.size w w2 := HB1.out.trans (hb3.mono hz1)
  have HB2 := Lib.hid hB2
  have hz2' := hB2.size
  have HA := Lib.hid (HA1.out.below hB2)
  have HM : Hid (Lies (fun _ => False) w2 A3 (cs m)) := Lib.hid (Lies.own (c := c3) ho3 (fun _ _ _ hf => hf))
  have HW : Hid (Wr w2.heap.size w2 _ _ _ _) := Lib.hid (Wr.new (w := w2) (Below.refl _ w2) (Nat.le_refl _))
  clear HC ho3 hb3 hB2 HB1 HA1
  go_wp2_with fail
  go_loopw [8, 9] (Rel1 w2 ns) (fun _ i _ => 8 - (intOf i).toNat)
  case atStart => exact ⟨0, _, by omega, by omega, rfl, rfl, HW.out⟩
  case round =>
    clear HW
    obtain ⟨j, v, hj, hj8, rfl, rfl, hw⟩ := hrel
    have hlen := nums_len (ns.take j) (fun n hn => HNS.out n (List.mem_of_mem_take hn))
    have hlen : (nums (ns.take j)).length ≤ 80 := by simp at hlen; omega
    by_cases hlt : j < ns.length ∧ j < 8
    · obtain ⟨hlt, hlt8⟩ := hlt
      obtain ⟨a, rfl, ha, _, hc⟩ := HA.out.below hw.bel j _ (cn_get ns j hlt)
      have hnj := HNS.out _ (List.getElem_mem hlt)
      have HC := Lib.hid (wnum_one hw ns[j] _ rfl wr.heap.size rfl hnj (by omega))
      have HE := Lib.hid (show nums (ns.take (j + 1)) = nums (ns.take j) ++ Pk.num ns[j] by rw [take_snoc ns j hlt, nums_snoc])
      clear hw
      go_wp2_with fail
      refine HC.out.mono ?_
      rintro e w3 ⟨rfl, v3, hw3, _, _⟩
      obtain ⟨a', ha', _, _, hc3⟩ := HA.out.below hw3.bel j _ (cn_get ns j hlt)
      obtain rfl : a = a' := Option.some.inj ha'
      rw [← HE.out] at hw3
      have HW3 := Lib.hid hw3
      have HR := Lib.hid (refnum_any ns[j] w3 hnj)
      have hz3 : (ba (Pk.num ns[j])).size ≤ 10 := by rw [ba_size]; exact Pk.num_len_le _ (by omega)
      have hz4 : (ba (nums (ns.take j))).size ≤ 80 := by rw [ba_size]; exact hlen
      have HE2 := Lib.hid (show ba (nums (ns.take j)) ++ ba (Pk.num ns[j]) = ba (nums (ns.take (j + 1))) by rw [ba_append, HE.out])
      clear HC hc ha' hw3
      generalize ba (Pk.num ns[j]) = Y at *
      generalize ba (nums (ns.take j)) = X at *
      go_wp2_with fail
      refine HR.out.mono ?_
      rintro e w4 ⟨rfl, hb4⟩
      have HW4 := Lib.hid (HW3.out.after hb4)
      clear HR hb4 hc3 HW3
      go_wp2_with fail
      go_roundw
      case rel => exact ⟨j + 1, v3, by omega, by omega, by go_num, by rw [HE2.out], HW4.out⟩
      case measure => simp [intOf]; omega
    · generalize nums (ns.take j) = L1 at *
      have htl := texts_len m (fun s hs => by have := HSB.out s hs; omega)
      have hrl : (Pk.row (tx m)).length ≤ 10000 := by
        have h2 := Pk.num_len_le m.length (by omega)
        have e : (Pk.row (tx m)).length = (Pk.num m.length).length + (Pk.texts (tx m)).length := by simp [Pk.row, tx]
        omega
      have HT := Lib.hid (wtext_on hw A3 c3 m (fun s hs => by have := HSB.out s hs; omega) (lies_off HM.out hw.bel hw.foot) (by omega))
      have hlt' : ¬ (j < ns.length) ∨ (j < ns.length ∧ ¬ (j < 8)) := by omega
      clear hlt hw HA HNS
      have HTL := Lib.hid htl
      have HRL := Lib.hid hrl
      clear htl hrl
      rcases hlt' with hlt' | ⟨hlt', hlt8'⟩
      · go_wp2_with fail
        refine HT.out.mono ?_
        rintro e w3 ⟨rfl, v3, hw3, _, _⟩
        have HR := Lib.hid (wrow_on hw3 A3 c3 m (fun s hs => by have := HSB.out s hs; omega) (lies_off HM.out hw3.bel hw3.foot) (by have := HTL.out; rw [List.length_append]; omega))
        clear HT hw3
        go_wp2_with fail
        refine HR.out.mono ?_
        rintro e w4 ⟨rfl, v4, hw4, _, _⟩
        have HW4 := Lib.hid hw4
        have HST := Lib.hid (show ba (L1 ++ Pk.texts (tx m)) ++ ba (Pk.row (tx m)) = ba (L1 ++ Pk.texts (tx m) ++ Pk.row (tx m)) by rw [ba_append])
        generalize hL2 : L1 ++ Pk.texts (tx m) ++ Pk.row (tx m) = L2 at *
        clear HR hw4 hL2
        go_wp2_with fail
        go_loopw [8, 10] (Rel2 w2 v4 L1 L2 m) (fun _ i _ => m.length - (intOf i).toNat)
        case atStart => exact ⟨0, by omega, rfl, by simp [tx, Pk.texts], HW4.out⟩
        case round =>
          clear HW4
          obtain ⟨k, hk, rfl, rfl, hw⟩ := hrel
          by_cases hkt : k < m.length
          · obtain ⟨a, rfl, ha, _, hc⟩ := HM.out.below hw.bel k _ (cs_get m k hkt)
            have hsk := HSB.out _ (List.getElem_mem hkt)
            have HC := Lib.hid (reftext_any m[k] wr (by omega))
            have hz1 : (ba (L1 ++ Pk.texts (tx (m.take k)))).size ≤ 20000 := by
              have h1 := texts_len (m.take k) (fun s hs => by have := HSB.out s (List.mem_of_mem_take hs); omega)
              rw [ba_size, List.length_append]
              simp at h1
              omega
            have hz2 : (ba (Pk.text m[k].data.toList)).size ≤ 2000 := by
              have := Pk.num_len_le m[k].size (by omega)
              have e : (Pk.text m[k].data.toList).length = (Pk.num m[k].size).length + m[k].size := by simp [Pk.text]
              rw [ba_size]
              omega
            have HE := Lib.hid (show ba (L1 ++ Pk.texts (tx (m.take k))) ++ ba (Pk.text m[k].data.toList) = ba (L1 ++ Pk.texts (tx (m.take (k + 1)))) by
              have e : tx (m.take k ++ [m[k]]) = tx (m.take k) ++ [m[k].data.toList] := by unfold tx; rw [List.map_append]; rfl
              rw [ba_append, take_snoc m k hkt, e, Pk.texts_snoc, List.append_assoc])
            have HW5 := Lib.hid hw
            generalize ba (L1 ++ Pk.texts (tx (m.take k))) = X at *
            generalize ba (Pk.text m[k].data.toList) = Y at *
            clear hw
            go_wp2_with fail
            refine HC.out.mono ?_
            rintro e w6 ⟨rfl, hb6⟩
            have HW6 := Lib.hid (HW5.out.after hb6)
            clear HC hb6 HW5 hc
            go_wp2_with fail
            go_roundw
            case rel => exact ⟨k + 1, by omega, by go_num, by rw [HE.out], HW6.out⟩
            case measure => simp [intOf]; omega
          · obtain rfl : k = m.length := by omega
            have HE := Lib.hid (show ba (L1 ++ Pk.texts (tx (m.take m.length))) = ba (L1 ++ Pk.texts (tx m)) by rw [List.take_length])
            have HC := Lib.hid (refrow_any wr A3 c3 m (fun s hs => by have := HSB.out s hs; omega) (HM.out.below hw.bel) (by omega))
            have hz1 : (ba (L1 ++ Pk.texts (tx m))).size ≤ 20000 := by have := HTL.out; rw [ba_size, List.length_append]; omega
            have hz2 : (ba (Pk.row (tx m))).size ≤ 10000 := by rw [ba_size]; exact HRL.out
            rw [HE.out]
            have HW5 := Lib.hid hw
            generalize ba (L1 ++ Pk.texts (tx m)) = X at *
            generalize ba (Pk.row (tx m)) = Y at *
            clear hw HE
            go_wp2_with fail
            refine HC.out.mono ?_
            rintro e w6 ⟨rfl, hb6⟩
            have hw6 := HW5.out.after hb6
            have HS := Lib.hid (str_on hw6)
            rw [← HST.out] at HS
            have HB6 := Lib.hid (HB2.out.trans (hw6.bel.mono hz2'))
            clear HC hb6 HW5 hw6
            go_wp2_with fail
            refine HS.out.mono ?_
            rintro e w7 ⟨rfl, rfl⟩
            clear HS
            go_wp2_with fail
            go_ret
            exact ⟨rfl, HB6.out⟩
      · go_wp2_with fail
        refine HT.out.mono ?_
        rintro e w3 ⟨rfl, v3, hw3, _, _⟩
        have HR := Lib.hid (wrow_on hw3 A3 c3 m (fun s hs => by have := HSB.out s hs; omega) (lies_off HM.out hw3.bel hw3.foot) (by have := HTL.out; rw [List.length_append]; omega))
        clear HT hw3
        go_wp2_with fail
        refine HR.out.mono ?_
        rintro e w4 ⟨rfl, v4, hw4, _, _⟩
        have HW4 := Lib.hid hw4
        have HST := Lib.hid (show ba (L1 ++ Pk.texts (tx m)) ++ ba (Pk.row (tx m)) = ba (L1 ++ Pk.texts (tx m) ++ Pk.row (tx m)) by rw [ba_append])
        generalize hL2 : L1 ++ Pk.texts (tx m) ++ Pk.row (tx m) = L2 at *
        clear HR hw4 hL2
        go_wp2_with fail
        go_loopw [8, 10] (Rel2 w2 v4 L1 L2 m) (fun _ i _ => m.length - (intOf i).toNat)
        case atStart => exact ⟨0, by omega, rfl, by simp [tx, Pk.texts], HW4.out⟩
        case round =>
          clear HW4
          obtain ⟨k, hk, rfl, rfl, hw⟩ := hrel
          by_cases hkt : k < m.length
          · obtain ⟨a, rfl, ha, _, hc⟩ := HM.out.below hw.bel k _ (cs_get m k hkt)
            have hsk := HSB.out _ (List.getElem_mem hkt)
            have HC := Lib.hid (reftext_any m[k] wr (by omega))
            have hz1 : (ba (L1 ++ Pk.texts (tx (m.take k)))).size ≤ 20000 := by
              have h1 := texts_len (m.take k) (fun s hs => by have := HSB.out s (List.mem_of_mem_take hs); omega)
              rw [ba_size, List.length_append]
              simp at h1
              omega
            have hz2 : (ba (Pk.text m[k].data.toList)).size ≤ 2000 := by
              have := Pk.num_len_le m[k].size (by omega)
              have e : (Pk.text m[k].data.toList).length = (Pk.num m[k].size).length + m[k].size := by simp [Pk.text]
              rw [ba_size]
              omega
            have HE := Lib.hid (show ba (L1 ++ Pk.texts (tx (m.take k))) ++ ba (Pk.text m[k].data.toList) = ba (L1 ++ Pk.texts (tx (m.take (k + 1)))) by
              have e : tx (m.take k ++ [m[k]]) = tx (m.take k) ++ [m[k].data.toList] := by unfold tx; rw [List.map_append]; rfl
              rw [ba_append, take_snoc m k hkt, e, Pk.texts_snoc, List.append_assoc])
            have HW5 := Lib.hid hw
            generalize ba (L1 ++ Pk.texts (tx (m.take k))) = X at *
            generalize ba (Pk.text m[k].data.toList) = Y at *
            clear hw
            go_wp2_with fail
            refine HC.out.mono ?_
            rintro e w6 ⟨rfl, hb6⟩
            have HW6 := Lib.hid (HW5.out.after hb6)
            clear HC hb6 HW5 hc
            go_wp2_with fail
            go_roundw
            case rel => exact ⟨k + 1, by omega, by go_num, by rw [HE.out], HW6.out⟩
            case measure => simp [intOf]; omega
          · obtain rfl : k = m.length := by omega
            have HE := Lib.hid (show ba (L1 ++ Pk.texts (tx (m.take m.length))) = ba (L1 ++ Pk.texts (tx m)) by rw [List.take_length])
            have HC := Lib.hid (refrow_any wr A3 c3 m (fun s hs => by have := HSB.out s hs; omega) (HM.out.below hw.bel) (by omega))
            have hz1 : (ba (L1 ++ Pk.texts (tx m))).size ≤ 20000 := by have := HTL.out; rw [ba_size, List.length_append]; omega
            have hz2 : (ba (Pk.row (tx m))).size ≤ 10000 := by rw [ba_size]; exact HRL.out
            rw [HE.out]
            have HW5 := Lib.hid hw
            generalize ba (L1 ++ Pk.texts (tx m)) = X at *
            generalize ba (Pk.row (tx m)) = Y at *
            clear hw HE
            go_wp2_with fail
            refine HC.out.mono ?_
            rintro e w6 ⟨rfl, hb6⟩
            have hw6 := HW5.out.after hb6
            have HS := Lib.hid (str_on hw6)
            rw [← HST.out] at HS
            have HB6 := Lib.hid (HB2.out.trans (hw6.bel.mono hz2'))
            clear HC hb6 HW5 hw6
            go_wp2_with fail
            refine HS.out.mono ?_
            rintro e w7 ⟨rfl, rfl⟩
            clear HS
            go_wp2_with fail
            go_ret
            exact ⟨rfl, HB6.out⟩

/-! ### The row -/
theorem contract (H : Type) (enc : TypeId × Value → H) (W : World) (base : Nat) (args : Array Value) (ds gs : List (DataW H)) (before : List MemPlace)
    (hval : ∀ (j : Nat) t v, Try.f3.params[j]? = some t → args[j]? = some v → Value.okWide Try.prog W .any base t v)
    (hW : DataW.Whole enc Try.prog Try.f3.params.toList Rows.packWritesSpec.vars false W args.toList ds gs before) :
    Calls Try.prog 3 args W fun e W' => ∃ v, e = .returned v ∧ Rows.packWritesSpec.post enc Try.prog Try.f3 false true false false W args v W' := by
  have hW' := hW
  obtain ⟨p, q, hA0, hV, rfl, hfz, hnd⟩ := hW
  have hA : DataW.TrodAll enc Try.prog W 0 (fun _ => true) true Try.f3.params.toList args.toList ds p := hA0
  rw [Try.params3] at hA hval
  obtain ⟨v0, vs0, d0, ds0, p0, q0, hargs, rfl, rfl, h0, r0⟩ := trodAll_cons hA
  obtain ⟨v1, vs1, d1, ds1, p1, q1, rfl, rfl, rfl, h1, r1⟩ := trodAll_cons r0
  obtain ⟨rfl, rfl, rfl⟩ := trodAll_nil r1
  obtain rfl : args = #[v0, v1] := by cases args; simp_all
  obtain ⟨rfl, rfl⟩ := trodVars_none hV
  refine law_contract (tb := 4) laidOut (by kernel_rfl) rfl (by kernel_rfl) Try.underlying4 rfl hW' ?_
  clear hA0 hW' hA
  obtain ⟨A0, k0, l0, rfl, z0, s0, g0⟩ := opened_nums (open_rows Try.underlying22 cellsU64 (by omega) (hval 0 22 v0 rfl rfl) h0) Try.underlying33
  obtain ⟨A1, k1, l1, rfl, z1, s1, g1⟩ := opened_texts (open_texts Try.underlying23 Try.underlying9 cellsStr (hval 1 23 v1 rfl rfl) h1)
  exact walk A0 A1 k0 k1 l0 l1 W z0 z1 s0 s1 g0 g1

set_option maxRecDepth 100000 in
theorem lifted (os : Os) (started : os.Started) (H : Type) (enc : TypeId × Value → H) :
    ReturnsInHanded {} Try.checked os 3 .any (Rows.packWritesSpec.pre6 enc Try.prog Try.f3 Rows.packWritesRow.domain false) (Rows.packWritesSpec.post enc Try.prog Try.f3 false true false false) := by
  refine returnsInHanded_of_change (C := Try.checked) own started (by kernel_rfl) Try.func3
    (ChangeSpec.witness6 (enc := enc) (C := Try.checked) false ⟨#[], #[.slice none 0 0, .slice none 0 0], []⟩ 8 (by kernel_rfl) (by kernel_rfl) (by kernel_rfl) (by kernel_rfl)) ?_
  intro W base args ds gs before hval hW _ _
  exact contract H enc W base args ds gs before hval hW

/-- THE STATEMENT. -/
theorem said : Rows.PackWritesSaid :=
  OpenClaim.holds_of_wide 3 Try.f3 rfl rfl rfl rfl rfl rfl rfl ⟨rfl, rfl, rfl, rfl, rfl⟩ rfl rfl rfl rfl rfl (by kernel_rfl) Try.func3 (by kernel_rfl)
    (of_decide_eq_true (by kernel_rfl)) (by unfold Func.isWrapper; first | (rw [if_pos (by decide +kernel)]; kernel_rfl) | (rw [if_neg (by decide +kernel)]; exact ⟨rfl, rfl⟩))
    (fun os started H enc _ => lifted os started H enc)
#print axioms said
end Go.Proofs.Ytkfkaijaenjngaa.packWrites
