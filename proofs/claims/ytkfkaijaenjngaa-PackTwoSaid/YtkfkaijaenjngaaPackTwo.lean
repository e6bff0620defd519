/-
  PackTwo: two rows that differ have other bytes, of which none begins with the others': for every two rows of texts the statement's function returns true and changes nothing that was there. No condition.
-/
import Derived.Test.YtkfkaijaenjngaaPackO
import Derived.Test.YtkfkaijaenjngaaPackT
namespace Go.Proofs.Ytkfkaijaenjngaa.packTwo
open Go.ChangeShapes Go.WideShapes Go.ChangeAt Go.RowKit
open Go.ChangeMaps (open_string shut_string)

theorem tx_inj {a b : List ByteArray} (h : tx a = tx b) : a = b := by
  have h1 : (tx a).map ba = (tx b).map ba := by rw [h]
  have h2 : ∀ l : List ByteArray, (tx l).map ba = l := fun l => by
    unfold tx
    rw [List.map_map]
    conv => rhs; rw [← List.map_id l]
    apply List.map_congr_left
    intro s _
    exact ba_back s
  rwa [h2, h2] at h1
theorem tx_len {a : List ByteArray} (h : ∀ s ∈ a, s.size ≤ 200) : ∀ t ∈ tx a, t.length < 2 ^ 62 := by
  intro t ht
  obtain ⟨s, hs, rfl⟩ := List.mem_map.1 ht
  have := h s hs
  have e : s.data.toList.length = s.size := by simp
  omega
theorem row_eq (a b : List ByteArray) (r : List UInt8) (ha : ∀ s ∈ a, s.size ≤ 200) (hb : ∀ s ∈ b, s.size ≤ 200) (la : a.length ≤ 8) (lb : b.length ≤ 8) (h : Pk.row (tx a) ++ r = Pk.row (tx b)) : a = b := by
  have := Pk.row_inj (tx a) (tx b) r [] (by simp [tx]; omega) (by simp [tx]; omega) (tx_len ha) (tx_len hb) (by rw [h, List.append_nil])
  exact tx_inj this.1
theorem pre_ne (a b : List ByteArray) (ha : ∀ s ∈ a, s.size ≤ 200) (hb : ∀ s ∈ b, s.size ≤ 200) (la : a.length ≤ 8) (lb : b.length ≤ 8) (hne : a ≠ b) (S T : ByteArray) (hS : ba (Pk.row (tx a)) = S) (hT : ba (Pk.row (tx b)) = T) : ((T.extract 0 S.size).toList == S.toList) = false := by
  apply str_ne
  intro h
  apply hne
  have h1 : (T.extract 0 S.size).data.toList = S.data.toList := by rw [h]
  have h2 : S.data.toList = Pk.row (tx a) := by rw [← hS, ba_list]
  have h3 : T.data.toList = Pk.row (tx b) := by rw [← hT, ba_list]
  have h4 : (T.extract 0 S.size).data.toList = T.data.toList.take S.size := by simp
  rw [h4, h3, h2] at h1
  refine row_eq a b ((Pk.row (tx b)).drop S.size) ha hb la lb ?_
  rw [← h1, List.take_append_drop]

set_option maxRecDepth 100000 in
set_option maxHeartbeats 4000000 in
theorem walk (A1 A2 : Option Addr) (c1 c2 : Nat) (l m : List ByteArray) (w : World) (hl : l.length ≤ maxLen) (hm : m.length ≤ maxLen) (hls : ∀ s ∈ l, s.size ≤ maxLen) (hms : ∀ s ∈ m, s.size ≤ maxLen)
    (h1 : Lies (fun _ => False) w A1 (cs l)) (h2 : Lies (fun _ => False) w A2 (cs m)) :
    Calls Try.prog 7 #[.slice A1 l.length c1, .slice A2 m.length c2] w fun e w' => e = .returned (.bool true) ∧ Below w.heap.size w w' := by
  have HF1 := Lib.hid (fun (W : World) (hb : Below w.heap.size w W) => few_any W A1 c1 l hl hls (h1.below hb))
  have HF2 := Lib.hid (fun (W : World) (hb : Below w.heap.size w W) => few_any W A2 c2 m hm hms (h2.below hb))
  have hla := fw_len l
  have hlb := fw_len m
  have HSA := Lib.hid (fw_size l)
  have HSB := Lib.hid (fw_size m)
  generalize l.length = n1 at *
  generalize m.length = n2 at *
  generalize fw l = a at *
  generalize fw m = b at *
  generalize ha : a.length = na at *
  generalize hb : b.length = nb at *
  have HNA := Lib.hid ha
  have HNB := Lib.hid hb
  clear h1 h2 hls hms hl hm ha hb
  go_enter Try.func7, Try.ntmps7
  go_wp2_with fail
  refine (awake_any _).mono ?_
  rintro e w1 ⟨rfl, hb1⟩
  have hz1 := hb1.size
  have hx0 : Wr w.heap.size w _ _ _ _ := (Wr.new hb1 hz1).alloc (.cells #[.slice none 0 0] 31)
  have hy0 : Wr w.heap.size w _ _ _ _ := Wr.new (w := w1.alloc (.cells #[.slice none 0 0] 31)) (hb1.alloc hz1 _) (by simp; omega)
  have hdy : (w1.alloc (.cells #[.slice none 0 0] 31)).heap.size = w1.heap.size + 1 := by simp
  rw [hdy] at hy0
  have HX := Lib.hid hx0
  have HY := Lib.hid hy0
  have HC := Lib.hid (HF1.out _ hx0.bel)
  clear hx0 hy0 hb1 hdy
  go_wp2_with fail
  refine HC.out.mono ?_
  rintro e w2 ⟨A3, c3, rfl, ho3, hb3⟩
  have hx2 := HX.out.after hb3
  have hy2 := HY.out.after hb3
  have HL3 : Lies (foot w1.heap.size (.slice none 0 0)) w2 A3 (cs a) := Lies.own (c := c3) (by rw [HNA.out] at *; exact ho3) (fun g _ hg hf => by have := foot_new hf; simp at hg; omega)
  have HR := Lib.hid (wrow_on hx2 A3 c3 a (fun s hs => by have := HSA.out s hs; omega) HL3 (by rw [HNA.out]; simp; omega))
  rw [HNA.out] at HR
  have HY2 := Lib.hid hy2
  clear HC hx2 hy2 HL3 ho3 hb3 HX HY
  go_wp2_with fail
  refine HR.out.mono ?_
  rintro e w3 ⟨rfl, vx, hx3, hk3, _⟩
  rw [List.nil_append] at hx3
  generalize hS : ba (Pk.row (tx a)) = S
  have HS := Lib.hid (str_on hx3)
  rw [hS] at HS
  have HSe := Lib.hid hS
  have hy3 := HY2.out.kept hk3 (fun k hk => by rw [foot_new hk]; exact hz1) (fun k hk hk' => by have := foot_new hk; have := foot_new hk'; omega)
  have HY3 := Lib.hid hy3
  have HC := Lib.hid (HF2.out _ hy3.bel)
  clear HR HY2 hx3 hk3 hS hy3
  go_wp2_with fail
  refine HS.out.mono ?_
  rintro e w4 ⟨rfl, rfl⟩
  clear HS
  go_wp2_with fail
  refine HC.out.mono ?_
  rintro e w4 ⟨A4, c4, rfl, ho4, hb4⟩
  have hy4 := HY3.out.after hb4
  have hz4 := HY3.out.at_.lt
  have HL4 : Lies (foot (w1.heap.size + 1) (.slice none 0 0)) w4 A4 (cs b) := Lies.own (c := c4) (by rw [HNB.out] at *; exact ho4) (fun g _ hg hf => by have := hz4 g hf; omega)
  have HR := Lib.hid (wrow_on hy4 A4 c4 b (fun s hs => by have := HSB.out s hs; omega) HL4 (by rw [HNB.out]; simp; omega))
  rw [HNB.out] at HR
  clear HC hy4 HL4 ho4 hb4 HY3 hz4
  go_wp2_with fail
  refine HR.out.mono ?_
  rintro e w5 ⟨rfl, vy, hy5, _, _⟩
  rw [List.nil_append] at hy5
  generalize hT : ba (Pk.row (tx b)) = T
  have HS := Lib.hid (str_on hy5)
  rw [hT] at HS
  have HTe := Lib.hid hT
  have HB5 := Lib.hid hy5.bel
  clear HR hy5 hT
  go_wp2_with fail
  refine HS.out.mono ?_
  rintro e w6 ⟨rfl, rfl⟩
  clear HS
  have HC := Lib.hid (HF1.out _ HB5.out)
  go_wp2_with fail
  refine HC.out.mono ?_
  rintro e w6 ⟨A5, c5, rfl, ho5, hb5⟩
  have hz5 := HB5.out.size
  have hB6 : Below w.heap.size w w6 := HB5.out.trans (hb5.mono hz5)
  have HC2 := Lib.hid (HF2.out _ hB6)
  have HL5 : Lies (fun _ => False) w6 A5 (cs a) := Lies.own (c := c5) (by rw [HNA.out] at *; exact ho5) (fun _ _ _ hf => hf)
  have H5 := Lib.hid HL5
  have HB6 := Lib.hid hB6
  clear HC HL5 ho5 hb5 HB5 hB6
  go_wp2_with fail
  refine HC2.out.mono ?_
  rintro e w7 ⟨A6, c6, rfl, ho6, hb6⟩
  have HL6 : Lies (fun _ => False) w7 A6 (cs b) := Lies.own (c := c6) (by rw [HNB.out] at *; exact ho6) (fun _ _ _ hf => hf)
  have HM := Lib.hid (same_any w7 A5 A6 c5 c6 a b (by rw [HNA.out]; omega) (by rw [HNB.out]; omega) (H5.out.below hb6) HL6)
  rw [HNA.out, HNB.out] at HM
  have hz6 := HB6.out.size
  have hB7 : Below w.heap.size w w7 := HB6.out.trans (hb6.mono hz6)
  have HB7 := Lib.hid hB7
  clear HC2 HL6 ho6 hb6 H5 HB6 hB7
  go_wp2_with fail
  refine HM.out.mono ?_
  rintro e w8 ⟨rfl, hb8⟩
  have hz7 := HB7.out.size
  have HB8 := Lib.hid (HB7.out.trans (hb8.mono hz7))
  clear HM hb8 HB7
  by_cases hab : a = b
  · obtain rfl : S = T := by rw [← HSe.out, ← HTe.out, hab]
    have hd : decide (a = b) = true := decide_eq_true hab
    have hex : S.extract 0 S.size = S := by simp
    have hsz : S.size ≤ 1000000 := by
      have h1 := texts_len a (fun s hs => by have := HSA.out s hs; omega)
      have h2 := Pk.num_len_le a.length (by have := HNA.out; omega)
      have h3 := HNA.out
      have e : (Pk.row (tx a)).length = (Pk.num a.length).length + (Pk.texts (tx a)).length := by simp [Pk.row, tx]
      rw [← HSe.out, ba_size]
      omega
    rw [hd]
    clear hab hd HSe HTe
    go_wp2_with fail
    go_ret
    exact ⟨rfl, HB8.out⟩
  · have hd : decide (a = b) = false := decide_eq_false hab
    have e1 := pre_ne a b HSA.out HSB.out (by rw [HNA.out]; omega) (by rw [HNB.out]; omega) hab S T HSe.out HTe.out
    have e2 := pre_ne b a HSB.out HSA.out (by rw [HNB.out]; omega) (by rw [HNA.out]; omega) (fun h => hab h.symm) T S HTe.out HSe.out
    have e3 : (S.toList == T.toList) = false := str_ne (fun h => by
      apply hab
      refine row_eq a b [] HSA.out HSB.out (by rw [HNA.out]; omega) (by rw [HNB.out]; omega) ?_
      rw [List.append_nil]
      exact ba_inj (by rw [HSe.out, HTe.out, h]))
    have hsz : ∀ (x : List ByteArray) (X : ByteArray), (∀ s ∈ x, s.size ≤ 200) → x.length ≤ 8 → ba (Pk.row (tx x)) = X → X.size ≤ 1000000 := fun x X hx hx8 hX => by
      have h1 := texts_len x (fun s hs => by have := hx s hs; omega)
      have h2 := Pk.num_len_le x.length (by omega)
      have e : (Pk.row (tx x)).length = (Pk.num x.length).length + (Pk.texts (tx x)).length := by simp [Pk.row, tx]
      rw [← hX, ba_size]
      omega
    have z1 := hsz a S HSA.out (by rw [HNA.out]; omega) HSe.out
    have z2 := hsz b T HSB.out (by rw [HNB.out]; omega) HTe.out
    rw [hd]
    clear hsz hab hd HSe HTe
    by_cases hlt : S.size ≤ T.size
    · by_cases hlt2 : T.size ≤ S.size
      · go_wp2_with fail
        go_ret
        exact ⟨rfl, HB8.out⟩
      · go_wp2_with fail
        go_ret
        exact ⟨rfl, HB8.out⟩
    · go_wp2_with fail
      go_ret
      exact ⟨rfl, HB8.out⟩

/-! ### The row -/
theorem contract (H : Type) (enc : TypeId × Value → H) (W : World) (base : Nat) (args : Array Value) (ds gs : List (DataW H)) (before : List MemPlace)
    (hval : ∀ (j : Nat) t v, Try.f7.params[j]? = some t → args[j]? = some v → Value.okWide Try.prog W .any base t v)
    (hW : DataW.Whole enc Try.prog Try.f7.params.toList Rows.packTwoSpec.vars false W args.toList ds gs before) :
    Calls Try.prog 7 args W fun e W' => ∃ v, e = .returned v ∧ Rows.packTwoSpec.post enc Try.prog Try.f7 false true false false W args v W' := by
  have hW' := hW
  obtain ⟨p, q, hA0, hV, rfl, hfz, hnd⟩ := hW
  have hA : DataW.TrodAll enc Try.prog W 0 (fun _ => true) true Try.f7.params.toList args.toList ds p := hA0
  rw [Try.params7] at hA hval
  obtain ⟨v0, vs0, d0, ds0, p0, q0, hargs, rfl, rfl, h0, r0⟩ := trodAll_cons hA
  obtain ⟨v1, vs1, d1, ds1, p1, q1, rfl, rfl, rfl, h1, r1⟩ := trodAll_cons r0
  obtain ⟨rfl, rfl, rfl⟩ := trodAll_nil r1
  obtain rfl : args = #[v0, v1] := by cases args; simp_all
  obtain ⟨rfl, rfl⟩ := trodVars_none hV
  refine law_contract (tb := 4) laidOut (by kernel_rfl) rfl (by kernel_rfl) Try.underlying4 rfl hW' ?_
  clear hA0 hW' hA
  obtain ⟨A0, k0, l0, rfl, z0, s0, g0⟩ := opened_texts (open_texts Try.underlying23 Try.underlying9 cellsStr (hval 0 23 v0 rfl rfl) h0)
  obtain ⟨A1, k1, l1, rfl, z1, s1, g1⟩ := opened_texts (open_texts Try.underlying23 Try.underlying9 cellsStr (hval 1 23 v1 rfl rfl) h1)
  exact walk A0 A1 k0 k1 l0 l1 W z0 z1 s0 s1 g0 g1

set_option maxRecDepth 100000 in
theorem lifted (os : Os) (started : os.Started) (H : Type) (enc : TypeId × Value → H) :
    ReturnsInHanded {} Try.checked os 7 .any (Rows.packTwoSpec.pre6 enc Try.prog Try.f7 Rows.packTwoRow.domain false) (Rows.packTwoSpec.post enc Try.prog Try.f7 false true false false) := by
  refine returnsInHanded_of_change (C := Try.checked) own started (by kernel_rfl) Try.func7
    (ChangeSpec.witness6 (enc := enc) (C := Try.checked) false ⟨#[], #[.slice none 0 0, .slice none 0 0], []⟩ 8 (by kernel_rfl) (by kernel_rfl) (by kernel_rfl) (by kernel_rfl)) ?_
  intro W base args ds gs before hval hW _ _
  exact contract H enc W base args ds gs before hval hW

/-- THE STATEMENT. -/
theorem said : Rows.PackTwoSaid :=
  OpenClaim.holds_of_wide 7 Try.f7 rfl rfl rfl rfl rfl rfl rfl ⟨rfl, rfl, rfl, rfl, rfl⟩ rfl rfl rfl rfl rfl (by kernel_rfl) Try.func7 (by kernel_rfl)
    (of_decide_eq_true (by kernel_rfl)) (by unfold Func.isWrapper; first | (rw [if_pos (by decide +kernel)]; kernel_rfl) | (rw [if_neg (by decide +kernel)]; exact ⟨rfl, rfl⟩))
    (fun os started H enc _ => lifted os started H enc)
#print axioms said
end Go.Proofs.Ytkfkaijaenjngaa.packTwo
