/-
  Proves the statement of FrameTells: for every text, every row of texts and every three numbers the law returns true (records are written, and read, as P4.1 and P4.2 say), and its arguments read as they did. Condition: the package-level table halfBytes holds what its text lays.
-/
import Derived.Test.YtgbopohbhnpceaaDoorFrameP
import Derived.Test.YtgbopohbhnpceaaDoorByt
import Derived.Test.YtgbopohbhnpceaaDoorCrcTable
import Derived.Deep.RegionHeld3
import Derived.Test.YtgbopohbhnpceaaDoorCards
import Derived.Test.YtgbopohbhnpceaaDoorTie
namespace Go.Proofs.YtgbopohbhnpceaaDoor.frameTells
open Go.ChangeShapes Go.WideShapes Go.ChangeAt Go.RowKit
open Go.ChangeMaps (open_string shut_string)

theorem byte_int (z : Int) : ∃ b : UInt8, z % 256 = (b.toNat : Int) := by
  refine ⟨UInt8.ofNat (z % 256).toNat, ?_⟩
  rw [UInt8.toNat_ofNat']
  omega
theorem xor_byte (x y : UInt8) : bits .xor .u8 (x.toNat : Int) (y.toNat : Int) = ((x ^^^ y).toNat : Int) := by
  rw [u8_xor_nat _ _ x.toNat_lt y.toNat_lt, UInt8.toNat_xor]
theorem BL.take {w : World} {b : Nat} {l : List UInt8} (h : BL w b l) (k : Nat) : BL w b (l.take k) := by
  intro j hj
  have hj' : j < l.length := by rw [List.length_take] at hj; omega
  have := h j hj'
  rw [List.getElem_take]
  exact this

set_option maxRecDepth 100000 in
set_option maxHeartbeats 4000000 in
theorem walk (s : ByteArray) (hs : s.size ≤ maxLen) (A0 : Option Addr) (c0 : Nat) (l : List ByteArray) (hl : l.length ≤ maxLen) (hls : ∀ s ∈ l, s.size ≤ maxLen) (q0 q1 q2 : Int) (hq0 : -9223372036854775808 ≤ q0 ∧ q0 ≤ 9223372036854775807) (w : World) (hA : Lies (fun _ => False) w A0 (cs l)) (ht : Tab w) :
    Calls Tryd.prog 3 #[.string s, .slice A0 l.length c0, .agg #[.int .i64 q0, .int .i64 q1, .int .i64 q2]] w fun e w' => e = .returned (.bool true) ∧ Below w.heap.size w w' := by
  have HFew := Lib.hid (fun W (h : Lies (fun _ => False) W A0 (cs l)) => few_any W A0 c0 l hl hls h)
  have HLn := Lib.hid (fw_len l)
  have HOk := Lib.hid (fw_ok l)
  have HSz := Lib.hid (all_fw l)
  have HSh := Lib.hid (fun W => short_any s 200 hs W)
  have hC := cut_size s 200
  have hcv := run_bytes_of
  have HA := Lib.hid hA
  have HT := Lib.hid ht
  obtain ⟨b1, hb1⟩ := byte_int q1
  clear hl hls hs hA ht
  generalize cut s 200 = c at HSh hC
  generalize fw l = m at HFew HLn HOk HSz
  have HAll := Lib.hid (fun W A c (h : Lies (fun _ => False) W A (cs m)) => refAll_any W A c m (by have := HLn.out; omega) (fun s hs => by have := HOk.out s hs; omega) h)
  generalize ba (Fr.all (tx m)) = Y at HSz HAll
  have hY6 := HSz.out
  have HTl := Lib.hid (fun (t : ByteArray) (h : t.size ≤ 900) W (hW : Tab W) => tells_any t h q0 hq0.1 hq0.2 W hW)
  clear HLn HOk HSz
  obtain ⟨w0, hw0⟩ : ∃ w0, w.alloc (.cells #[.int .i64 q0, .int .i64 q1, .int .i64 q2] 23) = w0 := ⟨_, rfl⟩
  have hbz : Below w.heap.size w w0 := by rw [← hw0]; exact (Below.refl _ w).alloc (Nat.le_refl _) _
  have HB0 := Lib.hid hbz
  have HT0 := Lib.hid (HT.out.below hbz HT.out.lt)
  have HA0 := Lib.hid (HA.out.below hbz)
  have HK0 : Hid (Blk w0 w.heap.size 23 #[.int .i64 q0, .int .i64 q1, .int .i64 q2]) := by
    show Blk w0 w.heap.size 23 #[.int .i64 q0, .int .i64 q1, .int .i64 q2]
    rw [← hw0]; exact Blk.new w _ _
  clear hbz
  go_enter Tryd.func3, Tryd.ntmps3
  go_wp2_with fail
  clear hw0
  generalize hgq : w.heap.size = gq at HK0 ⊢
  refine (awake_any _ (by exact HT0.out)).mono ?_
  rintro e w1 ⟨rfl, hb1⟩
  have HT1 := Lib.hid (HT0.out.below hb1 HT0.out.lt)
  have HB1 := Lib.hid (HB0.out.trans (hb1.mono HB0.out.size))
  have HA1 := Lib.hid (HA0.out.below hb1)
  have HK1 := Lib.hid (HK0.out.below hb1 HK0.out.lt)
  clear hb1
  go_wp2_with fail
  refine (HSh.out _).mono ?_
  rintro e w1' ⟨rfl, rfl⟩
  go_wp2_with fail
  refine (HFew.out _ (by exact HA1.out)).mono ?_
  rintro e w2 ⟨A2, c2, rfl, hown2, hb2⟩
  have HT2 := Lib.hid (HT1.out.below hb2 HT1.out.lt)
  have HB2 := Lib.hid (HB1.out.trans (hb2.mono HB1.out.size))
  have HM2 := Lib.hid (Lies.own (S := fun _ => False) hown2 (fun _ _ _ h => h))
  have HK2 := Lib.hid (HK1.out.below hb2 HK1.out.lt)
  clear hb2 hown2
  go_wp2_with fail
  refine (HAll.out _ _ _ (by exact HM2.out)).mono ?_
  rintro e w3 ⟨rfl, hb3⟩
  have HT3 := Lib.hid (HT2.out.below hb3 HT2.out.lt)
  have HB3 := Lib.hid (HB2.out.trans (hb3.mono HB2.out.size))
  have HK3 := Lib.hid (HK2.out.below hb3 HK2.out.lt)
  clear hb3
  have hb4 := below_bytes w3 Y
  have HT4 := Lib.hid (HT3.out.below hb4 HT3.out.lt)
  have HB4 := Lib.hid (HB3.out.trans (hb4.mono HB3.out.size))
  have HK4 := Lib.hid (HK3.out.below hb4 HK3.out.lt)
  have HL4 := Lib.hid (BL.new w3 Y)
  have hlt4 : w3.heap.size < (Lib.bytesWorld w3 5 Y).heap.size := by rw [Lib.bytesWorld_size]; omega
  have hne4 : gq ≠ w3.heap.size := by have := HK3.out.lt; omega
  have hcv3 := hcv w3 Y
  have hTg := HT3.out.lt
  have hBg := HB3.out.size
  have hcp := grownCap_ge w3 Y.size 0 5
  generalize Lib.bytesWorld w3 5 Y = w4 at hb4 HT4 HB4 HK4 HL4 hlt4 hcv3
  generalize w3.heap.size = g4 at HL4 hlt4 hne4 hcv3 hTg hBg
  generalize grownCap w3 Y.size 0 5 = cp at hcv3 hcp
  clear hb4 hcv
  have hk0 := HK4.out.cell 0
  have hk1 := HK4.out.cell 1
  have hk2 := HK4.out.cell 2
  simp only [List.getElem?_toArray, List.getElem?_cons_zero, List.getElem?_cons_succ] at hk0 hk1 hk2
  by_cases hY0 : Y.size = 0
  · have hYi : ¬ (0 : Int) < (Y.size : Int) := by omega
    go_wp2_with fail
    obtain ⟨T, hT⟩ : ∃ T, ba (Y.data.toList) = T := ⟨_, rfl⟩
    have hTs : T.size = 0 := by rw [← hT, ba_size]; exact (by rw [size_list]; exact hY0)
    have HCv : Hid (∀ W, BL W g4 (Y.data.toList) → ∀ cap, (convert 26 9 (.slice (some ⟨g4, 0, none⟩) 0 cap)).run Tryd.prog W = .ok (.string T) W) := fun W h cap => by rw [← hT]; exact h.text _ cap (by rw [size_list]; exact hY0)
    have HTe1 := Lib.hid (HTl.out c (by omega))
    have HTe2 := Lib.hid (HTl.out (T ++ c) (by rw [size_append]; omega))
    have hsum : T.size + c.size ≤ 900 := by omega
    have hsum2 : ¬ (9223372036854775807 < T.size + c.size) := by omega
    clear hT HTl hTs
    have HS : Hid (∀ W, Below w4.heap.size w4 W → (W.cell? ⟨gq, 0, none⟩ = some (.int .i64 q0) ∧ (convert 26 9 (.slice (some ⟨g4, 0, none⟩) 0 cp)).run Tryd.prog W = .ok (.string T) W)) := fun W h => ⟨(h.cell (p := ⟨gq, 0, none⟩) HK4.out.lt).trans (HK4.out.cell 0), HCv.out _ (HL4.out.below h hlt4) cp⟩
    have S0 := HS.out w4 (Below.refl _ _)
    have S1 := HS.out w4.drew (below_drewN (Below.refl _ _) 1)
    go_region_held3 (fun w' => w'.cell? ⟨gq, 0, none⟩ = some (.int .i64 q0) ∧ (convert 26 9 (.slice (some ⟨g4, 0, none⟩) 0 cp)).run Tryd.prog w' = .ok (.string T) w')
      (first | (exact S0) | (exact S1) | (exact S2) | (exact S3) | go_keep)
      (first
        | (go_at_call 13
           have ht6 := HT4.out.below (undrew hb6) HT4.out.lt
           refine (HTe2.out _ (by exact ht6)).mono ?_
           rintro e w7 ⟨rfl, hb7⟩
           have S3 := HS.out w7 ((undrew hb6).trans (hb7.mono (undrew hb6).size)))
        | (go_at_call 13
           refine (HTe1.out _ (by exact HT4.out)).mono ?_
           rintro e w6 ⟨rfl, hb6⟩
           have S2 := HS.out w6 (undrew hb6))
        | (go_at_call 14
           refine (size_any _ _).mono ?_
           rintro e w' ⟨rfl, rfl⟩)
        | (go_at_call 15
           refine (refSize_any _ _).mono ?_
           rintro e w' ⟨rfl, rfl⟩))
    all_goals
      have hb6' := undrew hb6
      go_wp2_with fail
      go_ret
      exact ⟨rfl, (HB4.out.trans (hb6'.mono HB4.out.size)).trans (hb7.mono (HB4.out.trans (hb6'.mono HB4.out.size)).size)⟩
  · have hYi : (0 : Int) < (Y.size : Int) := by omega
    obtain ⟨k, hk, ek⟩ := mod_nat q0 Y.size (by omega) (by omega)
    have hne : ¬ ((Y.size : Int) = 0) := by omega
    have hne' : (Y.size : Int) ≠ 0 := hne
    obtain ⟨hx, hf⟩ := HL4.out k (by rw [size_list]; exact hk)
    have HL5 := Lib.hid (HL4.out.set k (by rw [size_list]; exact hk) (Y.data.toList[k]'(by rw [size_list]; exact hk) ^^^ b1))
    have hll : (Y.data.toList.set k (Y.data.toList[k]'(by rw [size_list]; exact hk) ^^^ b1)).length = Y.size := by rw [List.length_set, size_list]
    have hxb := xor_byte (Y.data.toList[k]'(by rw [size_list]; exact hk)) b1
    generalize Y.data.toList.set k (Y.data.toList[k]'(by rw [size_list]; exact hk) ^^^ b1) = L5 at HL5 hll
    generalize (Y.data.toList[k]'(by rw [size_list]; exact hk)) = x at hx HL5 hxb
    go_wp2_with fail
    go_region
    rw [UInt8.toNat_xor] at HL5
    have hbs : Below g4 w4 (w4.setCell ⟨g4, k, none⟩ (.int .u8 ((x.toNat ^^^ b1.toNat : Nat) : Int))).drew := ((Below.refl g4 w4).setCell (p := ⟨g4, k, none⟩) (Nat.le_refl _) _).drew
    have HT5 := Lib.hid (HT4.out.below hbs hTg)
    have HB5 := Lib.hid (HB4.out.trans (hbs.mono hBg))
    have HK5 : Hid (Blk (w4.setCell ⟨g4, k, none⟩ (.int .u8 ((x.toNat ^^^ b1.toNat : Nat) : Int))).drew gq 23 #[.int .i64 q0, .int .i64 q1, .int .i64 q2]) := HK4.out.far (p := ⟨g4, k, none⟩) hne4 _
    have HL6 : Hid (BL (w4.setCell ⟨g4, k, none⟩ (.int .u8 ((x.toNat ^^^ b1.toNat : Nat) : Int))).drew g4 L5) := HL5.out
    have hlt5 : g4 < (w4.setCell ⟨g4, k, none⟩ (.int .u8 ((x.toNat ^^^ b1.toNat : Nat) : Int))).drew.heap.size := Nat.lt_of_lt_of_le hlt4 hbs.size
    generalize (w4.setCell ⟨g4, k, none⟩ (.int .u8 ((x.toNat ^^^ b1.toNat : Nat) : Int))).drew = w5 at hbs HT5 HB5 HK5 HL6 hlt5 ⊢
    clear hbs HL5 hx hf hxb hk0 hk1 hk2
    have hk0 := HK5.out.cell 0
    have hk2 := HK5.out.cell 2
    simp only [List.getElem?_toArray, List.getElem?_cons_zero, List.getElem?_cons_succ] at hk0 hk2
    cases hbq : (bits .and .i64 q2 (3 : Int) == (0 : Int)) with
    | true =>
      have hbq' : bits .and .i64 q2 (3 : Int) = 0 := by simpa using hbq
      go_wp2_with fail
      have HL7 := Lib.hid (BL.take HL6.out k)
      obtain ⟨T, hT⟩ : ∃ T, ba (L5.take k) = T := ⟨_, rfl⟩
      have hTs : T.size = k := by rw [← hT, ba_size]; exact (by rw [List.length_take]; omega)
      have HCv : Hid (∀ W, BL W g4 (L5.take k) → ∀ cap, (convert 26 9 (.slice (some ⟨g4, 0, none⟩) k cap)).run Tryd.prog W = .ok (.string T) W) := fun W h cap => by rw [← hT]; exact h.text _ cap (by rw [List.length_take]; omega)
      have HTe1 := Lib.hid (HTl.out c (by omega))
      have HTe2 := Lib.hid (HTl.out (T ++ c) (by rw [size_append]; omega))
      have hsum : T.size + c.size ≤ 900 := by omega
      have hsum2 : ¬ (9223372036854775807 < T.size + c.size) := by omega
      clear hT HTl hTs
      have HS : Hid (∀ W, Below w5.heap.size w5 W → (W.cell? ⟨gq, 0, none⟩ = some (.int .i64 q0) ∧ (convert 26 9 (.slice (some ⟨g4, 0, none⟩) k cp)).run Tryd.prog W = .ok (.string T) W)) := fun W h => ⟨(h.cell (p := ⟨gq, 0, none⟩) HK5.out.lt).trans (HK5.out.cell 0), HCv.out _ (HL7.out.below h hlt5) cp⟩
      have S0 := HS.out w5 (Below.refl _ _)
      have S1 := HS.out w5.drew (below_drewN (Below.refl _ _) 1)
      go_region_held3 (fun w' => w'.cell? ⟨gq, 0, none⟩ = some (.int .i64 q0) ∧ (convert 26 9 (.slice (some ⟨g4, 0, none⟩) k cp)).run Tryd.prog w' = .ok (.string T) w')
        (first | (exact S0) | (exact S1) | (exact S2) | (exact S3) | go_keep)
        (first
          | (go_at_call 13
             have ht6 := HT5.out.below (undrew hb6) HT5.out.lt
             refine (HTe2.out _ (by exact ht6)).mono ?_
             rintro e w7 ⟨rfl, hb7⟩
             have S3 := HS.out w7 ((undrew hb6).trans (hb7.mono (undrew hb6).size)))
          | (go_at_call 13
             refine (HTe1.out _ (by exact HT5.out)).mono ?_
             rintro e w6 ⟨rfl, hb6⟩
             have S2 := HS.out w6 (undrew hb6))
          | (go_at_call 14
             refine (size_any _ _).mono ?_
             rintro e w' ⟨rfl, rfl⟩)
          | (go_at_call 15
             refine (refSize_any _ _).mono ?_
             rintro e w' ⟨rfl, rfl⟩))
      all_goals
        have hb6' := undrew hb6
        go_wp2_with fail
        go_ret
        exact ⟨rfl, (HB5.out.trans (hb6'.mono HB5.out.size)).trans (hb7.mono (HB5.out.trans (hb6'.mono HB5.out.size)).size)⟩
    | false =>
      have hbq' : ¬ bits .and .i64 q2 (3 : Int) = 0 := by simpa using hbq
      go_wp2_with fail
      obtain ⟨T, hT⟩ : ∃ T, ba (L5) = T := ⟨_, rfl⟩
      have hTs : T.size = Y.size := by rw [← hT, ba_size]; exact hll
      have HCv : Hid (∀ W, BL W g4 (L5) → ∀ cap, (convert 26 9 (.slice (some ⟨g4, 0, none⟩) Y.size cap)).run Tryd.prog W = .ok (.string T) W) := fun W h cap => by rw [← hT]; exact h.text _ cap hll
      have HTe1 := Lib.hid (HTl.out c (by omega))
      have HTe2 := Lib.hid (HTl.out (T ++ c) (by rw [size_append]; omega))
      have hsum : T.size + c.size ≤ 900 := by omega
      have hsum2 : ¬ (9223372036854775807 < T.size + c.size) := by omega
      clear hT HTl hTs
      have HS : Hid (∀ W, Below w5.heap.size w5 W → (W.cell? ⟨gq, 0, none⟩ = some (.int .i64 q0) ∧ (convert 26 9 (.slice (some ⟨g4, 0, none⟩) Y.size cp)).run Tryd.prog W = .ok (.string T) W)) := fun W h => ⟨(h.cell (p := ⟨gq, 0, none⟩) HK5.out.lt).trans (HK5.out.cell 0), HCv.out _ (HL6.out.below h hlt5) cp⟩
      have S0 := HS.out w5 (Below.refl _ _)
      have S1 := HS.out w5.drew (below_drewN (Below.refl _ _) 1)
      go_region_held3 (fun w' => w'.cell? ⟨gq, 0, none⟩ = some (.int .i64 q0) ∧ (convert 26 9 (.slice (some ⟨g4, 0, none⟩) Y.size cp)).run Tryd.prog w' = .ok (.string T) w')
        (first | (exact S0) | (exact S1) | (exact S2) | (exact S3) | go_keep)
        (first
          | (go_at_call 13
             have ht6 := HT5.out.below (undrew hb6) HT5.out.lt
             refine (HTe2.out _ (by exact ht6)).mono ?_
             rintro e w7 ⟨rfl, hb7⟩
             have S3 := HS.out w7 ((undrew hb6).trans (hb7.mono (undrew hb6).size)))
          | (go_at_call 13
             refine (HTe1.out _ (by exact HT5.out)).mono ?_
             rintro e w6 ⟨rfl, hb6⟩
             have S2 := HS.out w6 (undrew hb6))
          | (go_at_call 14
             refine (size_any _ _).mono ?_
             rintro e w' ⟨rfl, rfl⟩)
          | (go_at_call 15
             refine (refSize_any _ _).mono ?_
             rintro e w' ⟨rfl, rfl⟩))
      all_goals
        have hb6' := undrew hb6
        go_wp2_with fail
        go_ret
        exact ⟨rfl, (HB5.out.trans (hb6'.mono HB5.out.size)).trans (hb7.mono (HB5.out.trans (hb6'.mono HB5.out.size)).size)⟩

/-! ### The row -/
theorem contract (H : Type) (enc : TypeId × Value → H) (W : World) (base : Nat) (args : Array Value) (ds gs : List (DataW H)) (before : List MemPlace)
    (hval : ∀ (j : Nat) t v, Tryd.f3.params[j]? = some t → args[j]? = some v → Value.okWide Tryd.prog W .any base t v)
    (hW : DataW.Whole enc Tryd.prog Tryd.f3.params.toList Rows.frameTellsSpec.vars false W args.toList ds gs before) (hL : laidMetH Tryd.prog Rows.frameTellsRow.laid W) :
    Calls Tryd.prog 3 args W fun e W' => ∃ v, e = .returned v ∧ Rows.frameTellsSpec.post enc Tryd.prog Tryd.f3 false true false false W args v W' := by
  have hW' := hW
  obtain ⟨p, q, hA0, hV, rfl, hfz, hnd⟩ := hW
  have hA : DataW.TrodAll enc Tryd.prog W 0 (fun _ => true) true Tryd.f3.params.toList args.toList ds p := hA0
  rw [Tryd.params3] at hA hval
  obtain ⟨v0, vs0, d0, ds0, p0, q0, hargs, rfl, rfl, h0, r0⟩ := trodAll_cons hA
  obtain ⟨v1, vs1, d1, ds1, p1, q1, rfl, rfl, rfl, h1, r1⟩ := trodAll_cons r0
  obtain ⟨v2, vs2, d2, ds2, p2, q2, rfl, rfl, rfl, h2, r2⟩ := trodAll_cons r1
  obtain ⟨rfl, rfl, rfl⟩ := trodAll_nil r2
  obtain rfl : args = #[v0, v1, v2] := by cases args; simp_all
  obtain ⟨rfl, rfl⟩ := trodVars_none hV
  refine law_contract (tb := 4) laidOut (by kernel_rfl) rfl (by kernel_rfl) Tryd.underlying4 rfl hW' ?_
  clear hA0 hW' hA
  obtain ⟨a0, rfl, _, _, w0⟩ := open_string Tryd.underlying9 (hval 0 9 v0 rfl rfl) h0
  obtain ⟨A1, k1, l1, rfl, zl1, s1, g1⟩ := opened_texts (open_texts Tryd.underlying22 Tryd.underlying9 cellsStr (hval 1 22 v1 rfl rfl) h1)
  obtain ⟨zs, rfl, hz, wz⟩ := open_array Tryd.underlying23 Tryd.underlying3 cellsInt (by kernel_rfl) (hval 2 23 v2 rfl rfl) h2
  match zs, hz with
  | [z0, z1, z2], _ =>
    exact walk a0 w0 A1 k1 l1 zl1 s1 z0 z1 z2 (bounds_int (wz z0 (by simp))) W g1 (tab_of_laid hL)

theorem laid_met (os : Os) : laidMet Tryd.prog Rows.frameTellsRow.laid ((laidWorld os).forCall (fun _ _ => 0) ⟨#[], #[.string ⟨#[]⟩, .slice none 0 0, .agg #[.int .i64 0, .int .i64 0, .int .i64 0]], []⟩).memory :=
  laidMet_of_run' 8 (by kernel_rfl) (by kernel_rfl)
theorem reads (os : Os) {H : Type} (enc : TypeId × Value → H) : ∃ places, DataW.whole enc Tryd.prog ((laidWorld os).forCall (fun _ _ => 0) ⟨#[], #[.string ⟨#[]⟩, .slice none 0 0, .agg #[.int .i64 0, .int .i64 0, .int .i64 0]], []⟩).memory Tryd.f3.params.toList Rows.frameTellsSpec.vars false (#[.string ⟨#[]⟩, .slice none 0 0, .agg #[.int .i64 0, .int .i64 0, .int .i64 0]] : Array Value).toList 8 = some ([.lit (.string []), .nil, .agg [.lit (.int .i64 0), .lit (.int .i64 0), .lit (.int .i64 0)]], [], places) :=
  ⟨[], by kernel_rfl⟩

set_option maxRecDepth 100000 in
theorem lifted (os : Os) (started : os.Started) (H : Type) (enc : TypeId × Value → H) (F : Stop.Interp) :
    ReturnsInHanded {} Tryd.checked os 3 .any ((OpenSpec.ofChange Rows.frameTellsSpec).preRow enc Tryd.prog Tryd.f3 Rows.frameTellsRow.domain false Rows.frameTellsRow.laid) (((OpenSpec.ofChange Rows.frameTellsSpec).at F).post enc Tryd.prog Tryd.f3 false true false false) := by
  obtain ⟨places, hx⟩ := reads os enc
  refine returnsInHanded_of_row (C := Tryd.checked) (s := OpenSpec.ofChange Rows.frameTellsSpec) own started (by kernel_rfl) Tryd.func3
    (witness_row_at (enc := enc) (C := Tryd.checked) false (laidWorld os) #[.string ⟨#[]⟩, .slice none 0 0, .agg #[.int .i64 0, .int .i64 0, .int .i64 0]] rfl (by kernel_rfl) (by kernel_rfl) (by kernel_rfl)
      (OpenSpec.preRow_of_cond 8 hx (by kernel_rfl) (fun k hk => by cases hk) (by kernel_rfl) (laid_met os))) ?_
  intro W base args ds gs before hval hW _ _ _ hL _ _
  exact contract H enc W base args ds gs before hval hW hL

theorem said : Rows.FrameTellsSaid :=
  OpenClaim.holds_of_cond 3 Tryd.f3 rfl rfl rfl rfl rfl rfl rfl ⟨rfl, rfl, rfl, rfl, rfl⟩ rfl rfl rfl rfl rfl (by kernel_rfl) Tryd.func3 (by kernel_rfl)
    (of_decide_eq_true (by kernel_rfl)) (by unfold Func.isWrapper; first | (rw [if_pos (by decide +kernel)]; kernel_rfl) | (rw [if_neg (by decide +kernel)]; exact ⟨rfl, rfl⟩))
    (fun os started H enc _ F => by rw [OpenClaim.pre_eq_preRow]; exact lifted os started H enc F)

theorem plain (f : FuncId) (fn : Func) (hf : Tryd.pinned.checked.prog.funcNamed "homecoming/homecominglaw04.FrameTells" = some f) (hfn : Tryd.pinned.checked.prog.funcs[f]? = some fn) :
    false = Tryd.pinned.checked.prog.looks [] ∧ ∀ (j : Nat) t, fn.params[j]? = some t → Tryd.pinned.checked.prog.wantsStandIn t = false := by
  obtain rfl : f = 3 := Option.some.inj ((show Tryd.prog.funcNamed "homecoming/homecominglaw04.FrameTells" = some 3 by kernel_rfl).symm.trans hf) |>.symm
  obtain rfl : fn = Tryd.f3 := (Option.some.inj (Tryd.func3.symm.trans hfn)).symm
  refine ⟨by kernel_rfl, fun j t ht => ?_⟩
  have hall : (Tryd.f3.params.toList.all fun u => !Tryd.prog.wantsStandIn u) = true := by kernel_rfl
  have hm : t ∈ Tryd.f3.params.toList := by simpa using Array.mem_of_getElem? ht
  exact (show Tryd.prog.wantsStandIn t = false by simpa using List.all_eq_true.1 hall t hm)

/-- THE STATEMENT. -/
theorem card : Rows.FrameTellsCardSaid :=
  Claim7.holds_tied_plain_at .later [] _ _ _ _ said (fun _ h => by cases h) (by kernel_rfl) (fun _ h => by cases h) frameTells_row_tie rfl ⟨rfl, rfl⟩ (by kernel_rfl) rfl plain (by kernel_rfl)
#print axioms card
end Go.Proofs.YtgbopohbhnpceaaDoor.frameTells
