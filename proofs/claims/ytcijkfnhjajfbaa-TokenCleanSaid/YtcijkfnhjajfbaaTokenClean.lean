/-
  Proves the statement of TokenClean: for every two texts and every number the law returns true (a token that is typed in capital letters, with blanks and dashes between, is cleaned to the same; what was cleaned is cleaned no more), and its arguments read as they did. No condition.
-/
import Derived.Test.YtcijkfnhjajfbaaTkF
import Derived.Test.YtcijkfnhjajfbaaTkT
namespace Go.Proofs.Ytcijkfnhjajfbaa.tokenClean
open Go.ChangeShapes Go.WideShapes Go.ChangeAt Go.RowKit
open Go.ChangeMaps (open_string shut_string)

theorem tok_ten (s : ByteArray) : (cut (s ++ ⟨#[48, 49, 50, 51, 52, 53, 54, 55, 56, 57]⟩) 10).size = 10 := by
  have h : (s ++ ⟨#[48, 49, 50, 51, 52, 53, 54, 55, 56, 57]⟩).size = s.size + 10 := by rw [ByteArray.size_append]; rfl
  unfold cut
  split
  · simp
    have : (⟨#[48, 49, 50, 51, 52, 53, 54, 55, 56, 57]⟩ : ByteArray).size = 10 := rfl
    omega
  · omega
theorem small_letter (c : UInt8) (h : 97 ≤ c.toNat ∧ c.toNat ≤ 122) : Tk.clean [c - 32] = [c] ∧ (c - 32).toNat = c.toNat - 32 := by
  have : ∀ n, n < 256 → 97 ≤ n ∧ n ≤ 122 → Tk.clean [UInt8.ofNat n - 32] = [UInt8.ofNat n] ∧ (UInt8.ofNat n - 32).toNat = n - 32 := by decide +kernel
  have h2 := this c.toNat c.toNat_lt h
  rwa [UInt8.ofNat_toNat] at h2
set_option maxRecDepth 100000 in
set_option maxHeartbeats 8000000 in
theorem walk (s0 o0 : ByteArray) (gp : Nat) (hs0 : s0.size ≤ 140737488351232) (ho0 : o0.size ≤ maxLen) (_hg : gp ≤ 18446744073709551615) (w : World) :
    Calls Try.prog 5 #[.string s0, .int .u64 (gp : Int), .string o0] w fun e w' => e = .returned (.bool true) ∧ Below w.heap.size w w' := by
  have hten := tok_ten s0
  have HSs := Lib.hid (fun W => short_any (s0 ++ ⟨#[48, 49, 50, 51, 52, 53, 54, 55, 56, 57]⟩) 10 (by rw [ByteArray.size_append, show (⟨#[48, 49, 50, 51, 52, 53, 54, 55, 56, 57]⟩ : ByteArray).size = 10 from rfl]; unfold maxLen; omega) W)
  generalize cut (s0 ++ ⟨#[48, 49, 50, 51, 52, 53, 54, 55, 56, 57]⟩) 10 = T at hten HSs
  have hco := cut_size o0 40
  have HSo := Lib.hid (fun W => short_any o0 40 ho0 W)
  generalize cut o0 40 = o at hco HSo
  have hTl : T.data.toList.length = 10 := by have : T.data.toList.length = T.size := by simp
                                             omega
  have HT := Lib.hid (fun W => token_any T (by omega) W)
  rw [show tokS T.data.toList = ba (Tk.enc T.data.toList) by unfold tokS; rw [if_pos hTl]] at HT
  have hDl := Tk.enc_length T.data.toList
  rw [hTl] at hDl
  have hst := Tk.still_enc T.data.toList
  have htok : isTok (Tk.enc T.data.toList) = true := by
    unfold isTok
    rw [(dec_at_some rfl).1, (dec_at_some rfl).2, ba_back, hten]
    rfl
  generalize Tk.enc T.data.toList = D at HT hDl hst htok
  have hds : (ba D).size = 16 := by rw [ba_size]; exact hDl
  have HIS := Lib.hid (fun W => istoken_any (ba D) (by omega) W)
  rw [ba_list, htok] at HIS
  have HST := Lib.hid hst
  have hDL := hDl
  have HDL := Lib.hid hDl
  clear htok hTl hten hst hDl
  go_enter Try.func5, Try.ntmps5
  go_wp2_with fail
  refine (awake_any _).mono ?_
  rintro e w1 ⟨rfl, hb1⟩
  have HB1 := Lib.hid hb1
  clear hb1
  go_wp2_with fail
  refine (HSs.out _).mono ?_
  rintro e w2 ⟨rfl, rfl⟩
  go_wp2_with fail
  refine (HT.out _).mono ?_
  rintro e w2 ⟨rfl, hb⟩
  have HB2 := Lib.hid (HB1.out.trans (hb.mono HB1.out.size))
  clear hb HT HSs
  obtain ⟨d, hd⟩ : ∃ d, ba D = d := ⟨_, rfl⟩
  rw [hd] at HIS hds ⊢
  have HD := Lib.hid hd
  clear hd
  go_wp2_with fail
  go_loopw [9, 10, 11] (fun ty i _ wr => ∃ (k : Nat) (tl : List UInt8), i = .int .i64 (k : Int) ∧ k ≤ 16 ∧ ty = .string (ba tl) ∧ tl.length ≤ 3 * k ∧ Tk.clean tl = D.take k ∧ Below w.heap.size w wr) (fun _ i _ _ => 16 - (intOf i).toNat)
  case atStart => exact ⟨0, [], rfl, by omega, rfl, by simp, rfl, HB2.out⟩
  case round =>
    clear HB2
    obtain ⟨k, tl, rfl, hk, rfl, htl, hcl, hB⟩ := hrel
    have HB := Lib.hid hB
    have HCL := Lib.hid hcl
    have htz : (ba tl).size ≤ 48 := by rw [ba_size]; omega
    clear hB hcl
    by_cases hlt : k < 16
    · have hkd : k < d.size := by omega
      have hki : (k : Int) < (d.size : Int) := by omega
      have hkD : k < D.length := by omega
      have hcx : d[k] = D[k] := by
        have h1 := HD.out
        subst h1
        simp [ba]
        rfl
      obtain ⟨c, hc⟩ : ∃ c, d[k] = c := ⟨_, rfl⟩
      have hck : D[k] = c := by rw [← hcx, hc]
      have hsc := HST.out D[k] (List.getElem_mem hkD)
      rw [hck] at hsc
      have hc1 : Tk.clean [c] = [c] := Tk.clean_still _ (fun x hx => by rw [List.mem_singleton.1 hx]; exact hsc)
      have hct : D.take (k + 1) = D.take k ++ [c] := by rw [List.take_succ_eq_append_getElem hkD, hck]
      clear hcx hck hsc
      have hcl8 := c.toNat_lt
      obtain ⟨b1, hb1⟩ : ∃ b1, (bits BinOp.and IntKind.u64 ((gp : Int) / 2 ^ (k + 32)) 1 == 1) = b1 := ⟨_, rfl⟩
      obtain ⟨b2, hb2⟩ : ∃ b2, (bits BinOp.and IntKind.u64 ((gp : Int) / 2 ^ k) 1 == 1) = b2 := ⟨_, rfl⟩
      have HC1 := Lib.hid hc1
      have HCT := Lib.hid hct
      clear hc1 hct
      by_cases h97 : 97 ≤ c.toNat
      · have g1 : (97 : Int) ≤ (c.toNat : Int) := by omega
        by_cases h122 : c.toNat ≤ 122
        · have g2 : (c.toNat : Int) ≤ 122 := by omega
          cases b1 with
          | true =>
            have hl := small_letter c ⟨h97, h122⟩
            have HC2 := Lib.hid hl.1
            have hcv := run_one (wr.alloc (.cells #[.int .u8 ((c.toNat : Int) - 32)] 5)) wr.heap.size ((c.toNat : Int) - 32) (c - 32) (by rw [hl.2]; omega) (by simp)
            clear hl
            have zc : (ba [c - 32]).size ≤ 1 := by rw [ba_size]; simp
            have zt : (ba tl ++ ⟨#[32, 45]⟩).size ≤ 50 := by rw [ByteArray.size_append]; have : (⟨#[32, 45]⟩ : ByteArray).size = 2 := rfl; omega
            cases b2 with
            | true =>
              go_wp2_with fail
              go_roundw
              case rel => exact ⟨k + 1, tl ++ [32, 45] ++ [c - 32], by go_num, by omega, by rw [← ba_append, ← ba_append]; rfl, by simp; omega, by rw [Tk.clean_append, Tk.clean_append, HCL.out, HC2.out, HCT.out, show Tk.clean [32, 45] = [] by decide, List.append_nil], (HB.out.alloc HB.out.size _)⟩
              case measure => simp [intOf]; omega
            | false =>
              go_wp2_with fail
              go_roundw
              case rel => exact ⟨k + 1, tl ++ [c - 32], by go_num, by omega, by rw [← ba_append], by simp; omega, by rw [Tk.clean_append, HCL.out, HC2.out, HCT.out], (HB.out.alloc HB.out.size _)⟩
              case measure => simp [intOf]; omega
          | false =>
            have HC2 := HC1
            have hcv := run_one (wr.alloc (.cells #[.int .u8 (c.toNat : Int)] 5)) wr.heap.size (c.toNat : Int) c rfl (by simp)
            have zc : (ba [c]).size ≤ 1 := by rw [ba_size]; simp
            have zt : (ba tl ++ ⟨#[32, 45]⟩).size ≤ 50 := by rw [ByteArray.size_append]; have : (⟨#[32, 45]⟩ : ByteArray).size = 2 := rfl; omega
            cases b2 with
            | true =>
              go_wp2_with fail
              go_roundw
              case rel => exact ⟨k + 1, tl ++ [32, 45] ++ [c], by go_num, by omega, by rw [← ba_append, ← ba_append]; rfl, by simp; omega, by rw [Tk.clean_append, Tk.clean_append, HCL.out, HC2.out, HCT.out, show Tk.clean [32, 45] = [] by decide, List.append_nil], (HB.out.alloc HB.out.size _)⟩
              case measure => simp [intOf]; omega
            | false =>
              go_wp2_with fail
              go_roundw
              case rel => exact ⟨k + 1, tl ++ [c], by go_num, by omega, by rw [← ba_append], by simp; omega, by rw [Tk.clean_append, HCL.out, HC2.out, HCT.out], (HB.out.alloc HB.out.size _)⟩
              case measure => simp [intOf]; omega
        · have g2 : ¬ (c.toNat : Int) ≤ 122 := by omega
          have HC2 := HC1
          have hcv := run_one (wr.alloc (.cells #[.int .u8 (c.toNat : Int)] 5)) wr.heap.size (c.toNat : Int) c rfl (by simp)
          have zc : (ba [c]).size ≤ 1 := by rw [ba_size]; simp
          have zt : (ba tl ++ ⟨#[32, 45]⟩).size ≤ 50 := by rw [ByteArray.size_append]; have : (⟨#[32, 45]⟩ : ByteArray).size = 2 := rfl; omega
          cases b2 with
          | true =>
            go_wp2_with fail
            go_roundw
            case rel => exact ⟨k + 1, tl ++ [32, 45] ++ [c], by go_num, by omega, by rw [← ba_append, ← ba_append]; rfl, by simp; omega, by rw [Tk.clean_append, Tk.clean_append, HCL.out, HC2.out, HCT.out, show Tk.clean [32, 45] = [] by decide, List.append_nil], (HB.out.alloc HB.out.size _)⟩
            case measure => simp [intOf]; omega
          | false =>
            go_wp2_with fail
            go_roundw
            case rel => exact ⟨k + 1, tl ++ [c], by go_num, by omega, by rw [← ba_append], by simp; omega, by rw [Tk.clean_append, HCL.out, HC2.out, HCT.out], (HB.out.alloc HB.out.size _)⟩
            case measure => simp [intOf]; omega
      · have g1 : ¬ (97 : Int) ≤ (c.toNat : Int) := by omega
        have HC2 := HC1
        have hcv := run_one (wr.alloc (.cells #[.int .u8 (c.toNat : Int)] 5)) wr.heap.size (c.toNat : Int) c rfl (by simp)
        have zc : (ba [c]).size ≤ 1 := by rw [ba_size]; simp
        have zt : (ba tl ++ ⟨#[32, 45]⟩).size ≤ 50 := by rw [ByteArray.size_append]; have : (⟨#[32, 45]⟩ : ByteArray).size = 2 := rfl; omega
        cases b2 with
        | true =>
          go_wp2_with fail
          go_roundw
          case rel => exact ⟨k + 1, tl ++ [32, 45] ++ [c], by go_num, by omega, by rw [← ba_append, ← ba_append]; rfl, by simp; omega, by rw [Tk.clean_append, Tk.clean_append, HCL.out, HC2.out, HCT.out, show Tk.clean [32, 45] = [] by decide, List.append_nil], (HB.out.alloc HB.out.size _)⟩
          case measure => simp [intOf]; omega
        | false =>
          go_wp2_with fail
          go_roundw
          case rel => exact ⟨k + 1, tl ++ [c], by go_num, by omega, by rw [← ba_append], by simp; omega, by rw [Tk.clean_append, HCL.out, HC2.out, HCT.out], (HB.out.alloc HB.out.size _)⟩
          case measure => simp [intOf]; omega
    · obtain rfl : k = 16 := by omega
      have hDt : D.take 16 = D := List.take_of_length_le (by omega)
      rw [hDt] at HCL
      have HC1 := Lib.hid (fun W => clean_any o (by omega) W)
      have hxl := Tk.clean_length o.data.toList
      have hol : o.data.toList.length = o.size := by simp
      have HC2 := Lib.hid (fun W => clean_any (ba tl) (by omega) W)
      rw [ba_list, HCL.out, HD.out] at HC2
      have hxz : (ba (Tk.clean o.data.toList)).size ≤ o.size := by rw [ba_size]; omega
      have HC3 := Lib.hid (fun W => clean_any (ba (Tk.clean o.data.toList)) (by omega) W)
      rw [ba_list, Tk.clean_twice] at HC3
      generalize ba (Tk.clean o.data.toList) = x at HC1 HC3 hxz
      generalize ba tl = ty at HC2 htz ⊢
      have hself : (x.toList == x.toList) = true := by simp
      have hself2 : (d.toList == d.toList) = true := by simp
      have hxle : (x.size : Int) ≤ (o.size : Int) := by omega
      have hd16 : (d.size : Int) = 16 := by omega
      clear hxl hol hDt
      go_wp2_with fail
      refine (HSo.out _).mono ?_
      rintro e w3 ⟨rfl, rfl⟩
      go_wp2_with fail
      refine (HC1.out _).mono ?_
      rintro e w3 ⟨rfl, hb⟩
      have HB3 := Lib.hid (HB.out.trans (hb.mono HB.out.size))
      clear hb
      go_wp2_with fail
      refine (HIS.out _).mono ?_
      rintro e w4 ⟨rfl, hb⟩
      have HB4 := Lib.hid (HB3.out.trans (hb.mono HB3.out.size))
      clear hb
      go_wp2_with fail
      refine (HC2.out _).mono ?_
      rintro e w5 ⟨rfl, hb⟩
      have HB5 := Lib.hid (HB4.out.trans (hb.mono HB4.out.size))
      clear hb
      go_wp2_with fail
      refine (HC3.out _).mono ?_
      rintro e w6 ⟨rfl, hb⟩
      have HB6 := Lib.hid (HB5.out.trans (hb.mono HB5.out.size))
      clear hb
      go_wp2_with fail
      refine (HSo.out _).mono ?_
      rintro e w7 ⟨rfl, rfl⟩
      go_wp2_with fail
      go_ret
      exact ⟨rfl, HB6.out⟩

/-! ### The row -/
theorem contract (H : Type) (enc : TypeId × Value → H) (W : World) (base : Nat) (args : Array Value) (ds gs : List (DataW H)) (before : List MemPlace)
    (hval : ∀ (j : Nat) t v, Try.f5.params[j]? = some t → args[j]? = some v → Value.okWide Try.prog W .any base t v)
    (hW : DataW.Whole enc Try.prog Try.f5.params.toList Rows.tokenCleanSpec.vars false W args.toList ds gs before)
    (hz : (DataW.weightsEach Try.prog (Try.f5.params.toList ++ Rows.tokenCleanSpec.plain.varTypes Try.prog) (ds ++ gs)).all (· ≤ reachBytes) = true) :
    Calls Try.prog 5 args W fun e W' => ∃ v, e = .returned v ∧ Rows.tokenCleanSpec.post enc Try.prog Try.f5 false true false false W args v W' := by
  have hW' := hW
  obtain ⟨p, q, hA0, hV, rfl, hfz, hnd⟩ := hW
  have hA : DataW.TrodAll enc Try.prog W 0 (fun _ => true) true Try.f5.params.toList args.toList ds p := hA0
  rw [Try.params5] at hA hval hz
  obtain ⟨v0, vs0, d0, ds0, p0, q0, hargs, rfl, rfl, h0, r0⟩ := trodAll_cons hA
  obtain ⟨v1, vs1, d1, ds1, p1, q1, rfl, rfl, rfl, h1, r1⟩ := trodAll_cons r0
  obtain ⟨v2, vs2, d2, ds2, p2, q2, rfl, rfl, rfl, h2, r2⟩ := trodAll_cons r1
  obtain ⟨rfl, rfl, rfl⟩ := trodAll_nil r2
  obtain rfl : args = #[v0, v1, v2] := by cases args; simp_all
  obtain ⟨rfl, rfl⟩ := trodVars_none hV
  refine law_contract (tb := 4) laidOut (by kernel_rfl) rfl (by kernel_rfl) Try.underlying4 rfl hW' ?_
  clear hA0 hW' hA
  obtain ⟨a0, rfl, rfl, _, w0⟩ := open_string Try.underlying9 (hval 0 9 v0 rfl rfl) h0
  obtain ⟨a1, rfl, rfl, rfl, w1⟩ := open_int Try.underlying31 (hval 1 31 v1 rfl rfl) h1
  obtain ⟨n1, rfl, b1⟩ := bounds_u64 w1
  obtain ⟨a2, rfl, _, _, w2⟩ := open_string Try.underlying9 (hval 2 9 v2 rfl rfl) h2
  exact walk a0 a2 n1 (by have h := sized_string hz (j := 0) (t := 9) rfl rfl; simp [reachBytes] at h; omega) w2 b1 W

set_option maxRecDepth 100000 in
theorem lifted (os : Os) (started : os.Started) (H : Type) (enc : TypeId × Value → H) :
    ReturnsInHanded {} Try.checked os 5 .any (Rows.tokenCleanSpec.pre6 enc Try.prog Try.f5 Rows.tokenCleanRow.domain false) (Rows.tokenCleanSpec.post enc Try.prog Try.f5 false true false false) := by
  have e : (fun (w : World) (args : Array Value) => (Rows.tokenCleanSpec.pre enc Try.prog Try.f5 Rows.tokenCleanRow.domain false w args ∧ True) ∧ sizedMet enc Try.prog Try.f5 (OpenSpec.ofChange Rows.tokenCleanSpec) false w args) =
      Rows.tokenCleanSpec.pre6 enc Try.prog Try.f5 Rows.tokenCleanRow.domain false := by
    funext w args
    simp [ChangeSpec.pre6]
  rw [← e]
  refine returnsInHanded_of_change_and (C := Try.checked) (X := fun _ _ => True) (fun _ _ _ _ h => h) own started (by kernel_rfl) Try.func5 ?_ ?_
  · obtain ⟨w, tape, i, h1, h2, h3, h4, ⟨h5, h6⟩, h7⟩ := (ChangeSpec.witness6 (enc := enc) (C := Try.checked) (os := os) (f := 5) (s := Rows.tokenCleanSpec) (conds := Rows.tokenCleanRow.domain) false ⟨#[], #[.string ⟨#[]⟩, .int .u64 0, .string ⟨#[]⟩], []⟩ 8 (by kernel_rfl) (by kernel_rfl) (by kernel_rfl) (by kernel_rfl))
    exact ⟨w, tape, i, h1, h2, h3, h4, ⟨⟨h5, trivial⟩, h6⟩, h7⟩
  · intro W base args ds gs before hval hW _ hz _ _
    exact contract H enc W base args ds gs before hval hW hz

/-- THE STATEMENT. -/
theorem said : Rows.TokenCleanSaid :=
  OpenClaim.holds_of_wide 5 Try.f5 rfl rfl rfl rfl rfl rfl rfl ⟨rfl, rfl, rfl, rfl, rfl⟩ rfl rfl rfl rfl rfl (by kernel_rfl) Try.func5 (by kernel_rfl)
    (of_decide_eq_true (by kernel_rfl)) (by unfold Func.isWrapper; first | (rw [if_pos (by decide +kernel)]; kernel_rfl) | (rw [if_neg (by decide +kernel)]; exact ⟨rfl, rfl⟩))
    (fun os started H enc _ => lifted os started H enc)
#print axioms said
end Go.Proofs.Ytcijkfnhjajfbaa.tokenClean
