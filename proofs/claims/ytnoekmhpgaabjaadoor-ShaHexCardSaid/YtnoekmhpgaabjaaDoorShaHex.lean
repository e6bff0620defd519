/-
  Proves the statement of ShaHex: for every text the law returns true (digits are two of each byte, and tell it again), and its argument reads as it did. Condition: the package-level tables cubeRoots and squareRoots hold what their texts lay.
-/
import Derived.Test.YtnoekmhpgaabjaaDoorShort06
import Derived.Test.YtnoekmhpgaabjaaDoorShS
import Derived.Test.YtnoekmhpgaabjaaDoorCards
import Derived.Test.YtnoekmhpgaabjaaDoorTie
namespace Go.Proofs.YtnoekmhpgaabjaaDoor.shaHex
open Go.ChangeShapes Go.WideShapes Go.ChangeAt Go.RowKit
open Go.ChangeMaps (open_string shut_string)

theorem digit_low (n : Nat) (h : n < 10) : (Sh.digit n).toNat = 48 + n := by
  have : ∀ j : Fin 10, (Sh.digit j.val).toNat = 48 + j.val := by decide
  exact this ⟨n, h⟩
theorem digit_high (n : Nat) (h : n < 16) (h2 : ¬ n < 10) : (Sh.digit n).toNat = 87 + n := by
  have : ∀ j : Fin 16, ¬ j.val < 10 → (Sh.digit j.val).toNat = 87 + j.val := by decide
  exact this ⟨n, h⟩ h2
/-- What two digits have told so far. -/
def told (x k : Nat) : Nat := if k = 0 then 0 else if k = 1 then x / 16 else x
theorem hex_byte (t : ByteArray) (i : Nat) (h : i < t.size) (h0 : 2 * i < (ba (Sh.hex t.data.toList)).size) (h1 : 2 * i + 1 < (ba (Sh.hex t.data.toList)).size) :
    (ba (Sh.hex t.data.toList))[2 * i] = Sh.digit (t[i].toNat / 16) ∧ (ba (Sh.hex t.data.toList))[2 * i + 1] = Sh.digit (t[i].toNat % 16) := by
  have hl : i < t.data.toList.length := by simpa using h
  obtain ⟨e1, e2⟩ := Sh.hex_get t.data.toList i hl
  have hx : t.data.toList[i] = t[i] := by simp; rfl
  rw [hx] at e1 e2
  constructor
  · have : (ba (Sh.hex t.data.toList)).data.toList[2 * i]? = some (Sh.digit (t[i].toNat / 16)) := by rw [ba_list]; exact e1
    have h2 := (List.getElem?_eq_some_iff.1 this).2
    rw [← h2]
    simp; rfl
  · have : (ba (Sh.hex t.data.toList)).data.toList[2 * i + 1]? = some (Sh.digit (t[i].toNat % 16)) := by rw [ba_list]; exact e2
    have h2 := (List.getElem?_eq_some_iff.1 this).2
    rw [← h2]
    simp; rfl

set_option maxRecDepth 100000 in
set_option maxHeartbeats 4000000 in
theorem walk (s : ByteArray) (hs : s.size ≤ maxLen) (w : World) (ht : Tab w) :
    Calls Tryd.prog 7 #[.string s] w fun e w' => e = .returned (.bool true) ∧ Below w.heap.size w w' := by
  have hcz := cut_size s 100
  have HS := Lib.hid (fun W => short_any s 100 hs W)
  have HB := Lib.hid (hex_byte (cut s 100))
  have HH := Lib.hid (fun W => hex_any (cut s 100) (by omega) W)
  have hhz : (ba (Sh.hex (cut s 100).data.toList)).size = 2 * (cut s 100).size := by rw [ba_size, Sh.hex_length]; simp
  generalize ba (Sh.hex (cut s 100).data.toList) = H at HB HH hhz
  generalize cut s 100 = t at hcz HS HB HH hhz
  have HT := Lib.hid ht
  clear ht hs
  go_enter Tryd.func7, Tryd.ntmps7
  go_wp2_with fail
  refine (awake_any _ (by exact HT.out)).mono ?_
  rintro e w1 ⟨rfl, hb1⟩
  have HB1 := Lib.hid hb1
  clear hb1
  go_wp2_with fail
  refine (HS.out _).mono ?_
  rintro e w2 ⟨rfl, rfl⟩
  go_wp2_with fail
  refine (HH.out _).mono ?_
  rintro e w3 ⟨rfl, hb3⟩
  have HB3 := Lib.hid (HB1.out.trans (hb3.mono HB1.out.size))
  have hne : ((H.size : Int) == 2 * (t.size : Int)) = true := by simp; omega
  have hhi : (H.size : Int) = 2 * (t.size : Int) := by omega
  clear hb3 HS HH HB1
  go_wp2_with fail
  go_loop [5, 6, 7, 8] (fun i _ _ _ => ∃ k : Nat, i = .int .i64 k ∧ k ≤ t.size) (fun i _ _ _ => t.size - (intOf i).toNat)
  case atStart => exact ⟨0, rfl, by omega⟩
  case round =>
    obtain ⟨k, rfl, hk⟩ := hrel
    by_cases hlt : k < t.size
    · have p0 : 2 * k < H.size := by omega
      have p1 : 2 * k + 1 < H.size := by omega
      obtain ⟨b0, b1⟩ := HB.out k hlt p0 p1
      clear hhz
      obtain ⟨x, hx⟩ : ∃ x, t[k] = x := ⟨_, rfl⟩
      rw [hx] at b0 b1
      have hx0 := x.toNat_lt
      have hki : (k : Int) < (t.size : Int) := by omega
      go_wp2_with fail
      go_loop [6, 7, 8] (fun n j _ => ∃ q : Nat, j = .int .i64 q ∧ q ≤ 2 ∧ n = .int .i64 (told x.toNat q : Int)) (fun _ j _ => 2 - (intOf j).toNat)
      case atStart => exact ⟨0, rfl, by omega, rfl⟩
      case round =>
        obtain ⟨q, rfl, hq, rfl⟩ := hrel
        rcases (by omega : q = 0 ∨ q = 1 ∨ q = 2) with rfl | rfl | rfl
        · rw [show told x.toNat 0 = 0 from rfl]
          by_cases hd : x.toNat / 16 < 10
          · have hdd := digit_low _ hd
            rw [← b0] at hdd
            clear b0 b1
            go_wp2_with fail
            go_round
            case rel => exact ⟨1, rfl, by omega, by simp only [told]; go_num⟩
            case measure => decide
          · have hdd := digit_high _ (by omega) hd
            rw [← b0] at hdd
            clear b0 b1
            go_wp2_with fail
            go_round
            case rel => exact ⟨1, rfl, by omega, by simp only [told]; go_num⟩
            case measure => decide
        · rw [show told x.toNat 1 = x.toNat / 16 from rfl]
          by_cases hd : x.toNat % 16 < 10
          · have hdd := digit_low _ hd
            rw [← b1] at hdd
            clear b0 b1
            go_wp2_with fail
            go_round
            case rel => exact ⟨2, rfl, by omega, by simp only [told]; go_num⟩
            case measure => decide
          · have hdd := digit_high _ (by omega) hd
            rw [← b1] at hdd
            clear b0 b1
            go_wp2_with fail
            go_round
            case rel => exact ⟨2, rfl, by omega, by simp only [told]; go_num⟩
            case measure => decide
        · rw [show told x.toNat 2 = x.toNat from rfl]
          clear b0 b1
          go_wp2_with fail
          go_round
          case rel => exact ⟨k + 1, by go_num, by omega⟩
          case measure => simp [intOf]; omega
    · obtain rfl : k = t.size := by omega
      go_wp2_with fail
      go_ret
      exact ⟨rfl, HB3.out⟩

/-! ### The row -/
set_option maxRecDepth 100000 in
theorem contract (H : Type) (enc : TypeId × Value → H) (W : World) (base : Nat) (args : Array Value) (ds gs : List (DataW H)) (before : List MemPlace)
    (hval : ∀ (j : Nat) t v, Tryd.f7.params[j]? = some t → args[j]? = some v → Value.okWide Tryd.prog W .any base t v)
    (hW : DataW.Whole enc Tryd.prog Tryd.f7.params.toList Rows.shaHexSpec.vars false W args.toList ds gs before) (hL : laidMetH Tryd.prog Rows.shaHexRow.laid W) :
    Calls Tryd.prog 7 args W fun e W' => ∃ v, e = .returned v ∧ Rows.shaHexSpec.post enc Tryd.prog Tryd.f7 false true false false W args v W' := by
  have hW' := hW
  obtain ⟨p, q, hA0, hV, rfl, hfz, hnd⟩ := hW
  have hA : DataW.TrodAll enc Tryd.prog W 0 (fun _ => true) true Tryd.f7.params.toList args.toList ds p := hA0
  rw [Tryd.params7] at hA hval
  obtain ⟨v0, vs0, d0, ds0, p0, q0, hargs, rfl, rfl, h0, r0⟩ := trodAll_cons hA
  obtain ⟨rfl, rfl, rfl⟩ := trodAll_nil r0
  obtain rfl : args = #[v0] := by cases args; simp_all
  obtain ⟨rfl, rfl⟩ := trodVars_none hV
  refine law_contract (tb := 4) laidOut (by kernel_rfl) rfl (by kernel_rfl) Tryd.underlying4 rfl hW' ?_
  clear hA0 hW' hA
  obtain ⟨a0, rfl, _, _, w0⟩ := open_string Tryd.underlying9 (hval 0 9 v0 rfl rfl) h0
  exact walk a0 w0 W (tab_of_laid hL)

theorem laid_met (os : Os) : laidMet Tryd.prog Rows.shaHexRow.laid ((laidWorld os).forCall (fun _ _ => 0) ⟨#[], #[.string ⟨#[]⟩], []⟩).memory :=
  laidMet_of_run' 8 (by kernel_rfl) (by kernel_rfl)
theorem reads (os : Os) {H : Type} (enc : TypeId × Value → H) : ∃ places, DataW.whole enc Tryd.prog ((laidWorld os).forCall (fun _ _ => 0) ⟨#[], #[.string ⟨#[]⟩], []⟩).memory Tryd.f7.params.toList Rows.shaHexSpec.vars false (#[.string ⟨#[]⟩] : Array Value).toList 8 = some ([.lit (.string [])], [], places) :=
  ⟨[], by kernel_rfl⟩

set_option maxRecDepth 100000 in
theorem lifted (os : Os) (started : os.Started) (H : Type) (enc : TypeId × Value → H) (F : Stop.Interp) :
    ReturnsInHanded {} Tryd.checked os 7 .any ((OpenSpec.ofChange Rows.shaHexSpec).preRow enc Tryd.prog Tryd.f7 Rows.shaHexRow.domain false Rows.shaHexRow.laid) (((OpenSpec.ofChange Rows.shaHexSpec).at F).post enc Tryd.prog Tryd.f7 false true false false) := by
  obtain ⟨places, hx⟩ := reads os enc
  refine returnsInHanded_of_row (C := Tryd.checked) (s := OpenSpec.ofChange Rows.shaHexSpec) own started (by kernel_rfl) Tryd.func7
    (witness_row_at (enc := enc) (C := Tryd.checked) false (laidWorld os) #[.string ⟨#[]⟩] rfl (by kernel_rfl) (by kernel_rfl) (by kernel_rfl)
      (OpenSpec.preRow_of_cond 8 hx (by kernel_rfl) (fun k hk => by cases hk) (by kernel_rfl) (laid_met os))) ?_
  intro W base args ds gs before hval hW _ _ _ hL _ _
  exact contract H enc W base args ds gs before hval hW hL

theorem said : Rows.ShaHexSaid :=
  OpenClaim.holds_of_cond 7 Tryd.f7 rfl rfl rfl rfl rfl rfl rfl ⟨rfl, rfl, rfl, rfl, rfl⟩ rfl rfl rfl rfl rfl (by kernel_rfl) Tryd.func7 (by kernel_rfl)
    (of_decide_eq_true (by kernel_rfl)) (by unfold Func.isWrapper; first | (rw [if_pos (by decide +kernel)]; kernel_rfl) | (rw [if_neg (by decide +kernel)]; exact ⟨rfl, rfl⟩))
    (fun os started H enc _ F => by rw [OpenClaim.pre_eq_preRow]; exact lifted os started H enc F)

theorem plain (f : FuncId) (fn : Func) (hf : Tryd.pinned.checked.prog.funcNamed "homecoming/homecominglaw06.ShaHex" = some f) (hfn : Tryd.pinned.checked.prog.funcs[f]? = some fn) :
    false = Tryd.pinned.checked.prog.looks [] ∧ ∀ (j : Nat) t, fn.params[j]? = some t → Tryd.pinned.checked.prog.wantsStandIn t = false := by
  obtain rfl : f = 7 := Option.some.inj ((show Tryd.prog.funcNamed "homecoming/homecominglaw06.ShaHex" = some 7 by kernel_rfl).symm.trans hf) |>.symm
  obtain rfl : fn = Tryd.f7 := (Option.some.inj (Tryd.func7.symm.trans hfn)).symm
  refine ⟨by kernel_rfl, fun j t ht => ?_⟩
  have hall : (Tryd.f7.params.toList.all fun u => !Tryd.prog.wantsStandIn u) = true := by kernel_rfl
  have hm : t ∈ Tryd.f7.params.toList := by simpa using Array.mem_of_getElem? ht
  exact (show Tryd.prog.wantsStandIn t = false by simpa using List.all_eq_true.1 hall t hm)

/-- THE STATEMENT. -/
theorem card : Rows.ShaHexCardSaid :=
  Claim7.holds_tied_plain_at .later [] _ _ _ _ said (fun _ h => by cases h) (by kernel_rfl) (fun _ h => by cases h) shaHex_row_tie rfl ⟨rfl, rfl⟩ (by kernel_rfl) rfl plain (by kernel_rfl)
#print axioms card
end Go.Proofs.YtnoekmhpgaabjaaDoor.shaHex
