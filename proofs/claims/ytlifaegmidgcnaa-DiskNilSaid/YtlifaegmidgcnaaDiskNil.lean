/-
  DiskNil: a disk has 1 to 2^17 bytes; of none nothing comes: for every number and every text the statement's function returns true and changes nothing that was there. No condition.
-/
import Derived.Test.YtlifaegmidgcnaaDiskE
import Derived.Test.YtlifaegmidgcnaaDiskT
namespace Go.Proofs.Ytlifaegmidgcnaa.diskNil
open Go.ChangeShapes Go.WideShapes Go.ChangeAt Go.RowKit
open Go.ChangeMaps (open_string shut_string)

theorem walk_none (n : Int) (s : ByteArray) (w : World) (hs : s.size ≤ maxLen) (h : n < 1 ∨ 131072 < n) :
    Calls Try.prog 7 #[.int .i64 n, .string s] w fun e w' => e = .returned (.bool true) ∧ Below w.heap.size w w' := by
  have HS := Lib.hid (short_any s 12 hs w)
  have hcs := cut_size s 12
  generalize cut s 12 = c at HS hcs
  have HN := Lib.hid (new_none n w h)
  rcases h with h | h
  rotate_left
  have hd : decide (n ≤ 131072) = false := by simp; omega
  all_goals
    go_enter Try.func7, Try.ntmps7
    go_wp2_with (first
      | (go_at_call 12; refine HS.out.mono ?_; rintro e w1 ⟨rfl, rfl⟩)
      | (go_at_call 10; refine HN.out.mono ?_; rintro e w1 ⟨rfl, rfl⟩)
      | (go_at_call 19; refine (break_nil _ _).mono ?_; rintro e w1 ⟨rfl, rfl⟩)
      | (go_at_call 13; refine (read_nil _ _ _).mono ?_; rintro e w1 ⟨rfl, rfl⟩)
      | (go_at_call 9; refine (awake_any _).mono ?_; rintro e w1 ⟨rfl, hb1⟩)
      | (go_at_call 26; refine (size_nil _).mono ?_; rintro e w2 ⟨rfl, rfl⟩)
      | (go_at_call 21; refine (write_nil _ _ _ (by unfold maxLen; omega)).mono ?_; rintro e w2 ⟨rfl, rfl⟩)
      | (go_at_call 15; refine (sync_nil _).mono ?_; rintro e w2 ⟨rfl, rfl⟩)
      | (go_at_call 23; refine (pending_nil _).mono ?_; rintro e w2 ⟨rfl, rfl⟩)
      | (go_at_call 17; refine (crash_nil _ _).mono ?_; rintro e w3 ⟨rfl, hb3⟩)
      | (go_at_call 25; refine (broken_nil _).mono ?_; rintro e w4 ⟨rfl, rfl⟩))
    go_ret
    exact ⟨rfl, hb1.trans (hb3.mono hb1.size)⟩

theorem low12 (n : Int) (h0 : 0 ≤ n) (h : n ≤ 131072) : ∃ m : Nat, m ≤ 4095 ∧ bits .and .i64 n 4095 = (m : Int) := by
  refine ⟨n.toNat &&& 4095, Nat.and_le_right, ?_⟩
  have e : n = (n.toNat : Int) := by omega
  have e1 : (BitVec.ofInt 64 ((n.toNat : Nat) : Int)).toNat = n.toNat := by
    rw [BitVec.ofInt_natCast, BitVec.toNat_ofNat]; exact Nat.mod_eq_of_lt (by omega)
  have hx : n.toNat &&& 4095 ≤ 4095 := Nat.and_le_right
  rw [e]
  show IntKind.i64.wrap ((BitVec.ofInt 64 ((n.toNat : Nat) : Int) &&& BitVec.ofInt 64 ((4095 : Nat) : Int)).toNat : Int) = _
  have e2 : (BitVec.ofInt 64 ((4095 : Nat) : Int)).toNat = 4095 := by rfl
  rw [BitVec.toNat_and, e1, e2, IntKind.wrap_i64]
  simp only [Int.toNat_natCast]
  omega

theorem walk_some (n : Int) (s : ByteArray) (w : World) (hs : s.size ≤ maxLen) (h1 : 1 ≤ n) (h2 : n ≤ 131072) :
    Calls Try.prog 7 #[.int .i64 n, .string s] w fun e w' => e = .returned (.bool true) ∧ Below w.heap.size w w' := by
  have HS := Lib.hid (short_any s 12 hs w)
  have hcs := cut_size s 12
  generalize cut s 12 = c at HS hcs
  obtain ⟨m, hm, hand⟩ := low12 n (by omega) h2
  have HN := Lib.hid (new_any (1 + m) w (by omega) (by omega))
  rw [show ((1 + m : Nat) : Int) = 1 + (m : Int) by omega] at HN
  have hd1 : decide ((1 : Int) ≤ 1 + (m : Int)) = true := by simp; omega
  have hd2 : decide ((1 : Int) + (m : Int) ≤ 131072) = true := by simp; omega
  go_enter Try.func7, Try.ntmps7
  go_wp2_with (first
    | (go_at_call 12; refine HS.out.mono ?_; rintro e w1 ⟨rfl, rfl⟩)
    | (go_at_call 10; refine HN.out.mono ?_; rintro e w0 ⟨F, rfl, hD, hb0, hF⟩)
    | (go_at_call 19; refine (break_nil _ _).mono ?_; rintro e w1 ⟨rfl, rfl⟩)
    | (go_at_call 13; refine (read_nil _ _ _).mono ?_; rintro e w1 ⟨rfl, rfl⟩)
    | (go_at_call 9; refine (awake_any _).mono ?_; rintro e w1 ⟨rfl, hb1⟩)
    | (go_at_call 26; refine (size_nil _).mono ?_; rintro e w2 ⟨rfl, rfl⟩)
    | (go_at_call 21; refine (write_nil _ _ _ (by unfold maxLen; omega)).mono ?_; rintro e w2 ⟨rfl, rfl⟩)
    | (go_at_call 15; refine (sync_nil _).mono ?_; rintro e w2 ⟨rfl, rfl⟩)
    | (go_at_call 23; refine (pending_nil _).mono ?_; rintro e w2 ⟨rfl, rfl⟩)
    | (go_at_call 17; refine (crash_nil _ _).mono ?_; rintro e w3 ⟨rfl, hb3⟩)
    | (go_at_call 25; refine (broken_nil _).mono ?_; rintro e w4 ⟨rfl, rfl⟩))
  go_ret
  exact ⟨rfl, hb0.trans ((hb1.trans (hb3.mono hb1.size)).mono hb0.size)⟩

theorem walk (n : Int) (s : ByteArray) (w : World) (hs : s.size ≤ maxLen) :
    Calls Try.prog 7 #[.int .i64 n, .string s] w fun e w' => e = .returned (.bool true) ∧ Below w.heap.size w w' := by
  by_cases h : 1 ≤ n ∧ n ≤ 131072
  · exact walk_some n s w hs h.1 h.2
  · exact walk_none n s w hs (by omega)

/-! ### The row -/
theorem contract (H : Type) (enc : TypeId × Value → H) (W : World) (base : Nat) (args : Array Value) (ds gs : List (DataW H)) (before : List MemPlace)
    (hval : ∀ (j : Nat) t v, Try.f7.params[j]? = some t → args[j]? = some v → Value.okWide Try.prog W .any base t v)
    (hW : DataW.Whole enc Try.prog Try.f7.params.toList Rows.diskNilSpec.vars false W args.toList ds gs before) :
    Calls Try.prog 7 args W fun e W' => ∃ v, e = .returned v ∧ Rows.diskNilSpec.post enc Try.prog Try.f7 false true false false W args v W' := by
  have hW' := hW
  obtain ⟨p, q, hA0, hV, rfl, hfz, hnd⟩ := hW
  have hA : DataW.TrodAll enc Try.prog W 0 (fun _ => true) true Try.f7.params.toList args.toList ds p := hA0
  rw [Try.params7] at hA hval
  obtain ⟨v0, vs0, d0, ds0, p0, q0, hargs, rfl, rfl, h0, r0⟩ := trodAll_cons hA
  obtain ⟨v1, vs1, d1, ds1, p1, q1, rfl, rfl, rfl, h1, r1⟩ := trodAll_cons r0
  obtain ⟨rfl, rfl, rfl⟩ := trodAll_nil r1
  obtain rfl : args = #[v0, v1] := by cases args; simp_all
  obtain ⟨rfl, rfl⟩ := trodVars_none hV
  refine law_contract (tb := 4) laidOut (by kernel_rfl) rfl (by kernel_rfl) Try.underlying4 rfl hW' ?_
  clear hA0 hW' hA
  obtain ⟨a0, rfl, rfl, rfl, w0⟩ := open_int Try.underlying3 (hval 0 3 v0 rfl rfl) h0
  obtain ⟨a1, rfl, _, _, w1⟩ := open_string Try.underlying9 (hval 1 9 v1 rfl rfl) h1
  exact walk a0 a1 W (by simpa [Lit.wf] using w1)

set_option maxRecDepth 100000 in
theorem lifted (os : Os) (started : os.Started) (H : Type) (enc : TypeId × Value → H) :
    ReturnsInHanded {} Try.checked os 7 .any (Rows.diskNilSpec.pre6 enc Try.prog Try.f7 Rows.diskNilRow.domain false) (Rows.diskNilSpec.post enc Try.prog Try.f7 false true false false) := by
  refine returnsInHanded_of_change (C := Try.checked) own started (by kernel_rfl) Try.func7
    (ChangeSpec.witness6 (enc := enc) (C := Try.checked) false ⟨#[], #[.int .i64 0, .string ⟨#[]⟩], []⟩ 8 (by kernel_rfl) (by kernel_rfl) (by kernel_rfl) (by kernel_rfl)) ?_
  intro W base args ds gs before hval hW _ _
  exact contract H enc W base args ds gs before hval hW

/-- THE STATEMENT. -/
theorem said : Rows.DiskNilSaid :=
  OpenClaim.holds_of_wide 7 Try.f7 rfl rfl rfl rfl rfl rfl rfl ⟨rfl, rfl, rfl, rfl, rfl⟩ rfl rfl rfl rfl rfl (by kernel_rfl) Try.func7 (by kernel_rfl)
    (of_decide_eq_true (by kernel_rfl)) (by unfold Func.isWrapper; first | (rw [if_pos (by decide +kernel)]; kernel_rfl) | (rw [if_neg (by decide +kernel)]; exact ⟨rfl, rfl⟩))
    (fun os started H enc _ => lifted os started H enc)
#print axioms said
end Go.Proofs.Ytlifaegmidgcnaa.diskNil
