/-
  DiskOrder: of writes that wait a crash keeps a beginning, in the order in which they came: for every row of texts and every number the statement's function returns true and changes nothing that was there. No condition.
-/
import Derived.Test.YtlifaegmidgcnaaDiskF
import Derived.Test.YtlifaegmidgcnaaDiskT
import Derived.SliceStrings
import Derived.Deep.QuietTactic
import Derived.BigQuiet
namespace Go.Proofs.Ytlifaegmidgcnaa.diskOrder
open Go.ChangeShapes Go.WideShapes Go.ChangeAt Go.RowKit
open Go.ChangeMaps (open_string shut_string)

theorem below_drewN {B : Nat} {a b : World} (h : Below B a b) (n : Nat) : Below B a (b.drewN n) := ⟨h.os, h.tape, h.output, h.size, h.block⟩

/-- Writes one behind the other. -/
inductive Row : List (Nat × ByteArray) → List UInt8 → Prop
  | nil : Row [] []
  | snoc {ps : List (Nat × ByteArray)} {l : List UInt8} (s : ByteArray) : Row ps l → Row (ps ++ [(l.length, s)]) (l ++ s.data.toList)

theorem row_bytes {ps : List (Nat × ByteArray)} {l : List UInt8} (h : Row ps l) : Dk.bytes ps = l.length := by
  induction h with
  | nil => rfl
  | snoc s _ ih => rw [Dk.bytes_snoc, ih]; simp
theorem row_rest {ps : List (Nat × ByteArray)} {l : List UInt8} (h : Row ps l) (k : Nat) : Dk.rest ps (k : Int) = ((k - l.length : Nat) : Int) := by
  induction h with
  | nil => simp [Dk.rest]
  | snoc s _ ih =>
    rw [Dk.rest_snoc, ih]
    simp only [Dk.keepN, List.length_append, Array.length_toList, ByteArray.size_data]
    omega
theorem row_lost {ps : List (Nat × ByteArray)} {l : List UInt8} (h : Row ps l) (k : Nat) : Dk.lost ps (k : Int) = ((l.length - k : Nat) : Int) := by
  induction h with
  | nil => simp [Dk.lost]
  | snoc s h0 ih =>
    rw [Dk.lost_snoc, ih, row_rest h0]
    simp only [Dk.keepN, List.length_append, Array.length_toList, ByteArray.size_data]
    omega
theorem put_put (z l s : List UInt8) (_h : l.length + s.length ≤ z.length) : Dk.put (Dk.put z 0 l) l.length s = Dk.put z 0 (l ++ s) := by
  simp only [Dk.put, List.take_zero, List.nil_append, Nat.zero_add]
  rw [List.take_append_of_le_length (Nat.le_refl _), List.take_length, List.drop_append]
  simp
theorem extract_list (s : ByteArray) (m : Nat) : (s.extract 0 m).data.toList = s.data.toList.take m := by
  simp [ByteArray.data_extract, Array.toList_extract, List.extract]
theorem row_kept {ps : List (Nat × ByteArray)} {l : List UInt8} (h : Row ps l) (k : Nat) (z : List UInt8) (hz : l.length ≤ z.length) : Dk.puts z (Dk.cuts ps (k : Int)) = Dk.put z 0 (l.take k) := by
  induction h with
  | nil => simp [Dk.cuts, Dk.puts, Dk.put]
  | @snoc ps l s h0 ih =>
    have hz' : l.length ≤ z.length := by simp at hz; omega
    have hs : s.data.toList.length = s.size := by simp
    rw [List.length_append, hs] at hz
    rw [Dk.cuts_snoc, Dk.puts_snoc, ih hz', row_rest h0, extract_list]
    by_cases hk : k ≤ l.length
    · have e : Dk.keepN ((k - l.length : Nat) : Int) s = 0 := by unfold Dk.keepN; omega
      rw [e, List.take_zero, Dk.put_nil, List.take_append_of_le_length hk]
    · have e : Dk.keepN ((k - l.length : Nat) : Int) s = min (k - l.length) s.size := by unfold Dk.keepN; omega
      have e2 : s.data.toList.take (min (k - l.length) s.size) = s.data.toList.take (k - l.length) := by
        rw [← hs, List.take_eq_take_iff]
        omega
      show Dk.put _ l.length _ = _
      have e3 : l.take k = l := List.take_of_length_le (by omega)
      rw [e, e2, List.take_append, e3]
      exact put_put z l _ (by rw [List.length_take, hs]; omega)
/-- The disk ahead of the crash. -/
def ordD (ps : List (Nat × ByteArray)) : Dsk := ⟨64, List.replicate 64 0, ps, 0, false⟩
theorem ord_write (ps : List (Nat × ByteArray)) (k : Nat) (s : ByteArray) : (ordD ps).write k s = ordD (ps ++ [(k, s)]) := rfl

/-- What is read behind the crash. -/
theorem ord_read {ps : List (Nat × ByteArray)} {all : ByteArray} (h : Row ps all.data.toList) (ha : all.size ≤ 48) (k : Nat) :
    ∃ S : ByteArray, S.size = 64 ∧ S.extract 0 (min k all.size) = all.extract 0 (min k all.size) ∧ Hid (∀ i (_ : min k all.size ≤ i) (hp : i < S.size), S[i] = 0) ∧ part ((ordD ps).crash (k : Int)).lat 0 64 = S := by
  have hl : all.data.toList.length = all.size := by simp
  have hlat : ((ordD ps).crash (k : Int)).lat = Dk.put (List.replicate 64 0) 0 (all.data.toList.take k) := by
    show Dk.puts (Dk.puts (List.replicate 64 0) (Dk.cuts ps (k : Int))) [] = _
    rw [Dk.puts_nil]
    exact row_kept h k _ (by simp; omega)
  have hlen : (Dk.put (List.replicate 64 (0 : UInt8)) 0 (all.data.toList.take k)).length = 64 := by
    rw [Dk.put_length _ _ _ (by simp; omega)]
    simp
  have hsz : (part ((ordD ps).crash (k : Int)).lat 0 64).size = 64 := part_size _ _ _ (by rw [hlat, hlen]; omega)
  have hpl : (part ((ordD ps).crash (k : Int)).lat 0 64).data.toList = Dk.put (List.replicate 64 0) 0 (all.data.toList.take k) := by
    rw [hlat]
    show ((List.drop 0 _).take 64).toArray.toList = _
    rw [List.toList_toArray, List.drop_zero, List.take_of_length_le (by omega)]
  refine ⟨_, hsz, ?_, fun i hi hp => ?_, rfl⟩
  · apply ByteArray.ext
    rw [← Array.toList_inj, extract_list, extract_list, hpl]
    simp only [Dk.put, List.take_zero, List.nil_append]
    have e : all.data.toList.take k = all.data.toList.take (min k all.size) := by
      rw [List.take_eq_take_iff]; omega
    rw [e, List.take_append_of_le_length (by rw [List.length_take]; omega), List.take_take, Nat.min_self]
  · have h1 := bytes_get _ i hp
    rw [hpl, Dk.put_getElem? _ _ _ (by simp; omega), if_neg (by simp; omega), List.getElem?_replicate, if_pos (by omega)] at h1
    exact (Option.some.inj h1).symm

/-- A SLICE OF TEXTS, OPENED. -/
theorem open_strs {H : Type} {enc : TypeId × Value → H} {P : Program} {W : World} {base r0 : Nat} {held : Bool} {r : Reach} {t e : TypeId} {v : Value} {d : DataW H} {ps : List MemPlace}
    (ht : P.underlying t = some (.slice e)) (he : P.underlying e = some .string) (hce : P.cellsOf e = 1)
    (hv : Value.okWide P W r r0 t v) (h : DataW.Trod enc P W base (fun _ => true) held t v d ps) :
    ∃ (A : Option Addr) (n c : Nat), v = .slice A n c ∧ n ≤ maxLen ∧ ∀ i, i < n → ∃ s : ByteArray, ∃ a, A = some a ∧ a.block < W.heap.size ∧ s.size ≤ maxLen ∧ W.cell? (a.add i) = some (.string s) := by
  obtain ⟨A, n, c, rfl⟩ := okWide_slice ht hv
  obtain ⟨fuel, hf⟩ := h
  refine ⟨A, n, c, rfl, ?_⟩
  rcases open_strings ht he hce hf with ⟨hcs, _⟩ | ⟨a, len', cap', ss, hcs, _, hl, hm, hz, _, hcell, hws⟩
  · simp [Value.cells] at hcs
    obtain ⟨rfl, rfl, rfl⟩ := hcs
    exact ⟨by unfold maxLen; omega, fun i hi => absurd hi (by omega)⟩
  · simp [Value.cells] at hcs
    obtain ⟨rfl, rfl, rfl⟩ := hcs
    simp only [if_true] at hz
    refine ⟨by omega, fun i hi => ?_⟩
    have hi' : i < ss.length := by omega
    have hc := hcell i hi'
    refine ⟨ss.getD i ByteArray.empty, a, rfl, ?_, ?_, hc⟩
    · rcases Nat.lt_or_ge a.block W.heap.size with hlt | hge
      · exact hlt
      · have hbl : (a.add i).block = a.block := by unfold Addr.add; split <;> rfl
        simp [World.cell?, hbl, Array.getElem?_eq_none hge] at hc
    · rw [List.getD_eq_getElem?_getD, List.getElem?_eq_getElem hi']
      exact hws _ (List.getElem_mem hi')

def OrdRel (B : Nat) (W : World) (d n : Nat) (al i : Value) (wr : World) : Prop :=
  ∃ k : Nat, k ≤ n ∧ k ≤ 6 ∧ i = .int .i64 (k : Int) ∧ ∃ all : ByteArray, ∃ ps, al = .string all ∧ all.size ≤ 8 * k ∧ ps.length = k ∧ Row ps all.data.toList ∧ On B W wr d (ordD ps)

theorem and63 (x : Int) : ∃ m : Nat, m < 64 ∧ bits .and .i64 x 63 = (m : Int) := by
  have hm : (BitVec.ofInt 64 63).toNat = 2 ^ 6 - 1 := by decide
  have key : (BitVec.ofInt 64 x &&& BitVec.ofInt 64 63).toNat = (x % ((2 ^ 64 : Nat) : Int)).toNat % 2 ^ 6 := by
    rw [BitVec.toNat_and, BitVec.toNat_ofInt, hm, Nat.and_two_pow_sub_one_eq_mod]
  refine ⟨(x % ((2 ^ 64 : Nat) : Int)).toNat % 2 ^ 6, Nat.mod_lt _ (by decide), ?_⟩
  show IntKind.i64.wrap ((BitVec.ofInt 64 x &&& BitVec.ofInt 64 63).toNat : Nat) = _
  rw [key, IntKind.wrap_i64]
  omega

set_option maxRecDepth 100000 in
set_option maxHeartbeats 4000000 in
theorem walk (A : Option Addr) (n c : Nat) (q : Int) (w : World) (hn : n ≤ maxLen)
    (hA : ∀ i, i < n → ∃ s : ByteArray, ∃ a, A = some a ∧ a.block < w.heap.size ∧ s.size ≤ maxLen ∧ w.cell? (a.add i) = some (.string s)) :
    Calls Try.prog 5 #[.slice A n c, .int .i64 q] w fun e w' => e = .returned (.bool true) ∧ Below w.heap.size w w' := by
  obtain ⟨m, hm, em⟩ := and63 q
  have HM := Lib.hid em
  clear em
  unfold maxLen at hn
  have HA := Lib.hid hA
  clear hA
  go_enter Try.func5, Try.ntmps5
  go_wp2_with fail
  refine (awake_any _).mono ?_
  rintro e w1 ⟨rfl, hb1⟩
  have HB1 := Lib.hid hb1
  have hz1 : w.heap.size ≤ w1.heap.size := hb1.size
  clear hb1
  go_wp2_with fail
  refine (new_on (B := w1.heap.size) (W := w1) 64 (by omega) (by omega) (by omega) (Below.refl _ _)).mono ?_
  rintro e w2 ⟨d, rfl, o2⟩
  go_wp2_with fail
  go_loopw [7, 8] (OrdRel w1.heap.size w1 d n) (fun _ i _ => 6 - (intOf i).toNat)
  case atStart => exact ⟨0, by omega, by omega, rfl, ⟨#[]⟩, [], rfl, by show 0 ≤ 0; omega, rfl, Row.nil, o2⟩
  case round =>
    clear o2
    obtain ⟨k, hk, hk6, rfl, all, ps, rfl, hall, hpl, hrow, ok⟩ := hrel
    by_cases hlt : k < n ∧ k < 6
    · obtain ⟨hlt1, hlt2⟩ := hlt
      obtain ⟨s, a, rfl, hab, hs, cs0⟩ := HA.out k hlt1
      have hba : (a.add k).block = a.block := by unfold Addr.add; split <;> rfl
      have cs : wr.cell? (a.add k) = some (.string s) := (ok.below.cell (p := a.add k) (by rw [hba]; omega)).trans ((HB1.out.cell (p := a.add k) (by rw [hba]; omega)).trans cs0)
      have HS := Lib.hid (short_any s 8 hs wr)
      have hcs := cut_size s 8
      generalize cut s 8 = c8 at HS hcs
      have HW := Lib.hid (write_on0 ok rfl rfl all.size c8 (by show all.size + c8.size ≤ 64; omega) (by show ps.length < 1000; omega))
      have HP := Lib.hid hpl
      clear cs0 hba hpl
      go_wp2_with fail
      refine HS.out.mono ?_
      rintro e w' ⟨rfl, rfl⟩
      go_wp2_with fail
      refine HW.out.mono ?_
      rintro e w4 ⟨rfl, o4⟩
      rw [ord_write] at o4
      have hr4 : Row (ps ++ [(all.size, c8)]) (all ++ c8).data.toList := by
        have := Row.snoc c8 hrow
        simpa using this
      have hl4 := Lib.hid (show (ps ++ [(all.size, c8)]).length = k + 1 by simp [HP.out])
      have ha4 : (all ++ c8).size ≤ 8 * (k + 1) := by simp; omega
      clear HS HW ok hrow cs
      go_wp2_with fail
      go_roundw
      case rel => exact ⟨k + 1, by omega, by omega, by go_num, _, _, rfl, ha4, hl4.out, hr4, o4⟩
      case measure => simp [intOf]; omega
    · have HP := Lib.hid (pending_on ok)
      have hbz : Dk.bytes (ordD ps).pend = all.size := by
        show Dk.bytes ps = _
        rw [row_bytes hrow]
        simp
      rw [hbz] at HP
      clear hbz hpl
      by_cases h6 : k < n
      · obtain rfl : k = 6 := by omega
        go_wp2_with fail
        refine HP.out.mono ?_
        rintro e w5 ⟨rfl, o5⟩
        have hx := HM.out
        clear HP ok
        go_wp2_with fail
        clear hx
        have HC := Lib.hid (crash_on o5 (m : Int) (by omega) (by omega))
        obtain ⟨r, hr⟩ : ∃ r, r = min m all.size := ⟨_, rfl⟩
        have hlo : Dk.lost (ordD ps).pend (m : Int) = (all.size : Int) - (r : Int) := by
          show Dk.lost ps (m : Int) = _
          rw [row_lost hrow]
          simp
          omega
        rw [hlo] at HC
        clear hlo
        refine HC.out.mono ?_
        rintro e w6 ⟨rfl, o6⟩
        obtain ⟨S, hsz, hSe, HS, hS⟩ := ord_read hrow (by omega) m
        have HR := Lib.hid (read_on o6 rfl 0 64 (by show 0 + 64 ≤ 64; omega))
        rw [hS] at HR
        rw [← hr] at hSe HS
        have HE := Lib.hid hSe
        have HZ := Lib.hid hsz
        have hr1 : r ≤ all.size := by omega
        have hr2 : r ≤ S.size := by omega
        have hr3 : r ≤ 64 := by omega
        have ha6 : all.size ≤ 48 := by omega
        have hmin : min (m : Int) (all.size : Int) = (r : Int) := by omega
        clear HC o5 hS hSe hsz hr
        go_wp2_with fail
        clear hmin
        refine HR.out.mono ?_
        rintro e w' ⟨rfl, rfl⟩
        go_wp2_with fail
        have hz1' := IntWalk.i64_in ((all.size : Int) - (r : Int)) (by omega)
        have hbel := Lib.hid o6.below
        have hsz := HZ.out
        have hSe := HE.out
        go_quiet (fail)
        clear hz1' hsz hSe
        go_wp2_with fail
        have hsz' : 64 ≤ S.size := by have := HZ.out; omega
        go_loop [15] (fun i => ∃ j : Nat, r ≤ j ∧ j ≤ 64 ∧ i = .int .i64 (j : Int)) (fun i => 64 - (intOf i).toNat)
        case atStart => exact ⟨r, by omega, by omega, rfl⟩
        case round =>
          obtain ⟨j, hj1, hj2, rfl⟩ := hrel
          by_cases hjt : j < 64
          · have hx := HS.out j hj1 (by omega)
            go_wp2_with fail
            go_round
            case rel => exact ⟨j + 1, by omega, by omega, by go_num⟩
            case measure => simp [intOf]; omega
          · obtain rfl : j = 64 := by omega
            go_wp2_with fail
            go_ret
            exact ⟨rfl, HB1.out.trans (below_drewN (hbel.out.mono hz1) _)⟩
      · have h7 : n ≤ k := by omega
        go_wp2_with fail
        refine HP.out.mono ?_
        rintro e w5 ⟨rfl, o5⟩
        have hx := HM.out
        clear HP ok
        go_wp2_with fail
        clear hx
        have HC := Lib.hid (crash_on o5 (m : Int) (by omega) (by omega))
        obtain ⟨r, hr⟩ : ∃ r, r = min m all.size := ⟨_, rfl⟩
        have hlo : Dk.lost (ordD ps).pend (m : Int) = (all.size : Int) - (r : Int) := by
          show Dk.lost ps (m : Int) = _
          rw [row_lost hrow]
          simp
          omega
        rw [hlo] at HC
        clear hlo
        refine HC.out.mono ?_
        rintro e w6 ⟨rfl, o6⟩
        obtain ⟨S, hsz, hSe, HS, hS⟩ := ord_read hrow (by omega) m
        have HR := Lib.hid (read_on o6 rfl 0 64 (by show 0 + 64 ≤ 64; omega))
        rw [hS] at HR
        rw [← hr] at hSe HS
        have HE := Lib.hid hSe
        have HZ := Lib.hid hsz
        have hr1 : r ≤ all.size := by omega
        have hr2 : r ≤ S.size := by omega
        have hr3 : r ≤ 64 := by omega
        have ha6 : all.size ≤ 48 := by omega
        have hmin : min (m : Int) (all.size : Int) = (r : Int) := by omega
        clear HC o5 hS hSe hsz hr
        go_wp2_with fail
        clear hmin
        refine HR.out.mono ?_
        rintro e w' ⟨rfl, rfl⟩
        go_wp2_with fail
        have hz1' := IntWalk.i64_in ((all.size : Int) - (r : Int)) (by omega)
        have hbel := Lib.hid o6.below
        have hsz := HZ.out
        have hSe := HE.out
        go_quiet (fail)
        clear hz1' hsz hSe
        go_wp2_with fail
        have hsz' : 64 ≤ S.size := by have := HZ.out; omega
        go_loop [15] (fun i => ∃ j : Nat, r ≤ j ∧ j ≤ 64 ∧ i = .int .i64 (j : Int)) (fun i => 64 - (intOf i).toNat)
        case atStart => exact ⟨r, by omega, by omega, rfl⟩
        case round =>
          obtain ⟨j, hj1, hj2, rfl⟩ := hrel
          by_cases hjt : j < 64
          · have hx := HS.out j hj1 (by omega)
            go_wp2_with fail
            go_round
            case rel => exact ⟨j + 1, by omega, by omega, by go_num⟩
            case measure => simp [intOf]; omega
          · obtain rfl : j = 64 := by omega
            go_wp2_with fail
            go_ret
            exact ⟨rfl, HB1.out.trans (below_drewN (hbel.out.mono hz1) _)⟩

/-! ### The row -/
theorem contract (H : Type) (enc : TypeId × Value → H) (W : World) (base : Nat) (args : Array Value) (ds gs : List (DataW H)) (before : List MemPlace)
    (hval : ∀ (j : Nat) t v, Try.f5.params[j]? = some t → args[j]? = some v → Value.okWide Try.prog W .any base t v)
    (hW : DataW.Whole enc Try.prog Try.f5.params.toList Rows.diskOrderSpec.vars false W args.toList ds gs before) :
    Calls Try.prog 5 args W fun e W' => ∃ v, e = .returned v ∧ Rows.diskOrderSpec.post enc Try.prog Try.f5 false true false false W args v W' := by
  have hW' := hW
  obtain ⟨p, q, hA0, hV, rfl, hfz, hnd⟩ := hW
  have hA : DataW.TrodAll enc Try.prog W 0 (fun _ => true) true Try.f5.params.toList args.toList ds p := hA0
  rw [Try.params5] at hA hval
  obtain ⟨v0, vs0, d0, ds0, p0, q0, hargs, rfl, rfl, h0, r0⟩ := trodAll_cons hA
  obtain ⟨v1, vs1, d1, ds1, p1, q1, rfl, rfl, rfl, h1, r1⟩ := trodAll_cons r0
  obtain ⟨rfl, rfl, rfl⟩ := trodAll_nil r1
  obtain rfl : args = #[v0, v1] := by cases args; simp_all
  obtain ⟨rfl, rfl⟩ := trodVars_none hV
  refine law_contract (tb := 4) laidOut (by kernel_rfl) rfl (by kernel_rfl) Try.underlying4 rfl hW' ?_
  clear hA0 hW' hA
  obtain ⟨A, n, c, rfl, hn, hA⟩ := open_strs Try.underlying46 Try.underlying9 cellsStr (hval 0 46 v0 rfl rfl) h0
  obtain ⟨a1, rfl, rfl, rfl, w1⟩ := open_int Try.underlying3 (hval 1 3 v1 rfl rfl) h1
  exact walk A n c a1 W hn hA

set_option maxRecDepth 100000 in
theorem lifted (os : Os) (started : os.Started) (H : Type) (enc : TypeId × Value → H) :
    ReturnsInHanded {} Try.checked os 5 .any (Rows.diskOrderSpec.pre6 enc Try.prog Try.f5 Rows.diskOrderRow.domain false) (Rows.diskOrderSpec.post enc Try.prog Try.f5 false true false false) := by
  refine returnsInHanded_of_change (C := Try.checked) own started (by kernel_rfl) Try.func5
    (ChangeSpec.witness6 (enc := enc) (C := Try.checked) false ⟨#[], #[.slice none 0 0, .int .i64 0], []⟩ 8 (by kernel_rfl) (by kernel_rfl) (by kernel_rfl) (by kernel_rfl)) ?_
  intro W base args ds gs before hval hW _ _
  exact contract H enc W base args ds gs before hval hW

/-- THE STATEMENT. -/
theorem said : Rows.DiskOrderSaid :=
  OpenClaim.holds_of_wide 5 Try.f5 rfl rfl rfl rfl rfl rfl rfl ⟨rfl, rfl, rfl, rfl, rfl⟩ rfl rfl rfl rfl rfl (by kernel_rfl) Try.func5 (by kernel_rfl)
    (of_decide_eq_true (by kernel_rfl)) (by unfold Func.isWrapper; first | (rw [if_pos (by decide +kernel)]; kernel_rfl) | (rw [if_neg (by decide +kernel)]; exact ⟨rfl, rfl⟩))
    (fun os started H enc _ => lifted os started H enc)
#print axioms said
end Go.Proofs.Ytlifaegmidgcnaa.diskOrder
