/-
  DiskStays: what was synced stays behind a crash, but for what was written on it since: for every two texts and every two numbers the statement's function returns true and changes nothing that was there. No condition.
-/
import Derived.Test.YtlifaegmidgcnaaDiskF
import Derived.Test.YtlifaegmidgcnaaDiskT
namespace Go.Proofs.Ytlifaegmidgcnaa.diskStays
open Go.ChangeShapes Go.WideShapes Go.ChangeAt Go.RowKit
open Go.ChangeMaps (open_string shut_string)

def disk4 (ca cb : ByteArray) (k : Nat) : Dsk := (((Dsk.fresh 100).write 0 ca).sync).write k cb
def Want (ca cb : ByteArray) (k m : Nat) (S : ByteArray) : Prop :=
  ∀ i (_ : i < 100) (hp : i < S.size), some S[i] = if k ≤ i ∧ i < k + min m cb.size then cb.data.toList[i - k]? else if i < ca.size then ca.data.toList[i]? else some 0

theorem read4 (ca cb : ByteArray) (k m : Nat) (ha : ca.size ≤ 40) (hb : cb.size ≤ 40) (hk : k < 41) :
    ∃ S : ByteArray, S.size = 100 ∧ Hid (Want ca cb k m S) ∧ part ((disk4 ca cb k).crash (m : Int)).lat 0 100 = S := by
  have hlat : ((disk4 ca cb k).crash (m : Int)).lat = Dk.put (Dk.put (List.replicate 100 0) 0 ca.data.toList) k (cb.extract 0 (Dk.keepN (m : Int) cb)).data.toList := rfl
  have h1 : (Dk.put (List.replicate 100 0) 0 ca.data.toList).length = 100 := by rw [Dk.put_length _ _ _ (by simp; omega)]; simp
  have hkn : Dk.keepN (m : Int) cb = min m cb.size := by unfold Dk.keepN; omega
  have hex : (cb.extract 0 (Dk.keepN (m : Int) cb)).data.toList.length = min m cb.size := by
    have : (cb.extract 0 (Dk.keepN (m : Int) cb)).size = min m cb.size := by simp [hkn]
    simpa using this
  have h2 : ((disk4 ca cb k).crash (m : Int)).lat.length = 100 := by rw [hlat, Dk.put_length _ _ _ (by rw [h1, hex]; omega), h1]
  refine ⟨_, part_size _ _ _ (by omega), fun i hi hp => ?_, rfl⟩
  rw [part_get _ _ _ _ hi hp, hlat, Dk.put_getElem? _ _ _ (by rw [h1, hex]; omega), hex, Nat.zero_add]
  by_cases hc : k ≤ i ∧ i < k + min m cb.size
  · rw [if_pos hc, if_pos hc, bytes_get cb (i - k) (by omega), extract_get _ _ _ (by rw [hkn]; omega)]
  · rw [if_neg hc, if_neg hc, Dk.put_getElem? _ _ _ (by simp; omega)]
    by_cases ha : i < ca.size
    · rw [if_pos ⟨by omega, by simpa using ha⟩, if_pos ha]
      rfl
    · rw [if_neg (by simp; omega), if_neg ha, List.getElem?_replicate, if_pos hi]

theorem lost4 (ca cb : ByteArray) (k m : Nat) : Dk.lost (disk4 ca cb k).pend (m : Int) = max ((cb.size : Int) - (m : Int)) 0 := by
  show Dk.lost [(k, cb)] (m : Int) = _
  simp only [Dk.lost, Dk.keepN]
  omega

set_option maxRecDepth 100000 in
set_option maxHeartbeats 4000000 in
theorem walk (a b : ByteArray) (q0 q1 : Int) (w : World) (ha : a.size ≤ maxLen) (hb : b.size ≤ maxLen) :
    Calls Try.prog 4 #[.string a, .string b, .agg #[.int .i64 q0, .int .i64 q1]] w fun e w' => e = .returned (.bool true) ∧ Below w.heap.size w w' := by
  obtain ⟨k, hk, ek⟩ := mod_nat q0 41 (by omega) (by omega)
  obtain ⟨m, hm, em⟩ := mod_nat q1 41 (by omega) (by omega)
  have HA := Lib.hid (fun W => short_any a 40 ha W)
  have HB := Lib.hid (fun W => short_any b 40 hb W)
  have hca := cut_size a 40
  have hcb := cut_size b 40
  generalize cut a 40 = ca at HA hca
  generalize cut b 40 = cb at HB hcb
  simp only [Int.cast_ofNat_Int] at ek em
  go_enter Try.func4, Try.ntmps4
  go_wp2_with fail
  refine (awake_any _).mono ?_
  rintro e w1 ⟨rfl, hb1⟩
  have c0 : w1.cell? ⟨w.heap.size, 0, none⟩ = some (.int .i64 q0) := (hb1.cell (p := ⟨w.heap.size, 0, none⟩) (by simp)).trans (World.cell?_alloc_at _ _ _ _ rfl)
  have c1 : w1.cell? ⟨w.heap.size, 1, none⟩ = some (.int .i64 q1) := (hb1.cell (p := ⟨w.heap.size, 1, none⟩) (by simp)).trans (World.cell?_alloc_at _ _ _ _ rfl)
  have hz1 : w.heap.size < w1.heap.size := by have := hb1.size; simp at this; omega
  have HB1 : Hid (Below w.heap.size w w1) := ((Below.refl _ _).alloc (Nat.le_refl _) _).trans (hb1.mono (by simp))
  clear hb1
  go_wp2_with fail
  refine (HA.out _).mono ?_
  rintro e w' ⟨rfl, rfl⟩
  go_wp2_with fail
  refine (HB.out _).mono ?_
  rintro e w' ⟨rfl, rfl⟩
  clear HA HB
  go_wp2_with fail
  refine (new_on (B := w.heap.size + 1) (W := w1) 100 (by omega) (by omega) (by omega) (Below.refl _ _)).mono ?_
  rintro e w2 ⟨d, rfl, o2⟩
  go_wp2_with fail
  refine (write_on0 o2 rfl rfl 0 ca (by show 0 + ca.size ≤ 100; omega) (by show 0 < 1000; omega)).mono ?_
  rintro e w3 ⟨rfl, o3⟩
  go_wp2_with fail
  refine (sync_on0 o3 rfl rfl).mono ?_
  rintro e w4 ⟨rfl, o4⟩
  go_wp2_with fail
  refine (write_on0 o4 rfl rfl k cb (by show k + cb.size ≤ 100; omega) (by show 0 < 1000; omega)).mono ?_
  rintro e w5 ⟨rfl, o5⟩
  have d1 : w5.cell? ⟨w.heap.size, 1, none⟩ = some (.int .i64 q1) := (o5.below.cell (p := ⟨w.heap.size, 1, none⟩) (by simp)).trans c1
  clear c0 c1 o2 o3 o4
  go_wp2_with fail
  have HL := Lib.hid (lost4 ca cb k m)
  refine (crash_on o5 (m : Int) (by omega) (by omega)).mono ?_
  rintro e w6 ⟨he, o6⟩
  obtain rfl := he.trans (congrArg (fun x => Ending.returned (.int .i64 x)) HL.out)
  go_wp2_with fail
  obtain ⟨S, hsz, HS, hS⟩ := read4 ca cb k m hca hcb hk
  have HR := Lib.hid (read_on o6 rfl 0 100 (by show 0 + 100 ≤ 100; omega))
  have hS' : part (((((Dsk.fresh 100).write 0 ca).sync).write k cb).crash (m : Int)).lat 0 100 = S := hS
  rw [hS'] at HR
  clear hS hS'
  refine HR.out.mono ?_
  rintro e w' ⟨rfl, rfl⟩
  have hbel := Lib.hid o6.below
  clear HL HR d1 o5
  go_wp2_with fail
  have hid : Hid (S.size = 100) := hsz
  have hsz' : 100 ≤ S.size := by omega
  clear hsz
  go_loop [14, 15] (fun i _ => ∃ j : Nat, j ≤ 100 ∧ i = .int .i64 (j : Int)) (fun i _ => 100 - (intOf i).toNat)
  case atStart => exact ⟨0, by omega, rfl⟩
  case round =>
    obtain ⟨j, hj, rfl⟩ := hrel
    by_cases hlt : j < 100
    · have hx := HS.out j hlt (by omega)
      by_cases hc : k ≤ j ∧ j < k + min m cb.size
      · rw [if_pos hc, bytes_get cb (j - k) (by omega)] at hx
        have hy : S[j] = cb[j - k] := Option.some.inj hx
        obtain ⟨hc1, hc2⟩ := hc
        clear hx
        by_cases h1 : j < ca.size
        all_goals
          go_wp2_with fail
          go_round
          case rel => exact ⟨j + 1, by omega, by go_num⟩
          case measure => simp [intOf]; omega
      · rw [if_neg hc] at hx
        by_cases h1 : j < ca.size
        · rw [if_pos h1, bytes_get ca j h1] at hx
          have hy : S[j] = ca[j] := Option.some.inj hx
          clear hx
          by_cases h2 : k ≤ j
          · have h3 : k + min m cb.size ≤ j := by omega
            clear hc
            go_wp2_with fail
            go_round
            case rel => exact ⟨j + 1, by omega, by go_num⟩
            case measure => simp [intOf]; omega
          · clear hc
            go_wp2_with fail
            go_round
            case rel => exact ⟨j + 1, by omega, by go_num⟩
            case measure => simp [intOf]; omega
        · rw [if_neg h1] at hx
          have hy : S[j] = 0 := Option.some.inj hx
          clear hx
          by_cases h2 : k ≤ j
          · have h3 : k + min m cb.size ≤ j := by omega
            clear hc
            go_wp2_with fail
            go_round
            case rel => exact ⟨j + 1, by omega, by go_num⟩
            case measure => simp [intOf]; omega
          · clear hc
            go_wp2_with fail
            go_round
            case rel => exact ⟨j + 1, by omega, by go_num⟩
            case measure => simp [intOf]; omega
    · obtain rfl : j = 100 := by omega
      go_wp2_with fail
      refine (pending_on o6).mono ?_
      rintro e w7 ⟨rfl, o7⟩
      have hbel7 := Lib.hid o7.below
      go_wp2_with fail
      go_ret
      exact ⟨rfl, HB1.out.trans (hbel7.out.mono (by omega))⟩

/-! ### The row -/
theorem contract (H : Type) (enc : TypeId × Value → H) (W : World) (base : Nat) (args : Array Value) (ds gs : List (DataW H)) (before : List MemPlace)
    (hval : ∀ (j : Nat) t v, Try.f4.params[j]? = some t → args[j]? = some v → Value.okWide Try.prog W .any base t v)
    (hW : DataW.Whole enc Try.prog Try.f4.params.toList Rows.diskStaysSpec.vars false W args.toList ds gs before) :
    Calls Try.prog 4 args W fun e W' => ∃ v, e = .returned v ∧ Rows.diskStaysSpec.post enc Try.prog Try.f4 false true false false W args v W' := by
  have hW' := hW
  obtain ⟨p, q, hA0, hV, rfl, hfz, hnd⟩ := hW
  have hA : DataW.TrodAll enc Try.prog W 0 (fun _ => true) true Try.f4.params.toList args.toList ds p := hA0
  rw [Try.params4] at hA hval
  obtain ⟨v0, vs0, d0, ds0, p0, q0, hargs, rfl, rfl, h0, r0⟩ := trodAll_cons hA
  obtain ⟨v1, vs1, d1, ds1, p1, q1, rfl, rfl, rfl, h1, r1⟩ := trodAll_cons r0
  obtain ⟨v2, vs2, d2, ds2, p2, q2, rfl, rfl, rfl, h2, r2⟩ := trodAll_cons r1
  obtain ⟨rfl, rfl, rfl⟩ := trodAll_nil r2
  obtain rfl : args = #[v0, v1, v2] := by cases args; simp_all
  obtain ⟨rfl, rfl⟩ := trodVars_none hV
  refine law_contract (tb := 4) laidOut (by kernel_rfl) rfl (by kernel_rfl) Try.underlying4 rfl hW' ?_
  clear hA0 hW' hA
  obtain ⟨a0, rfl, _, _, w0⟩ := open_string Try.underlying9 (hval 0 9 v0 rfl rfl) h0
  obtain ⟨a1, rfl, _, _, w1⟩ := open_string Try.underlying9 (hval 1 9 v1 rfl rfl) h1
  obtain ⟨zs, rfl, hl, hz⟩ := open_array Try.underlying44 Try.underlying3 cellsInt (by kernel_rfl) (hval 2 44 v2 rfl rfl) h2
  match zs, hl with
  | [q0, q1], _ => exact walk a0 a1 q0 q1 W (by simpa [Lit.wf] using w0) (by simpa [Lit.wf] using w1)

set_option maxRecDepth 100000 in
theorem lifted (os : Os) (started : os.Started) (H : Type) (enc : TypeId × Value → H) :
    ReturnsInHanded {} Try.checked os 4 .any (Rows.diskStaysSpec.pre6 enc Try.prog Try.f4 Rows.diskStaysRow.domain false) (Rows.diskStaysSpec.post enc Try.prog Try.f4 false true false false) := by
  refine returnsInHanded_of_change (C := Try.checked) own started (by kernel_rfl) Try.func4
    (ChangeSpec.witness6 (enc := enc) (C := Try.checked) false ⟨#[], #[.string ⟨#[]⟩, .string ⟨#[]⟩, .agg #[.int .i64 0, .int .i64 0]], []⟩ 8 (by kernel_rfl) (by kernel_rfl) (by kernel_rfl) (by kernel_rfl)) ?_
  intro W base args ds gs before hval hW _ _
  exact contract H enc W base args ds gs before hval hW

/-- THE STATEMENT. -/
theorem said : Rows.DiskStaysSaid :=
  OpenClaim.holds_of_wide 4 Try.f4 rfl rfl rfl rfl rfl rfl rfl ⟨rfl, rfl, rfl, rfl, rfl⟩ rfl rfl rfl rfl rfl (by kernel_rfl) Try.func4 (by kernel_rfl)
    (of_decide_eq_true (by kernel_rfl)) (by unfold Func.isWrapper; first | (rw [if_pos (by decide +kernel)]; kernel_rfl) | (rw [if_neg (by decide +kernel)]; exact ⟨rfl, rfl⟩))
    (fun os started H enc _ => lifted os started H enc)
#print axioms said
end Go.Proofs.Ytlifaegmidgcnaa.diskStays
