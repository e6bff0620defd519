/-
  Contracts of the document's own label and host. Condition: texts of at most 1000000 bytes.
-/
import Derived.Test.YtpcbbmafallogaaDoorAdG
namespace Go.Proofs.YtpcbbmafallogaaDoor
open Go.RowKit

set_option maxRecDepth 100000 in
set_option maxHeartbeats 4000000 in
theorem rlabel_any (s : ByteArray) (hs : s.size ≤ 1000000) (w : World) :
    Calls Tryd.prog 61 #[.string s] w fun e w' => e = .returned (.bool (Ad.label s.data.toList)) ∧ w' = w := by
  have hl : s.data.toList.length = s.size := by simp
  obtain ⟨R, hR⟩ : ∃ R, Ad.label s.data.toList = R := ⟨_, rfl⟩
  have HF := Lib.hid (fun k (hk : k < s.size) (h : Ad.labelAt s.data.toList k = false) => hR.symm.trans (Ad.label_false (i := k) (by rw [hl]; exact hk) h))
  have HE := Lib.hid (fun (h : (List.range s.size).all (Ad.labelAt s.data.toList) = true) => hR.symm.trans (Ad.label_end (by rw [hl]; exact h)))
  rw [hl] at HE
  rw [hR]
  clear hR hl
  go_enter Tryd.func61, Tryd.ntmps61
  go_wp2_with fail
  go_loopw [3, 4] (fun i _ wr => wr = w ∧ ∃ k : Nat, i = .int .i64 (k : Int) ∧ k ≤ s.size ∧ (List.range k).all (Ad.labelAt s.data.toList) = true) (fun i _ _ => s.size - (intOf i).toNat)
  case atStart => exact ⟨rfl, 0, rfl, by omega, rfl⟩
  case round =>
    obtain ⟨hwr, k, rfl, hk, hall⟩ := hrel
    obtain rfl : w = wr := hwr.symm
    clear hwr
    by_cases hlt : k < s.size
    · have hki : (k : Int) < (s.size : Int) := by omega
      have hat := labelAt_eq s k hlt
      have HBX := Lib.hid (HF.out k hlt)
      have HNX := Lib.hid (range_all _ k hall)
      rw [hat] at HBX HNX
      obtain ⟨x, hx⟩ : ∃ x, s[k] = x := ⟨_, rfl⟩
      rw [hx] at HBX HNX
      have hxl := x.toNat_lt
      have HLX := Lib.hid (letter_any x w)
      clear hat hall
      cases hlet : Ad.isLet x with
      | true =>
        rw [hlet] at HLX HNX
        have HOK := Lib.hid (HNX.out rfl)
        clear hlet
        go_wp2_with fail
        refine HLX.out.mono ?_
        rintro e w1 ⟨rfl, hw1⟩
        obtain rfl : w = w1 := hw1.symm
        clear hw1
        go_wp2_with fail
        go_roundw
        case rel => exact ⟨trivial, k + 1, by go_num, by omega, HOK.out⟩
        case measure => simp [intOf]; omega
      | false =>
        rw [hlet] at HLX HBX HNX
        by_cases h45 : x = 45
        · have g45 : (x.toNat : Int) = 45 := by rw [h45]; rfl
          rw [g45] at HLX
          rw [h45] at HBX HNX
          clear h45 hlet
          by_cases hk0 : k = 0
          · have HBAD := Lib.hid (HBX.out (by simp [hk0]))
            obtain rfl : k = 0 := hk0
            have hki0 : (0 : Int) < (s.size : Int) := by omega
            clear HBX HNX hki
            go_wp2_with fail
            refine HLX.out.mono ?_
            rintro e w1 ⟨rfl, hw1⟩
            obtain rfl : w = w1 := hw1.symm
            clear hw1
            go_wp2_with fail
            go_ret
            exact ⟨by rw [HBAD.out]; rfl, rfl⟩
          · obtain ⟨q, hq⟩ : ∃ q, s.size - 1 = q := ⟨_, rfl⟩
            have hqi : (s.size : Int) - 1 = (q : Int) := by omega
            have gk0 : ¬ (k : Int) = 0 := by omega
            have bk0 : ((k : Int) == 0) = false := by simpa using gk0
            clear gk0
            by_cases hk1 : k + 1 = s.size
            · have HBAD := Lib.hid (HBX.out (by simp [hk1]))
              obtain rfl : k = q := by omega
              clear HBX HNX hk1 hq
              go_wp2_with fail
              refine HLX.out.mono ?_
              rintro e w1 ⟨rfl, hw1⟩
              obtain rfl : w = w1 := hw1.symm
              clear hw1
              go_wp2_with fail
              go_ret
              exact ⟨by rw [HBAD.out]; rfl, rfl⟩
            · have gk1 : ¬ (k : Int) = (q : Int) := by omega
              have bk1 : ((k : Int) == (q : Int)) = false := by simpa using gk1
              have HOK := Lib.hid (HNX.out (by simp [hk0, hk1]))
              clear gk1
              go_wp2_with fail
              refine HLX.out.mono ?_
              rintro e w1 ⟨rfl, hw1⟩
              obtain rfl : w = w1 := hw1.symm
              clear hw1
              go_wp2_with fail
              go_roundw
              case rel => exact ⟨trivial, k + 1, by go_num, by omega, HOK.out⟩
              case measure => simp [intOf]; omega
        · have g45 : ¬ (x.toNat : Int) = 45 := fun e => h45 (UInt8.toNat_inj.1 (by simpa using (by omega : x.toNat = 45)))
          have HBAD := Lib.hid (HBX.out (by simp [h45]))
          clear h45 hlet
          go_wp2_with fail
          refine HLX.out.mono ?_
          rintro e w1 ⟨rfl, hw1⟩
          obtain rfl : w = w1 := hw1.symm
          clear hw1
          go_wp2_with fail
          go_ret
          exact ⟨by rw [HBAD.out]; rfl, rfl⟩
    · obtain rfl : k = s.size := by omega
      have HEX := Lib.hid (HE.out hall)
      clear hall
      by_cases h1 : 1 ≤ s.size
      · have g1 : (1 : Int) ≤ (s.size : Int) := by omega
        by_cases h20 : s.size ≤ 20
        · have g20 : (s.size : Int) ≤ 20 := by omega
          go_wp2_with fail
          go_ret
          exact ⟨by rw [HEX.out, decide_eq_true h1, decide_eq_true h20]; rfl, rfl⟩
        · have g20 : ¬ (s.size : Int) ≤ 20 := by omega
          go_wp2_with fail
          go_ret
          exact ⟨by rw [HEX.out, decide_eq_true h1, decide_eq_false h20]; rfl, rfl⟩
      · have g1 : ¬ (1 : Int) ≤ (s.size : Int) := by omega
        go_wp2_with fail
        go_ret
        exact ⟨by rw [HEX.out, decide_eq_false h1]; rfl, rfl⟩

theorem run_sub (L : List UInt8) (a b : Nat) (hab : a ≤ b) (hb : b ≤ L.length) (W : World) : (Instr.slice 9 (.string (ba L)) (some (.int .i64 (a : Int))) (some (.int .i64 (b : Int))) none).run Tryd.prog W = .ok (.string (ba ((L.drop a).take (b - a)))) W := by
  have h4 : b ≤ (ba L).size := by rw [ba_size]; exact hb
  have e : (ba L).extract a b = ba ((L.drop a).take (b - a)) := by
    have h := Lib.extract_eq (ba L) a b
    rw [ba_list] at h
    exact h
  rw [← e]
  simp [Instr.slice, Instr.sliceBounds, Instr.sliceBound, asIntOf, run_underlying Tryd.underlying9, h4, hab]
/-- Where the loop of host stands. -/
def HostRel (L : List UInt8) (n frm i : Value) : Prop :=
  ∃ (k f : Nat) (done : List (List UInt8)), i = .int .i64 (k : Int) ∧ frm = .int .i64 (f : Int) ∧ n = .int .i64 (done.length : Int) ∧ done.all Ad.label = true ∧ done.length ≤ k ∧ f ≤ k ∧
    ((k ≤ L.length ∧ Ad.splits [] L = done ++ Ad.splits ((L.drop f).take (k - f)) (L.drop k)) ∨ (k = L.length + 1 ∧ Ad.splits [] L = done))
theorem host_mem {L : List UInt8} {done : List (List UInt8)} {p r : List UInt8} {rest : List (List UInt8)} (h : Ad.splits [] L = (done ++ [p]) ++ rest) (_hr : r = p) : p ∈ Ad.splits [] L := by
  rw [h]
  simp
set_option maxRecDepth 100000 in
set_option maxHeartbeats 4000000 in
theorem rhost_any (s : ByteArray) (hs : s.size ≤ 1000000) (w : World) :
    Calls Tryd.prog 48 #[.string s] w fun e w' => e = .returned (.bool (Ad.host s.data.toList)) ∧ w' = w := by
  obtain ⟨L, rfl⟩ : ∃ L, s = ba L := ⟨s.data.toList, (ba_back s).symm⟩
  rw [ba_list]
  have hl : L.length = (ba L).size := (ba_size L).symm
  obtain ⟨R, hR⟩ : ∃ R, Ad.host L = R := ⟨_, rfl⟩
  have HF := Lib.hid (fun p (h1 : p ∈ Ad.splits [] L) (h2 : Ad.label p = false) => hR.symm.trans (Ad.host_false h1 h2))
  have HE := Lib.hid (fun done (h1 : Ad.splits [] L = done) (h2 : done.all Ad.label = true) => hR.symm.trans (Ad.host_end h1 h2))
  rw [hR]
  clear hR
  obtain ⟨S, hS⟩ : ∃ S, ba L = S := ⟨_, rfl⟩
  have HR := Lib.hid (fun a b h1 h2 W => run_sub L a b h1 h2 W)
  rw [hS] at hl hs HR ⊢
  have HS := Lib.hid hS
  clear hS
  go_enter Tryd.func48, Tryd.ntmps48
  go_wp2_with fail
  go_loopw [3, 4, 5, 6] (fun n frm i _ wr => wr = w ∧ HostRel L n frm i) (fun _ _ i _ _ => S.size + 2 - (intOf i).toNat)
  case atStart => exact ⟨rfl, 0, 0, [], rfl, rfl, rfl, rfl, by simp, by omega, .inl ⟨by omega, by simp⟩⟩
  case round =>
    obtain ⟨hwr, k, f, done, rfl, rfl, rfl, hall, hdk, hfk, hcase⟩ := hrel
    obtain rfl : w = wr := hwr.symm
    have hdk2 : done.length ≤ 1000002 := by rcases hcase with h | h <;> omega
    have hnw : (done.length : Int) ≤ 1000002 := by omega
    clear hwr
    rcases hcase with ⟨hkl, hsp⟩ | ⟨hkl, hsp⟩
    · have hki : (k : Int) ≤ (S.size : Int) := by omega
      have hfrom := Ad.splits_from L done f k hfk hkl hsp
      by_cases hlt : k < S.size
      · have hki2 : (k : Int) < (S.size : Int) := by omega
        have hkL : k < L.length := by omega
        have hxk : S[k] = L[k] := by have h1 := HS.out; subst h1; rfl
        obtain ⟨x, hx⟩ : ∃ x, S[k] = x := ⟨_, rfl⟩
        have hLx : L[k] = x := by rw [← hxk, hx]
        by_cases h46 : x = 46
        · have g46 : (x.toNat : Int) = 46 := by rw [h46]; rfl
          have hn2 := hfrom.2.1 hkL (by rw [hLx, h46])
          obtain ⟨p, hp⟩ : ∃ p, (L.drop f).take (k - f) = p := ⟨_, rfl⟩
          have hsl := HR.out f k hfk (by omega)
          rw [hp] at hn2 hsl
          have hpz : p.length ≤ 1000000 := by rw [← hp, List.length_take, List.length_drop]; omega
          have HL := Lib.hid (rlabel_any (ba p) (by rw [ba_size]; exact hpz) w)
          rw [ba_list] at HL
          generalize ba p = P at hsl HL
          have HMEM := Lib.hid (HF.out p (host_mem hn2 rfl))
          have HN2 := Lib.hid hn2
          have HALL := Lib.hid hall
          clear hfrom hsp hall hn2 hp hpz hxk hLx h46
          go_wp2_with fail
          refine HL.out.mono ?_
          rintro e w1 ⟨rfl, hw1⟩
          obtain rfl : w = w1 := hw1.symm
          clear hw1
          cases hb : Ad.label p with
          | false =>
            have HX := Lib.hid (HMEM.out hb)
            clear hb
            go_wp2_with fail
            go_ret
            exact ⟨by rw [HX.out]; rfl, rfl⟩
          | true =>
            have HA2 : Hid ((done ++ [p]).all Ad.label = true) := Lib.hid (by rw [List.all_append, HALL.out]; simp [hb])
            clear hb
            go_wp2_with fail
            go_roundw
            case rel => exact ⟨trivial, k + 1, k + 1, done ++ [p], by go_num, by go_num, by rw [List.length_append]; go_num, HA2.out, by rw [List.length_append]; simp; omega, by omega, .inl ⟨by omega, HN2.out⟩⟩
            case measure => simp [intOf] <;> omega
        · have g46 : ¬ (x.toNat : Int) = 46 := fun e => h46 (UInt8.toNat_inj.1 (by simpa using (by omega : x.toNat = 46)))
          have hn2 := Lib.hid (hfrom.1 hkL (by rw [hLx]; exact h46))
          have HALL := Lib.hid hall
          clear h46 hfrom hsp hall hxk hLx
          go_wp2_with fail
          go_roundw
          case rel => exact ⟨trivial, k + 1, f, done, by go_num, rfl, rfl, HALL.out, by omega, by omega, .inl ⟨by omega, hn2.out⟩⟩
          case measure => simp [intOf]; omega
      · obtain rfl : k = S.size := by omega
        have hn2 : Ad.splits [] L = (done ++ [(L.drop f).take (S.size - f)]) ++ [] := by
          rw [List.append_nil]
          exact hfrom.2.2 (by omega)
        obtain ⟨p, hp⟩ : ∃ p, (L.drop f).take (S.size - f) = p := ⟨_, rfl⟩
        have hsl := HR.out f S.size hfk (by omega)
        rw [hp] at hn2 hsl
        have hpz : p.length ≤ 1000000 := by rw [← hp, List.length_take, List.length_drop]; omega
        have HL := Lib.hid (rlabel_any (ba p) (by rw [ba_size]; exact hpz) w)
        rw [ba_list] at HL
        generalize ba p = P at hsl HL
        have HMEM := Lib.hid (HF.out p (host_mem hn2 rfl))
        have HN2 := Lib.hid hn2
        have HALL := Lib.hid hall
        clear hfrom hsp hall hn2 hp hpz
        go_wp2_with fail
        refine HL.out.mono ?_
        rintro e w1 ⟨rfl, hw1⟩
        obtain rfl : w = w1 := hw1.symm
        clear hw1
        cases hb : Ad.label p with
        | false =>
          have HX := Lib.hid (HMEM.out hb)
          clear hb
          go_wp2_with fail
          go_ret
          exact ⟨by rw [HX.out]; rfl, rfl⟩
        | true =>
          have HA2 : Hid ((done ++ [p]).all Ad.label = true) := Lib.hid (by rw [List.all_append, HALL.out]; simp [hb])
          clear hb
          go_wp2_with fail
          go_roundw
          case rel => exact ⟨trivial, S.size + 1, S.size + 1, done ++ [p], by go_num, by go_num, by rw [List.length_append]; go_num, HA2.out, by rw [List.length_append]; simp; omega, by omega, .inr ⟨by omega, by have := HN2.out; rwa [List.append_nil] at this⟩⟩
          case measure => simp [intOf] <;> omega
    · obtain rfl : k = S.size + 1 := by omega
      have hki : ¬ ((S.size + 1 : Nat) : Int) ≤ (S.size : Int) := by omega
      obtain ⟨m, hm⟩ : ∃ m, S.size + 1 = m := ⟨_, rfl⟩
      rw [hm] at hki ⊢
      have HEX := Lib.hid (HE.out done hsp hall)
      obtain ⟨d, hd⟩ : ∃ d, done.length = d := ⟨_, rfl⟩
      rw [hd] at HEX hnw hdk2 ⊢
      clear hsp hall hd
      by_cases h2 : 2 ≤ d
      · have g2 : (2 : Int) ≤ (d : Int) := by omega
        go_wp2_with fail
        go_ret
        exact ⟨by rw [HEX.out, decide_eq_true h2]; rfl, rfl⟩
      · have g2 : ¬ (2 : Int) ≤ (d : Int) := by omega
        go_wp2_with fail
        go_ret
        exact ⟨by rw [HEX.out, decide_eq_false h2]; rfl, rfl⟩
end Go.Proofs.YtpcbbmafallogaaDoor
