/-
  Contract of the document's own Check (layer 11). Condition: rows of at most 1000000 secrets, channels of 50000 bytes at most.
-/
import Derived.Test.YtfjdcopndkdbmaaGreatDoorVrE
import Derived.BigQuiet
namespace Go.Proofs.YtfjdcopndkdbmaaGreatDoor
open Go.RowKit

instance uniq_dec (l : List Va.Sec) : Decidable (Rw.Uniq Va.Sec.key l) := inferInstanceAs (Decidable (List.Nodup _))
def checkB (l : List Va.Sec) : Bool := l.all rightS && decide (Rw.Uniq Va.Sec.key l) && decide (l.length ≤ 40)
theorem place_le {l : List Va.Sec} (i : Nat) (hi : i < l.length) : ∃ j, j ≤ i ∧ Rw.place Va.Sec.key l l[i].key = some j := by
  cases hp : Rw.place Va.Sec.key l l[i].key with
  | none => exact absurd rfl (Rw.find_none.1 (Rw.place_none.1 hp) _ (List.getElem_mem hi))
  | some j =>
    obtain ⟨hj, _, _, h3⟩ := Rw.place_some hp
    refine ⟨j, ?_, rfl⟩
    rcases Nat.lt_or_ge i j with h | h
    · exact absurd rfl (h3 i h)
    · exact h
theorem uniq_of_place {l : List Va.Sec} (h : ∀ j (hj : j < l.length), Rw.place Va.Sec.key l l[j].key = some j) : Rw.Uniq Va.Sec.key l := by
  unfold Rw.Uniq List.Nodup
  rw [List.pairwise_iff_getElem]
  intro i j hi hj hij he
  simp only [List.getElem_map] at he
  have hi' : i < l.length := by simpa using hi
  have hj' : j < l.length := by simpa using hj
  have h1 := h i hi'
  have h2 := h j hj'
  rw [he, h2] at h1
  injection h1 with h1
  omega
theorem place_of_uniq {l : List Va.Sec} (h : Rw.Uniq Va.Sec.key l) (i : Nat) (hi : i < l.length) : Rw.place Va.Sec.key l l[i].key = some i :=
  place_first hi rfl (fun j hj => h.before i hi j hj)
theorem check_bad {l : List Va.Sec} (k : Nat) (hk : k < l.length) (h : rightS l[k] = false) : checkB l = false := by
  unfold checkB
  have : l.all rightS = false := List.all_eq_false.2 ⟨l[k], List.getElem_mem hk, by rw [h]; decide⟩
  rw [this]
  rfl
theorem check_two {l : List Va.Sec} (k i : Nat) (hk : k < l.length) (hi : i < k) (h : Rw.place Va.Sec.key l l[k].key = some i) : checkB l = false := by
  unfold checkB
  have hn : ¬ Rw.Uniq Va.Sec.key l := fun hu => by
    rw [place_of_uniq hu k hk] at h
    injection h with h
    omega
  rw [decide_eq_false hn]
  cases l.all rightS <;> rfl
theorem check_good {l : List Va.Sec} (h1 : ∀ j (hj : j < l.length), rightS l[j] = true) (h2 : ∀ j (hj : j < l.length), Rw.place Va.Sec.key l l[j].key = some j) : checkB l = decide ((l.length : Int) ≤ 40) := by
  unfold checkB
  have ha : l.all rightS = true := List.all_eq_true.2 fun s hs => by
    obtain ⟨j, hj, rfl⟩ := List.mem_iff_getElem.1 hs
    exact h1 j hj
  rw [ha, decide_eq_true (uniq_of_place h2), Bool.true_and, Bool.true_and, decide_eq_decide]
  omega
set_option maxRecDepth 100000 in
set_option maxHeartbeats 4000000 in
theorem rcheck_any {S : Nat → Prop} (A : Option Addr) (cp : Nat) (l : List Va.Sec) (_hl : l.length ≤ 1000000) (hch : ∀ s ∈ l, s.channel.size ≤ 50000) (w : World) (hA : Lies S w A (secs l)) :
    Calls Tryz.prog 33 #[.slice A l.length cp] w fun e w' => e = .returned (.bool (checkB l)) ∧ Below w.heap.size w w' := by
  have HA := Lib.hid hA
  have HCH := Lib.hid hch
  clear hA hch
  obtain ⟨R, hR⟩ : ∃ R, checkB l = R := ⟨_, rfl⟩
  rw [hR]
  have HR := Lib.hid hR
  clear hR
  go_enter Tryz.func33, Tryz.ntmps33
  go_wp2_with fail
  go_loopw [3] (fun i wr => ∃ k : Nat, i = .int .i64 (k : Int) ∧ k ≤ l.length ∧ Below w.heap.size w wr ∧ (∀ j (_ : j < k) (hl : j < l.length), rightS l[j] = true) ∧ (∀ j (_ : j < k) (hl : j < l.length), Rw.place Va.Sec.key l l[j].key = some j)) (fun i _ => l.length - (intOf i).toNat)
  case atStart => exact ⟨0, rfl, by omega, Below.refl _ w, fun j hj => by omega, fun j hj => by omega⟩
  case round =>
    obtain ⟨k, rfl, hk, hbw, h1, h2⟩ := hrel
    have HBW := Lib.hid hbw
    have H1 := Lib.hid h1
    have H2 := Lib.hid h2
    clear hbw h1 h2
    by_cases hlt : k < l.length
    · have hki : (k : Int) < (l.length : Int) := by omega
      obtain ⟨ad, hAe, sa⟩ := lies_sec (HA.out.below HBW.out) k hlt
      have HS := Lib.hid (HA.out.below HBW.out)
      subst hAe
      have hcs := HCH.out _ (List.getElem_mem hlt)
      obtain ⟨j, hj, hpl⟩ := place_le k hlt
      obtain ⟨q, hq⟩ : ∃ q, ad.add (k * 6) = q := ⟨_, rfl⟩
      rw [hq] at sa
      have hbad := check_bad k hlt
      have htwo := fun h => check_two k j hlt h hpl
      obtain ⟨s, hs⟩ : ∃ s, l[k] = s := ⟨_, rfl⟩
      rw [hs] at sa hcs hpl hbad
      have HBAD := Lib.hid hbad
      have HTWO := Lib.hid htwo
      have HPL := Lib.hid hpl
      have HSS := Lib.hid hs
      have HRR := Lib.hid (fun W => rright_any s.digest s.account s.purpose s.channel s.expires s.tries hcs W)
      change Hid (∀ W, Calls _ _ #[.agg #[.string s.digest, .int .i64 s.account, .int .i64 s.purpose, .string s.channel, .int .i64 s.expires, .int .i64 s.tries]] W fun e w' => e = .returned (.bool (rightS s)) ∧ _) at HRR
      obtain ⟨a0, a1, a2, a3, a4, a5, _⟩ := id sa
      have HSA := Lib.hid sa
      clear hbad htwo hpl hs sa
      cases hrs : rightS s with
      | false =>
        rw [hrs] at HRR HBAD
        have hb := HR.out.symm.trans (HBAD.out rfl)
        subst hb
        go_wp2_with fail
        refine (HRR.out _).mono ?_
        rintro e w1 ⟨rfl, hb1⟩
        have HB1 := Lib.hid (HBW.out.trans (hb1.mono HBW.out.size))
        clear hb1
        go_wp2_with fail
        go_big_quiet (fail)
        go_wp2_with fail
        go_ret
        exact ⟨rfl, HB1.out.trans (below_drewN (Below.refl _ _) _)⟩
      | true =>
        rw [hrs] at HRR HBAD
        have hpa : ∀ W, Below wr.heap.size wr W → Calls Tryz.prog 53 #[.slice (some ad) l.length cp, .int .i64 s.account, .int .i64 s.purpose, .string s.channel] W fun e w' => e = .returned (.int .i64 (j : Int)) ∧ w' = W := fun W hW => by
          have h := rat_any (some ad) cp l _hl s.account s.purpose s.channel W (HS.out.below hW)
          unfold atI at h
          rw [show Rw.place Va.Sec.key l (s.account, s.purpose, s.channel) = some j from HPL.out] at h
          exact h
        have HPA := Lib.hid hpa
        clear hpa
        by_cases hjk : j < k
        · have hb := HR.out.symm.trans (HTWO.out hjk)
          subst hb
          have hd : decide ((j : Int) < (k : Int)) = true := decide_eq_true (by omega)
          go_wp2_with fail
          refine (HRR.out _).mono ?_
          rintro e w1 ⟨rfl, hb1⟩
          obtain ⟨c0, c1, c2, c3, c4, c5, _⟩ := HSA.out.below hb1
          have HBR := Lib.hid hb1
          have HB1 := Lib.hid (HBW.out.trans (hb1.mono HBW.out.size))
          clear hb1
          go_wp2_with fail
          go_big_quiet (first | exact Calls.quiet_of_same (HPA.out _ (below_drewN HBR.out _)))
          go_wp2_with fail
          go_ret
          exact ⟨rfl, HB1.out.trans (below_drewN (Below.refl _ _) _)⟩
        · obtain rfl : j = k := by omega
          have hd : decide ((j : Int) < (j : Int)) = false := decide_eq_false (by omega)
          go_wp2_with fail
          refine (HRR.out _).mono ?_
          rintro e w1 ⟨rfl, hb1⟩
          obtain ⟨c0, c1, c2, c3, c4, c5, _⟩ := HSA.out.below hb1
          have HBR := Lib.hid hb1
          have HB1 := Lib.hid (HBW.out.trans (hb1.mono HBW.out.size))
          clear hb1
          go_wp2_with fail
          go_big_quiet (first | exact Calls.quiet_of_same (HPA.out _ (below_drewN HBR.out _)))
          go_wp2_with fail
          go_roundw
          case rel =>
            refine ⟨j + 1, by go_num, by omega, HB1.out.trans (below_drewN (Below.refl _ _) _), fun i hi hl => ?_, fun i hi hl => ?_⟩
            · rcases Nat.lt_or_ge i j with h | h
              · exact H1.out i h hl
              · obtain rfl : i = j := by omega
                rw [HSS.out]
                exact hrs
            · rcases Nat.lt_or_ge i j with h | h
              · exact H2.out i h hl
              · obtain rfl : i = j := by omega
                rw [HSS.out]
                exact HPL.out
          case measure => simp [intOf]; omega
    · obtain rfl : k = l.length := by omega
      have hb := HR.out.symm.trans (check_good (fun j hj => H1.out j hj hj) (fun j hj => H2.out j hj hj))
      subst hb
      go_wp2_with fail
      go_ret
      exact ⟨rfl, HBW.out⟩
end Go.Proofs.YtfjdcopndkdbmaaGreatDoor
