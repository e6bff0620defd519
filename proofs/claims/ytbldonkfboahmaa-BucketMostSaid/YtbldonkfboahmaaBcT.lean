/-
  Contracts of bucket.right, Check and Most and of the document's Check, Most and Same. Condition: rows of at most 1000000 buckets.
-/
import Derived.BigQuiet
import Derived.Test.YtbldonkfboahmaaBcR
namespace Go.Proofs.Ytbldonkfboahmaa
open Go.RowKit

/-! ### Same -/
theorem bu_ne {S T : Nat → Prop} {w : World} {A B : Option Addr} {l m : List Bu} (hA : Lies S w A (bus l)) (hB : Lies T w B (bus m)) (i : Nat) (hi : i < l.length) (hj : i < m.length) :
    ∃ a b, A = some a ∧ B = some b ∧ BuAt w (a.add (i * 3)) l[i] ∧ BuAt w (b.add (i * 3)) m[i] := by
  obtain ⟨a, e1, h1⟩ := lies_bu hA i hi
  obtain ⟨b, e2, h2⟩ := lies_bu hB i hj
  exact ⟨a, b, e1, e2, h1, h2⟩
set_option maxRecDepth 100000 in
set_option maxHeartbeats 4000000 in
theorem Same_any {S T : Nat → Prop} (A B : Option Addr) (cp cq : Nat) (l m : List Bu) (hl : l.length ≤ 1000000) (_hm : m.length ≤ 1000000) (w : World) (hA : Lies S w A (bus l)) (hB : Lies T w B (bus m)) :
    Calls Try.prog 21 #[.slice A l.length cp, .slice B m.length cq] w fun e w' => e = .returned (.bool (decide (l = m))) ∧ Below w.heap.size w w' := by
  have HA := Lib.hid hA
  have HB := Lib.hid hB
  by_cases hlen : l.length = m.length
  · obtain ⟨r, hr⟩ : ∃ r, decide (l = m) = r := ⟨_, rfl⟩
    rw [hr]
    have HR := Lib.hid hr
    have HLM := Lib.hid hlen
    rw [← hlen]
    clear hr hA hB hlen
    go_enter Try.func21, Try.ntmps21
    go_wp2_with fail
    go_loopw [5] (fun i wr => ∃ k : Nat, i = .int .i64 (k : Int) ∧ k ≤ l.length ∧ (∀ j (h1 : j < l.length) (h2 : j < m.length), j < k → l[j] = m[j]) ∧ Below w.heap.size w wr) (fun i _ => l.length - (intOf i).toNat)
    case atStart => exact ⟨0, rfl, by omega, fun j _ _ hj => absurd hj (by omega), Below.refl _ w⟩
    case round =>
      obtain ⟨k, rfl, hk, hall, hbel⟩ := hrel
      have HALL := Lib.hid hall
      have HBE := Lib.hid hbel
      clear hall hbel
      by_cases hlt : k < l.length
      · have hkm : k < m.length := by have := HLM.out; omega
        have hki : (k : Int) < (l.length : Int) := by omega
        obtain ⟨a, b, rfl, rfl, sa, sb⟩ := bu_ne (HA.out.below HBE.out) (HB.out.below HBE.out) k hlt hkm
        obtain ⟨x, hx⟩ : ∃ x, l[k] = x := ⟨_, rfl⟩
        obtain ⟨y, hy⟩ : ∃ y, m[k] = y := ⟨_, rfl⟩
        obtain ⟨p, hp⟩ : ∃ p, a.add (k * 3) = p := ⟨_, rfl⟩
        obtain ⟨q, hq⟩ : ∃ q, b.add (k * 3) = q := ⟨_, rfl⟩
        have HX := Lib.hid hx
        have HY := Lib.hid hy
        rw [hx, hp] at sa
        rw [hy, hq] at sb
        have s0 := sa.c0
        have s1 := sa.c1
        have s2 := sa.c2
        have t0 := sb.c0
        have t1 := sb.c1
        have t2 := sb.c2
        have hne := fun W => bu_neq x y W
        obtain ⟨d, hd⟩ : ∃ d, decide (x ≠ y) = d := ⟨_, rfl⟩
        rw [hd] at hne
        clear sa sb hx hy
        cases d with
        | true =>
          have hxy : x ≠ y := of_decide_eq_true hd
          have HF : Hid (false = r) := Lib.hid (by
            rw [← HR.out, eq_comm, decide_eq_false_iff_not]
            intro e
            apply hxy
            rw [← HX.out, ← HY.out]
            simp only [e])
          clear hd hxy
          go_wp2_with fail
          go_quiet (fail)
          go_wp2_with fail
          go_ret
          exact ⟨by rw [HF.out]; rfl, below_drewN HBE.out _⟩
        | false =>
          have hxy : x = y := by
            rcases Classical.em (x = y) with h | h
            · exact h
            · rw [decide_eq_true h] at hd; cases hd
          have HXY := Lib.hid hxy
          clear hd hxy
          go_wp2_with fail
          go_quiet (fail)
          go_wp2_with fail
          go_roundw
          case rel => exact ⟨k + 1, by go_num, by omega, fun j h1 h2 hj => by
            rcases Nat.lt_or_ge j k with h | h
            · exact HALL.out j h1 h2 h
            · have e : j = k := by omega
              subst e
              rw [HX.out, HY.out, HXY.out], below_drewN HBE.out _⟩
          case measure => simp [intOf]; omega
      · obtain rfl : k = l.length := by omega
        have HT : Hid (true = r) := Lib.hid (by
          rw [← HR.out, eq_comm, decide_eq_true_eq]
          exact List.ext_getElem HLM.out (fun j h1 h2 => HALL.out j h1 h2 h1))
        go_wp2_with fail
        go_ret
        exact ⟨by rw [HT.out]; rfl, HBE.out⟩
  · have hne : ¬ l = m := fun e => hlen (by rw [e])
    rw [decide_eq_false hne]
    have hn : (((l.length : Int) != (m.length : Int)) : Bool) = true := by
      rw [bne_iff_ne]
      omega
    clear hne hlen hA hB
    go_enter Try.func21, Try.ntmps21
    go_wp2_with fail
    go_ret
    exact ⟨rfl, Below.refl _ w⟩

/-! ### Most -/
def mostI (t : Int) : Int := if t < 1 then 0 else 4 + (min t 1099511627776 - 1) / 25
theorem quo_pos (t : Int) (h : 1 ≤ t) : (t - 1).tdiv 25 = (t - 1) / 25 := Int.tdiv_eq_ediv_of_nonneg (by omega)
set_option maxRecDepth 100000 in
set_option maxHeartbeats 2000000 in
theorem Most_any (t : Int) (_h : -9223372036854775808 ≤ t ∧ t ≤ 9223372036854775807) (w : World) :
    Calls Try.prog 17 #[.int .i64 t] w fun e w' => e = .returned (.int .i64 (mostI t)) ∧ w = w' := by
  unfold mostI
  by_cases h1 : t < 1
  · rw [if_pos h1]
    go_enter Try.func17, Try.ntmps17
    go_wp2_with fail
    go_ret
    exact ⟨rfl, rfl⟩
  · rw [if_neg h1]
    obtain ⟨m, hm⟩ : ∃ m, min t 1099511627776 = m := ⟨_, rfl⟩
    obtain ⟨r, hr⟩ : ∃ r, (m - 1) / 25 = r := ⟨_, rfl⟩
    have hq : (m - 1).tdiv 25 = r := by rw [← hr]; exact quo_pos m (by omega)
    have hw1 : IntKind.i64.wrap (m - 1) = m - 1 := by rw [IntKind.wrap_i64]; omega
    have hw2 : IntKind.i64.wrap r = r := by rw [IntKind.wrap_i64]; omega
    have hw3 : IntKind.i64.wrap (4 + r) = 4 + r := by rw [IntKind.wrap_i64]; omega
    rw [hm, hr]
    have HM := Lib.hid hm
    clear hr
    go_enter Try.func17, Try.ntmps17
    go_wp2_with fail
    go_ret
    exact ⟨rfl, rfl⟩
set_option maxRecDepth 100000 in
set_option maxHeartbeats 2000000 in
theorem RMost_any (t : Int) (_h : -9223372036854775808 ≤ t ∧ t ≤ 9223372036854775807) (w : World) :
    Calls Try.prog 18 #[.int .i64 t] w fun e w' => e = .returned (.int .i64 (mostI t)) ∧ w = w' := by
  unfold mostI
  by_cases h1 : t < 1
  · rw [if_pos h1]
    go_enter Try.func18, Try.ntmps18
    go_wp2_with fail
    go_ret
    exact ⟨rfl, rfl⟩
  · rw [if_neg h1]
    by_cases h2 : t > 1099511627776
    · have hm : min t 1099511627776 = 1099511627776 := by omega
      rw [hm]
      have HD : Hid (4 + ((1099511627776 : Int) - 1) / 25 = 43980465115) := Lib.hid (by decide)
      rw [HD.out]
      go_enter Try.func18, Try.ntmps18
      go_wp2_with fail
      go_ret
      exact ⟨rfl, rfl⟩
    · have hm : min t 1099511627776 = t := by omega
      rw [hm]
      obtain ⟨r, hr⟩ : ∃ r, (t - 1) / 25 = r := ⟨_, rfl⟩
      have hq : (t - 1).tdiv 25 = r := by rw [← hr]; exact quo_pos t (by omega)
      have hw1 : IntKind.i64.wrap (t - 1) = t - 1 := by rw [IntKind.wrap_i64]; omega
      have hw2 : IntKind.i64.wrap r = r := by rw [IntKind.wrap_i64]; omega
      have hw3 : IntKind.i64.wrap (4 + r) = 4 + r := by rw [IntKind.wrap_i64]; omega
      rw [hr]
      clear hr hm
      go_enter Try.func18, Try.ntmps18
      go_wp2_with fail
      go_ret
      exact ⟨rfl, rfl⟩
end Go.Proofs.Ytbldonkfboahmaa
