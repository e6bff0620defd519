/-
  Contracts of bucket.right and Check and of the document's Check. Condition: rows of at most 1000000 buckets.
-/
import Derived.BigQuiet
import Derived.Test.YtbldonkfboahmaaBcT
namespace Go.Proofs.Ytbldonkfboahmaa
open Go.RowKit

/-- A bucket that a valid list may have, but for its key. -/
def rightI (s : Bu) : Bool := decide (0 ≤ s.left ∧ s.left < 4 ∧ 0 ≤ s.at_ ∧ s.at_ ≤ 1099511627776)
def prev (l : List Bu) : Nat → ByteArray
  | 0 => ⟨#[]⟩
  | i + 1 => ((l[i]?).map Bu.key).getD ⟨#[]⟩
theorem prev_succ (l : List Bu) (i : Nat) (h : i < l.length) : prev l (i + 1) = (l[i]).key := by simp [prev, h]
def good (l : List Bu) (i : Nat) (h : i < l.length) : Prop := kl (prev l i) (l[i]).key = true ∧ rightI l[i] = true
def GoodTo (l : List Bu) (k : Nat) : Prop := ∀ i (h : i < l.length), i < k → good l i h
theorem GoodTo.more {l : List Bu} {k : Nat} (h : GoodTo l k) (hk : k < l.length) (h1 : kl (prev l k) (l[k]).key = true) (h2 : rightI l[k] = true) : GoodTo l (k + 1) := fun i hi hik => by
  rcases Nat.lt_or_ge i k with h3 | h3
  · exact h i hi h3
  · have e : i = k := by omega
    subst e
    exact ⟨h1, h2⟩
noncomputable def checkB (l : List Bu) : Bool := @decide (l.length ≤ 24 ∧ GoodTo l l.length) (Classical.propDecidable _)
theorem check_no {l : List Bu} {k : Nat} (hk : k < l.length) (h : ¬ (kl (prev l k) (l[k]).key = true ∧ rightI l[k] = true)) : checkB l = false :=
  @decide_eq_false _ (Classical.propDecidable _) (fun hg => h (hg.2 k hk hk))
theorem check_long {l : List Bu} (h : ¬ l.length ≤ 24) : checkB l = false :=
  @decide_eq_false _ (Classical.propDecidable _) (fun hg => h hg.1)
theorem check_yes {l : List Bu} (h1 : l.length ≤ 24) (h : GoodTo l l.length) : checkB l = true :=
  @decide_eq_true _ (Classical.propDecidable _) ⟨h1, h⟩
theorem leq_not (a b : ByteArray) : (Op.bytesLess a.toList b.toList || a.toList == b.toList) = !kl b a := by
  rw [str_beq]
  rcases ordK.tri a b with h | h | h
  · have h2 := ordK.asymm h
    have h1 : Op.bytesLess a.toList b.toList = true := h
    rw [h1, h2]
    rfl
  · subst h
    rw [ordK.irrefl]
    simp
  · have h2 : Op.bytesLess a.toList b.toList = false := ordK.asymm h
    have hne : ¬ a = b := fun e => by rw [e, ordK.irrefl] at h; cases h
    rw [h2, h]
    simp [hne]
theorem kl_empty (k : ByteArray) : kl k ⟨#[]⟩ = false := by
  have e : (⟨#[]⟩ : ByteArray).toList = [] := by rw [ByteArray.toList_eq]
  unfold kl
  rw [e]
  cases k.toList <;> rfl
theorem kl_first {k : ByteArray} (h : ¬ k = ⟨#[]⟩) : kl ⟨#[]⟩ k = true := by
  rcases ordK.tri ⟨#[]⟩ k with h1 | h1 | h1
  · exact h1
  · exact absurd h1.symm h
  · rw [kl_empty] at h1; cases h1
theorem size_zero {s : ByteArray} (h : ¬ s = ⟨#[]⟩) : ¬ s.size = 0 := fun e => h (nil_of_size e)
set_option maxRecDepth 100000 in
set_option maxHeartbeats 4000000 in
theorem right_any (s : Bu) (w : World) : Calls Try.prog 28 #[.agg #[.string s.key, .int .i64 s.left, .int .i64 s.at_]] w fun e w' => e = .returned (.bool (rightI s)) ∧ Below w.heap.size w w' := by
  have hb1 : Below w.heap.size w (w.alloc (.cells #[.string s.key, .int .i64 s.left, .int .i64 s.at_] 54)) := (Below.refl _ w).alloc (Nat.le_refl _) _
  unfold rightI
  by_cases h1 : 0 ≤ s.left
  · by_cases h2 : s.left < 4
    · by_cases h3 : 0 ≤ s.at_
      · by_cases h4 : s.at_ ≤ 1099511627776
        · rw [decide_eq_true ⟨h1, h2, h3, h4⟩]
          go_enter Try.func28, Try.ntmps28
          go_wp2_with fail
          go_ret
          exact ⟨rfl, hb1⟩
        · rw [decide_eq_false (fun h => h4 h.2.2.2)]
          go_enter Try.func28, Try.ntmps28
          go_wp2_with fail
          go_ret
          exact ⟨rfl, hb1⟩
      · rw [decide_eq_false (fun h => h3 h.2.2.1)]
        go_enter Try.func28, Try.ntmps28
        go_wp2_with fail
        go_ret
        exact ⟨rfl, hb1⟩
    · rw [decide_eq_false (fun h => h2 h.2.1)]
      go_enter Try.func28, Try.ntmps28
      go_wp2_with fail
      go_ret
      exact ⟨rfl, hb1⟩
  · rw [decide_eq_false (fun h => h1 h.1)]
    go_enter Try.func28, Try.ntmps28
    go_wp2_with fail
    go_ret
    exact ⟨rfl, hb1⟩
set_option maxRecDepth 100000 in
set_option maxHeartbeats 4000000 in
theorem Check_any {S : Nat → Prop} (A : Option Addr) (cp : Nat) (l : List Bu) (hl : l.length ≤ 1000000) (w : World) (hA : Lies S w A (bus l)) :
    Calls Try.prog 14 #[.slice A l.length cp] w fun e w' => e = .returned (.bool (checkB l)) ∧ Below w.heap.size w w' := by
  by_cases h24 : l.length ≤ 24
  · obtain ⟨r, hr⟩ : ∃ r, checkB l = r := ⟨_, rfl⟩
    rw [hr]
    have HR := Lib.hid hr
    have HA := Lib.hid hA
    have hn : ¬ ((l.length : Int) > 24) := by omega
    clear hr hA
    go_enter Try.func14, Try.ntmps14
    go_wp2_with fail
    go_loopw [3, 5, 11] (fun b _ i wr => ∃ k : Nat, b = .string (prev l k) ∧ i = .int .i64 (k : Int) ∧ k ≤ l.length ∧ GoodTo l k ∧ Below w.heap.size w wr) (fun _ _ i _ => l.length - (intOf i).toNat)
    case atStart => exact ⟨0, rfl, rfl, by omega, fun j _ hj => absurd hj (by omega), Below.refl _ w⟩
    case round =>
      obtain ⟨k, rfl, rfl, hk, hall, hbel⟩ := hrel
      have HALL := Lib.hid hall
      have HBE := Lib.hid hbel
      by_cases hlt : k < l.length
      · have hki : (k : Int) < (l.length : Int) := by omega
        obtain ⟨a, rfl, sa⟩ := lies_bu (HA.out.below HBE.out) k hlt
        have hno : ¬ (kl (prev l k) (l[k]).key = true ∧ rightI l[k] = true) → false = r := fun h => by rw [← HR.out, check_no hlt h]
        have hyes := fun h1 h2 => (HALL.out.more hlt h1 h2)
        have hps := prev_succ l k hlt
        have hbef := leq_not (l[k]).key (prev l k)
        obtain ⟨p, hp⟩ : ∃ p, a.add (k * 3) = p := ⟨_, rfl⟩
        rw [hp] at sa
        obtain ⟨pv, hpv⟩ : ∃ pv, prev l k = pv := ⟨_, rfl⟩
        rw [hpv] at hno hyes hbef ⊢
        generalize l[k] = s at sa hno hyes hps hbef
        have s0 := sa.c0
        have s1 := sa.c1
        have s2 := sa.c2
        have HPS := Lib.hid hps
        have hb1 : Below w.heap.size w (wr.alloc (.cells #[.string s.key, .int .i64 s.left, .int .i64 s.at_] 54)) := hbel.alloc hbel.size _
        have HB1 := Lib.hid hb1
        have HBLK := Lib.hid (Blk.new wr 54 #[.string s.key, .int .i64 s.left, .int .i64 s.at_])
        have HRI := Lib.hid (right_any s (wr.alloc (.cells #[.string s.key, .int .i64 s.left, .int .i64 s.at_] 54)))
        clear hpv sa hall hbel hb1 hps
        cases hc : kl pv s.key with
        | false =>
          rw [hc] at hbef
          have HF := Lib.hid (hno (fun h => by rw [hc] at h; cases h.1))
          clear hno hyes hc
          go_wp2_with fail
          go_ret
          exact ⟨by rw [HF.out]; rfl, HB1.out⟩
        | true =>
          rw [hc] at hbef
          cases hd : rightI s with
          | false =>
            rw [hd] at HRI
            have HF := Lib.hid (hno (fun h => by rw [hd] at h; cases h.2))
            clear hno hyes hc hd
            go_wp2_with fail
            refine HRI.out.mono ?_
            rintro e w2 ⟨rfl, hb⟩
            have HB2 := Lib.hid (HB1.out.trans (hb.mono HB1.out.size))
            clear hb
            go_wp2_with fail
            go_ret
            exact ⟨by rw [HF.out]; rfl, HB2.out⟩
          | true =>
            rw [hd] at HRI
            have HY := Lib.hid (hyes hc hd)
            clear hno hyes hc hd
            go_wp2_with fail
            refine HRI.out.mono ?_
            rintro e w2 ⟨rfl, hb⟩
            have HB2 := Lib.hid (HB1.out.trans (hb.mono HB1.out.size))
            have x0 : w2.cell? ⟨wr.heap.size, 0, none⟩ = some (.string s.key) := ((HBLK.out.of (hb.block _ HBLK.out.lt)).cell 0).trans rfl
            clear hb
            go_wp2_with fail
            go_roundw
            case rel => exact ⟨k + 1, by rw [HPS.out], by go_num, by omega, HY.out, HB2.out⟩
            case measure => simp [intOf]; omega
      · obtain rfl : k = l.length := by omega
        have HT : Hid (true = r) := Lib.hid (by rw [← HR.out, check_yes h24 HALL.out])
        clear hall hbel
        go_wp2_with fail
        go_ret
        exact ⟨by rw [HT.out]; rfl, HBE.out⟩
  · rw [check_long h24]
    have hn : ((l.length : Int) > 24) := by omega
    go_enter Try.func14, Try.ntmps14
    go_wp2_with fail
    go_ret
    exact ⟨rfl, Below.refl _ w⟩
set_option maxRecDepth 100000 in
set_option maxHeartbeats 8000000 in
theorem RCheck_any {S : Nat → Prop} (A : Option Addr) (cp : Nat) (l : List Bu) (hl : l.length ≤ 1000000) (w : World) (hA : Lies S w A (bus l)) :
    Calls Try.prog 16 #[.slice A l.length cp] w fun e w' => e = .returned (.bool (checkB l)) ∧ Below w.heap.size w w' := by
  obtain ⟨r, hr⟩ : ∃ r, checkB l = r := ⟨_, rfl⟩
  rw [hr]
  have HR := Lib.hid hr
  have HA := Lib.hid hA
  clear hr hA
  go_enter Try.func16, Try.ntmps16
  go_wp2_with fail
  go_loopw [3, 4] (fun i _ wr => ∃ k : Nat, i = .int .i64 (k : Int) ∧ k ≤ l.length ∧ GoodTo l k ∧ Below w.heap.size w wr) (fun i _ _ => l.length - (intOf i).toNat)
  case atStart => exact ⟨0, rfl, by omega, fun j _ hj => absurd hj (by omega), Below.refl _ w⟩
  case round =>
    obtain ⟨k, rfl, hk, hall, hbel⟩ := hrel
    have HALL := Lib.hid hall
    have HBE := Lib.hid hbel
    by_cases hlt : k < l.length
    · have hki : (k : Int) < (l.length : Int) := by omega
      obtain ⟨a, rfl, sa⟩ := lies_bu (HA.out.below HBE.out) k hlt
      have hno : ¬ (kl (prev l k) (l[k]).key = true ∧ rightI l[k] = true) → false = r := fun h => by rw [← HR.out, check_no hlt h]
      have hyes := fun h1 h2 => (HALL.out.more hlt h1 h2)
      have hpc : 0 < k → (wr.alloc (.cells #[.string (l[k]).key, .int .i64 (l[k]).left, .int .i64 (l[k]).at_] 54)).cell? (a.add ((k - 1) * 3)) = some (.string (prev l k)) := fun h0 => by
        obtain ⟨a', e, sb⟩ := lies_bu ((HA.out.below HBE.out).below ((Below.refl _ wr).alloc (Nat.le_refl _) _)) (k - 1) (by omega)
        injection e with e
        subst e
        have hp := prev_succ l (k - 1) (by omega)
        rw [show k - 1 + 1 = k by omega] at hp
        rw [hp]
        exact sb.c0
      obtain ⟨p, hp⟩ : ∃ p, a.add (k * 3) = p := ⟨_, rfl⟩
      rw [hp] at sa
      obtain ⟨p2, hp2⟩ : ∃ p2, a.add ((k - 1) * 3) = p2 := ⟨_, rfl⟩
      rw [hp2] at hpc
      have hk0 : k = 0 → prev l k = ⟨#[]⟩ := fun h => by rw [h]; rfl
      generalize prev l k = pv at hno hyes hpc hk0
      generalize l[k] = s at sa hno hyes hpc
      have s0 := sa.c0
      have s1 := sa.c1
      have s2 := sa.c2
      have hb1 : Below w.heap.size w (wr.alloc (.cells #[.string s.key, .int .i64 s.left, .int .i64 s.at_] 54)) := hbel.alloc hbel.size _
      have HB1 := Lib.hid hb1
      clear sa hall hbel hb1
      by_cases he : s.key = ⟨#[]⟩
      · have b0 : (s.key.toList == (⟨#[]⟩ : ByteArray).toList) = true := by rw [he]; simp
        have b1 : s.key.toList.isEmpty = true := by rw [he, ByteArray.toList_eq]; rfl
        have b2 : s.key.toList = [] := by rw [he, ByteArray.toList_eq]
        have hke : kl pv s.key = false := by rw [he]; exact kl_empty pv
        have HF := Lib.hid (hno (fun h => by rw [hke] at h; cases h.1))
        clear hno hyes hke he hpc hk0
        go_wp2_with fail
        go_big_quiet (fail)
        go_wp2_with fail
        go_ret
        exact ⟨by rw [HF.out]; rfl, below_drewN HB1.out _⟩
      · obtain ⟨b0, b1⟩ := not_empty (size_zero he)
        have b2 : (s.key.toList == (⟨#[]⟩ : ByteArray).toList) = false := str_ne he
        by_cases hk00 : 0 < k
        · have hpv := hpc hk00
          have dk0 : decide ((k : Int) > 0) = true := decide_eq_true (by omega)
          have dk1 : decide ((0 : Int) < (k : Int)) = true := decide_eq_true (by omega)
          have hw1 : IntKind.i64.wrap ((k : Int) - 1) = ((k - 1 : Nat) : Int) := by rw [IntKind.wrap_i64]; omega
          have hk2 : ((k - 1 : Nat) : Int) < (l.length : Int) := by omega
          clear hpc hk0 he
          cases hc : kl pv s.key with
          | false =>
            have hc2 : Op.bytesLess pv.toList s.key.toList = false := hc
            have HF := Lib.hid (hno (fun h => by rw [hc] at h; cases h.1))
            clear hno hyes hc
            go_wp2_with fail
            go_big_quiet (fail)
            go_wp2_with fail
            go_ret
            exact ⟨by rw [HF.out]; rfl, below_drewN HB1.out _⟩
          | true =>
            have hc2 : Op.bytesLess pv.toList s.key.toList = true := hc
            by_cases h0 : s.left < 0
            · have d00 : decide (s.left < 0) = true := decide_eq_true h0
              have HF := Lib.hid (hno (fun h => by have h2 := h.2; unfold rightI at h2; rw [decide_eq_true_iff] at h2; omega))
              clear hno hyes h0
              go_wp2_with fail
              go_big_quiet (fail)
              go_wp2_with fail
              go_ret
              exact ⟨by rw [HF.out]; rfl, below_drewN HB1.out _⟩
            · have d00 : decide (s.left < 0) = false := decide_eq_false h0
              by_cases h1 : 4 ≤ s.left
              · have d10 : decide (4 ≤ s.left) = true := decide_eq_true h1
                have d11 : decide (s.left ≥ 4) = true := decide_eq_true h1
                have HF := Lib.hid (hno (fun h => by have h2 := h.2; unfold rightI at h2; rw [decide_eq_true_iff] at h2; omega))
                clear hno hyes h0 h1
                go_wp2_with fail
                go_big_quiet (fail)
                go_wp2_with fail
                go_ret
                exact ⟨by rw [HF.out]; rfl, below_drewN HB1.out _⟩
              · have d10 : decide (4 ≤ s.left) = false := decide_eq_false h1
                have d11 : decide (s.left ≥ 4) = false := decide_eq_false h1
                by_cases h2 : s.at_ < 0
                · have d20 : decide (s.at_ < 0) = true := decide_eq_true h2
                  have HF := Lib.hid (hno (fun h => by have h2 := h.2; unfold rightI at h2; rw [decide_eq_true_iff] at h2; omega))
                  clear hno hyes h0 h1 h2
                  go_wp2_with fail
                  go_big_quiet (fail)
                  go_wp2_with fail
                  go_ret
                  exact ⟨by rw [HF.out]; rfl, below_drewN HB1.out _⟩
                · have d20 : decide (s.at_ < 0) = false := decide_eq_false h2
                  by_cases h3 : 1099511627776 < s.at_
                  · have d30 : decide (1099511627776 < s.at_) = true := decide_eq_true h3
                    have d31 : decide (s.at_ > 1099511627776) = true := decide_eq_true h3
                    have HF := Lib.hid (hno (fun h => by have h2 := h.2; unfold rightI at h2; rw [decide_eq_true_iff] at h2; omega))
                    clear hno hyes h0 h1 h2 h3
                    go_wp2_with fail
                    go_big_quiet (fail)
                    go_wp2_with fail
                    go_ret
                    exact ⟨by rw [HF.out]; rfl, below_drewN HB1.out _⟩
                  · have d30 : decide (1099511627776 < s.at_) = false := decide_eq_false h3
                    have d31 : decide (s.at_ > 1099511627776) = false := decide_eq_false h3
                    have HY := Lib.hid (hyes hc (by unfold rightI; rw [decide_eq_true_iff]; omega))
                    clear hno hyes h0 h1 h2 h3
                    go_wp2_with fail
                    go_big_quiet (fail)
                    go_wp2_with fail
                    go_roundw
                    case rel => exact ⟨k + 1, by go_num, by omega, HY.out, below_drewN HB1.out _⟩
                    case measure => simp [intOf]; omega
        · have dk0 : decide ((k : Int) > 0) = false := decide_eq_false (by omega)
          have dk1 : decide ((0 : Int) < (k : Int)) = false := decide_eq_false (by omega)
          have hc : kl pv s.key = true := by rw [hk0 (by omega)]; exact kl_first he
          clear hpc hk0 he
          by_cases h0 : s.left < 0
          · have d00 : decide (s.left < 0) = true := decide_eq_true h0
            have HF := Lib.hid (hno (fun h => by have h2 := h.2; unfold rightI at h2; rw [decide_eq_true_iff] at h2; omega))
            clear hno hyes h0
            go_wp2_with fail
            go_big_quiet (fail)
            go_wp2_with fail
            go_ret
            exact ⟨by rw [HF.out]; rfl, below_drewN HB1.out _⟩
          · have d00 : decide (s.left < 0) = false := decide_eq_false h0
            by_cases h1 : 4 ≤ s.left
            · have d10 : decide (4 ≤ s.left) = true := decide_eq_true h1
              have d11 : decide (s.left ≥ 4) = true := decide_eq_true h1
              have HF := Lib.hid (hno (fun h => by have h2 := h.2; unfold rightI at h2; rw [decide_eq_true_iff] at h2; omega))
              clear hno hyes h0 h1
              go_wp2_with fail
              go_big_quiet (fail)
              go_wp2_with fail
              go_ret
              exact ⟨by rw [HF.out]; rfl, below_drewN HB1.out _⟩
            · have d10 : decide (4 ≤ s.left) = false := decide_eq_false h1
              have d11 : decide (s.left ≥ 4) = false := decide_eq_false h1
              by_cases h2 : s.at_ < 0
              · have d20 : decide (s.at_ < 0) = true := decide_eq_true h2
                have HF := Lib.hid (hno (fun h => by have h2 := h.2; unfold rightI at h2; rw [decide_eq_true_iff] at h2; omega))
                clear hno hyes h0 h1 h2
                go_wp2_with fail
                go_big_quiet (fail)
                go_wp2_with fail
                go_ret
                exact ⟨by rw [HF.out]; rfl, below_drewN HB1.out _⟩
              · have d20 : decide (s.at_ < 0) = false := decide_eq_false h2
                by_cases h3 : 1099511627776 < s.at_
                · have d30 : decide (1099511627776 < s.at_) = true := decide_eq_true h3
                  have d31 : decide (s.at_ > 1099511627776) = true := decide_eq_true h3
                  have HF := Lib.hid (hno (fun h => by have h2 := h.2; unfold rightI at h2; rw [decide_eq_true_iff] at h2; omega))
                  clear hno hyes h0 h1 h2 h3
                  go_wp2_with fail
                  go_big_quiet (fail)
                  go_wp2_with fail
                  go_ret
                  exact ⟨by rw [HF.out]; rfl, below_drewN HB1.out _⟩
                · have d30 : decide (1099511627776 < s.at_) = false := decide_eq_false h3
                  have d31 : decide (s.at_ > 1099511627776) = false := decide_eq_false h3
                  have HY := Lib.hid (hyes hc (by unfold rightI; rw [decide_eq_true_iff]; omega))
                  clear hno hyes h0 h1 h2 h3
                  go_wp2_with fail
                  go_big_quiet (fail)
                  go_wp2_with fail
                  go_roundw
                  case rel => exact ⟨k + 1, by go_num, by omega, HY.out, below_drewN HB1.out _⟩
                  case measure => simp [intOf]; omega
    · obtain rfl : k = l.length := by omega
      clear hall hbel
      by_cases h24 : l.length ≤ 24
      · have hn : ((l.length : Int) ≤ 24) := by omega
        have HT : Hid (true = r) := Lib.hid (by rw [← HR.out, check_yes h24 HALL.out])
        go_wp2_with fail
        go_ret
        exact ⟨by rw [HT.out]; rfl, HBE.out⟩
      · have hn : ¬ ((l.length : Int) ≤ 24) := by omega
        have HT : Hid (false = r) := Lib.hid (by rw [← HR.out, check_long h24])
        go_wp2_with fail
        go_ret
        exact ⟨by rw [HT.out]; rfl, HBE.out⟩
end Go.Proofs.Ytbldonkfboahmaa
