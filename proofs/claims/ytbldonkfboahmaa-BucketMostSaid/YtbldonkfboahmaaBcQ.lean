/-
  Contracts of bucket.Left, Wait, Most, Sweep and of the document's Left, Wait, Most, Sweep, Same. Condition: rows that may be, of at most 1000 buckets; times of at most 1000000000000 (Wait, and the document's Wait), 2000000000000 (the others).
-/
import Derived.Test.YtbldonkfboahmaaBcP
namespace Go.Proofs.Ytbldonkfboahmaa
open Go.RowKit

theorem Row.weaker {S T : Nat → Prop} {m : List Bu} {v : Value} {W : World} (h : Row S m v W) (hT : ∀ b, T b → S b) : Row T m v W := by
  obtain ⟨A, c, e, hc, hA⟩ := h
  exact ⟨A, c, e, hc, hA.mono (fun k _ => hT k)⟩
/-- A row that may be. -/
structure Vl (L : List Bb) : Prop where
  rise : Bk.Rising kl L
  ok : ∀ b ∈ L, Ok b
  few : ∀ b ∈ L, b.left < 4
  len : L.length ≤ 1000
theorem Vl.get {L : List Bb} (h : Vl L) (i : Nat) (hi : i < L.length) : Ok L[i] := h.ok _ (List.getElem_mem hi)
theorem find_at {L : List Bb} (h : Bk.Rising kl L) {k : ByteArray} {b : Bb} (hf : Bk.find L k = some b) : ∃ hp : pos k L < L.length, L[pos k L] = b ∧ b.key = k := by
  rw [pos_find h k] at hf
  by_cases hp : pos k L < L.length
  · rw [dif_pos hp] at hf
    by_cases hk : (L[pos k L]).key = k
    · rw [if_pos hk] at hf
      injection hf with hf
      exact ⟨hp, hf, by rw [← hf]; exact hk⟩
    · rw [if_neg hk] at hf; cases hf
  · rw [dif_neg hp] at hf; cases hf
set_option maxRecDepth 100000 in
set_option maxHeartbeats 4000000 in
theorem Left_any {S : Nat → Prop} (A : Option Addr) (cp : Nat) (L : List Bb) (h : Vl L) (k : ByteArray) (now : Nat) (hn : now ≤ 2000000000000) (w : World) (hA : Lies S w A (bus (M L))) :
    Calls Try.prog 22 #[.slice A L.length cp, .string k, .int .i64 (now : Int)] w fun e w' => e = .returned (.int .i64 (Bk.left L k now : Int)) ∧ Below w.heap.size w w' := by
  have HP := Lib.hid (place_any A cp L h.rise k (by have := h.len; omega) w hA)
  unfold Bk.left
  unfold has at HP
  cases hf : Bk.find L k with
  | none =>
    rw [hf] at HP
    simp only [Option.isSome_none] at HP
    clear hf
    go_enter Try.func22, Try.ntmps22
    go_wp2_with fail
    refine HP.out.mono ?_
    rintro e w1 ⟨rfl, hb⟩
    have HB := Lib.hid hb
    clear hb
    go_wp2_with fail
    go_ret
    exact ⟨rfl, HB.out⟩
  | some b =>
    simp only
    obtain ⟨hp, hg, hk⟩ := find_at h.rise hf
    rw [hf] at HP
    simp only [Option.isSome_some] at HP
    obtain ⟨ad, rfl, sa⟩ := lies_ups hA _ hp
    have hok := h.get _ hp
    rw [hg] at sa hok
    have HSA := Lib.hid sa
    have HL := Lib.hid (fun W => left_any b hok now hn W)
    generalize Bk.left1 b now = m at HL ⊢
    generalize pos k L = p at HP HSA hp
    have hpi : (p : Int) < (L.length : Int) := by omega
    clear hf hg hk sa hok hA
    go_enter Try.func22, Try.ntmps22
    go_wp2_with fail
    refine HP.out.mono ?_
    rintro e w1 ⟨rfl, hb⟩
    have HB := Lib.hid hb
    have sa := HSA.out.below hb
    have s0 := sa.c0
    have s1 := sa.c1
    have s2 := sa.c2
    simp only [up] at s0 s1 s2
    obtain ⟨q, hq⟩ : ∃ q, ad.add (p * 3) = q := ⟨_, rfl⟩
    rw [hq] at s0 s1 s2
    clear hb sa
    go_wp2_with fail
    refine (HL.out w1).mono ?_
    rintro e w2 ⟨rfl, hb⟩
    have HB2 := Lib.hid (HB.out.trans (hb.mono HB.out.size))
    clear hb
    go_wp2_with fail
    go_ret
    exact ⟨rfl, HB2.out⟩
set_option maxRecDepth 100000 in
set_option maxHeartbeats 4000000 in
theorem Wait_any {S : Nat → Prop} (A : Option Addr) (cp : Nat) (L : List Bb) (h : Vl L) (k : ByteArray) (now : Nat) (hn : now ≤ 1000000000000) (w : World) (hA : Lies S w A (bus (M L))) :
    Calls Try.prog 24 #[.slice A L.length cp, .string k, .int .i64 (now : Int)] w fun e w' => e = .returned (.int .i64 (Bk.wait L k now : Int)) ∧ Below w.heap.size w w' := by
  have HP := Lib.hid (place_any A cp L h.rise k (by have := h.len; omega) w hA)
  unfold Bk.wait
  unfold has at HP
  cases hf : Bk.find L k with
  | none =>
    rw [hf] at HP
    simp only [Option.isSome_none] at HP
    clear hf
    go_enter Try.func24, Try.ntmps24
    go_wp2_with fail
    refine HP.out.mono ?_
    rintro e w1 ⟨rfl, hb⟩
    have HB := Lib.hid hb
    clear hb
    go_wp2_with fail
    go_ret
    exact ⟨rfl, HB.out⟩
  | some b =>
    obtain ⟨hp, hg, hk⟩ := find_at h.rise hf
    rw [hf] at HP
    simp only [Option.isSome_some] at HP
    obtain ⟨ad, rfl, sa⟩ := lies_ups hA _ hp
    have hok := h.get _ hp
    rw [hg] at sa hok
    have hat := hok.at_
    have HSA := Lib.hid sa
    have HL := Lib.hid (fun W => left_any b hok now (by omega) W)
    have hz := Bk.left1_zero b now
    simp only [Bk.wait1]
    generalize Bk.left1 b now = m at HL hz ⊢
    generalize pos k L = p at HP HSA hp
    have hpi : (p : Int) < (L.length : Int) := by omega
    obtain ⟨r, hr⟩ : ∃ r, (if 1 ≤ m then 0 else b.at_ + 25 - now) = r := ⟨_, rfl⟩
    rw [hr]
    clear hf hg hk sa hok hA
    by_cases h1 : 1 ≤ m
    · rw [if_pos h1] at hr
      subst hr
      have hm : ((m : Int) > 0) := by omega
      clear hz h1
      go_enter Try.func24, Try.ntmps24
      go_wp2_with fail
      refine HP.out.mono ?_
      rintro e w1 ⟨rfl, hb⟩
      have HB := Lib.hid hb
      have sa := HSA.out.below hb
      have s0 := sa.c0
      have s1 := sa.c1
      have s2 := sa.c2
      simp only [up] at s0 s1 s2
      obtain ⟨q, hq⟩ : ∃ q, ad.add (p * 3) = q := ⟨_, rfl⟩
      rw [hq] at s0 s1 s2
      clear hb sa
      go_wp2_with fail
      refine (HL.out w1).mono ?_
      rintro e w2 ⟨rfl, hb⟩
      have HB2 := Lib.hid (HB.out.trans (hb.mono HB.out.size))
      clear hb
      go_wp2_with fail
      go_ret
      exact ⟨rfl, HB2.out⟩
    · rw [if_neg h1] at hr
      have hlt := (hz.1 (by omega)).2
      have hm : ¬ ((m : Int) > 0) := by omega
      have hw1 : IntKind.i64.wrap ((b.at_ : Int) + 25) = (b.at_ : Int) + 25 := by rw [IntKind.wrap_i64]; omega
      have hw2 : IntKind.i64.wrap ((b.at_ : Int) + 25 - (now : Int)) = (r : Int) := by rw [IntKind.wrap_i64]; omega
      clear hz h1 hr
      go_enter Try.func24, Try.ntmps24
      go_wp2_with fail
      refine HP.out.mono ?_
      rintro e w1 ⟨rfl, hb⟩
      have HB := Lib.hid hb
      have HS1 := Lib.hid (HSA.out.below hb)
      have s0 := HS1.out.c0
      have s1 := HS1.out.c1
      have s2 := HS1.out.c2
      simp only [up] at s0 s1 s2
      obtain ⟨q, hq⟩ : ∃ q, ad.add (p * 3) = q := ⟨_, rfl⟩
      rw [hq] at s0 s1 s2 HS1
      clear hb
      go_wp2_with fail
      refine (HL.out w1).mono ?_
      rintro e w2 ⟨rfl, hb⟩
      have HB2 := Lib.hid (HB.out.trans (hb.mono HB.out.size))
      have t2 := (HS1.out.below hb).c2
      simp only [up] at t2
      clear hb
      go_wp2_with fail
      go_ret
      exact ⟨rfl, HB2.out⟩
set_option maxRecDepth 100000 in
set_option maxHeartbeats 4000000 in
theorem RLeft_any {S : Nat → Prop} (A : Option Addr) (cp : Nat) (L : List Bb) (h : Vl L) (k : ByteArray) (now : Nat) (hn : now ≤ 2000000000000) (w : World) (hA : Lies S w A (bus (M L))) :
    Calls Try.prog 23 #[.slice A L.length cp, .string k, .int .i64 (now : Int)] w fun e w' => e = .returned (.int .i64 (Bk.left L k now : Int)) ∧ Below w.heap.size w w' := by
  obtain ⟨m, hm⟩ : ∃ m, Bk.left L k now = m := ⟨_, rfl⟩
  rw [hm]
  have HM : Hid (∀ i (hi : i < L.length), (∀ j (hj : j < i), ¬ (L[j]'(by omega)).key = k) → (L[i]).key = k → Bk.left1 L[i] now = m) := Lib.hid (fun i hi hno hk => by
    rw [← hm]
    unfold Bk.left
    have : Bk.find L k = some L[i] := by
      unfold Bk.find
      rw [List.find?_eq_some_iff_getElem]
      exact ⟨by simpa using hk, i, hi, rfl, fun j hj => by have := hno j hj; simpa using this⟩
    rw [this])
  have HN : Hid ((∀ j (hj : j < L.length), ¬ (L[j]).key = k) → m = 4) := Lib.hid (fun hno => by
    rw [← hm]
    unfold Bk.left
    have : Bk.find L k = none := by
      unfold Bk.find
      rw [List.find?_eq_none]
      intro b hb hk
      obtain ⟨j, hj, rfl⟩ := List.mem_iff_getElem.1 hb
      exact hno j hj (by simpa using hk)
    rw [this])
  have hlen := h.len
  have HA := Lib.hid hA
  clear hm hA
  go_enter Try.func23, Try.ntmps23
  go_wp2_with fail
  go_loop [7] (fun i => ∃ j : Nat, i = .int .i64 (j : Int) ∧ j ≤ L.length ∧ ∀ t (ht : t < L.length), t < j → ¬ (L[t]).key = k) (fun i => L.length - (intOf i).toNat)
  case atStart => exact ⟨0, rfl, by omega, fun t _ ht => absurd ht (by omega)⟩
  case round =>
    obtain ⟨j, rfl, hj, hno⟩ := hrel
    have HNO := Lib.hid hno
    clear hno
    by_cases hlt : j < L.length
    · have hji : (j : Int) < (L.length : Int) := by omega
      obtain ⟨ad, rfl, sa⟩ := lies_ups HA.out j hlt
      have hok := h.get j hlt
      have s0 := sa.c0
      have s1 := sa.c1
      have s2 := sa.c2
      simp only [up] at s0 s1 s2
      obtain ⟨q, hq⟩ : ∃ q, ad.add (j * 3) = q := ⟨_, rfl⟩
      rw [hq] at s0 s1 s2
      have hmm := HM.out j hlt (fun t ht => HNO.out t (by omega) ht)
      have hn2 : ∀ hk : ¬ (L[j]).key = k, ∀ t (ht : t < L.length), t < j + 1 → ¬ (L[t]).key = k := fun hk t ht htj => by
        rcases Nat.lt_or_ge t j with h1 | h1
        · exact HNO.out t ht h1
        · have e : t = j := by omega
          subst e
          exact hk
      have HN2 := Lib.hid hn2
      generalize L[j] = b at s0 s1 s2 hmm hok HN2
      clear sa hn2
      by_cases hk : b.key = k
      · have hke : (b.key.toList == k.toList) = true := by rw [str_beq, hk]; simp
        have HL := Lib.hid (rleft_any b hok now hn w)
        rw [hmm hk] at HL
        clear hk hmm hok
        go_wp2_with fail
        refine HL.out.mono ?_
        rintro e w2 ⟨rfl, hb⟩
        have HB2 := Lib.hid hb
        clear hb
        go_wp2_with fail
        go_ret
        exact ⟨rfl, HB2.out⟩
      · have hke : (b.key.toList == k.toList) = false := str_ne hk
        have HN3 := Lib.hid (HN2.out hk)
        clear hk hmm hok
        go_wp2_with fail
        go_round
        case rel => exact ⟨j + 1, by go_num, by omega, HN3.out⟩
        case measure => simp [intOf]; omega
    · obtain rfl : j = L.length := by omega
      have h4 := HN.out (fun t ht => HNO.out t ht ht)
      subst h4
      go_wp2_with fail
      go_ret
      exact ⟨rfl, Below.refl _ w⟩
set_option maxRecDepth 100000 in
set_option maxHeartbeats 4000000 in
theorem RWait_any {S : Nat → Prop} (A : Option Addr) (cp : Nat) (L : List Bb) (h : Vl L) (k : ByteArray) (now : Nat) (hn : now ≤ 1000000000000) (w : World) (hA : Lies S w A (bus (M L))) :
    Calls Try.prog 27 #[.slice A L.length cp, .string k, .int .i64 (now : Int)] w fun e w' => e = .returned (.int .i64 (Bk.wait L k now : Int)) ∧ Below w.heap.size w w' := by
  obtain ⟨h1, h2, _⟩ := Bk.wait_ends L k now
  have hwb : now + Bk.wait L k now ≤ 1000000000025 := by
    unfold Bk.wait
    cases hf : Bk.find L k with
    | none => simp only; omega
    | some b =>
      have hb : b ∈ L := List.mem_of_find?_eq_some hf
      have := (h.ok b hb).at_
      simp only [Bk.wait1]
      split <;> omega
  have HL : Hid (∀ (d : Nat) (W : World), now + d ≤ 1000000000025 → Lies S W A (bus (M L)) → Calls Try.prog 23 #[.slice A L.length cp, .string k, .int .i64 ((now + d : Nat) : Int)] W fun e w' => e = .returned (.int .i64 (Bk.left L k (now + d) : Int)) ∧ Below W.heap.size W w') :=
    Lib.hid (fun d W hd hW => RLeft_any A cp L h k (now + d) (by omega) W hW)
  obtain ⟨r, hr⟩ : ∃ r, Bk.wait L k now = r := ⟨_, rfl⟩
  rw [hr] at h1 h2 hwb ⊢
  have H1 := Lib.hid h1
  have H2 := Lib.hid h2
  have HA := Lib.hid hA
  clear hr h1 h2 hA
  go_enter Try.func27, Try.ntmps27
  go_wp2_with fail
  go_loopw [7] (fun i wr => ∃ d t : Nat, i = .int .i64 (t : Int) ∧ t = now + d ∧ d ≤ r ∧ Below w.heap.size w wr) (fun i _ => now + r - (intOf i).toNat)
  case atStart => exact ⟨0, now, rfl, by omega, by omega, Below.refl _ w⟩
  case round =>
    obtain ⟨d, t, rfl, ht, hd, hB⟩ := hrel
    have hcall := HL.out d wr (by omega) (HA.out.below hB)
    rw [← ht] at hcall
    have htb : t ≤ 1000000000025 := by omega
    have HB := Lib.hid hB
    clear hB
    by_cases hlt : d < r
    · have hz := H2.out d hlt
      rw [← ht] at hz
      rw [hz] at hcall
      have HC := Lib.hid hcall
      have HT := Lib.hid ht
      clear hz hcall ht
      go_wp2_with fail
      refine HC.out.mono ?_
      rintro e w2 ⟨rfl, hb⟩
      have HB2 := Lib.hid (HB.out.trans (hb.mono HB.out.size))
      clear hb
      go_wp2_with fail
      go_roundw
      case rel => exact ⟨d + 1, t + 1, by go_num, by have := HT.out; omega, by omega, HB2.out⟩
      case measure => have := HT.out; simp [intOf]; omega
    · obtain rfl : d = r := by omega
      have hz := H1.out
      rw [← ht] at hz
      generalize Bk.left L k t = m at hz hcall
      have hmi : ((m : Int) > 0) := by omega
      have hw1 : IntKind.i64.wrap ((t : Int) - (now : Int)) = (d : Int) := by rw [IntKind.wrap_i64]; omega
      have HC := Lib.hid hcall
      clear hz hcall ht
      go_wp2_with fail
      refine HC.out.mono ?_
      rintro e w2 ⟨rfl, hb⟩
      have HB2 := Lib.hid (HB.out.trans (hb.mono HB.out.size))
      clear hb
      go_wp2_with fail
      go_ret
      exact ⟨rfl, HB2.out⟩
end Go.Proofs.Ytbldonkfboahmaa
