/-
  Contracts of the document's own left; of bucket.place: its closure, sort.Search over it. Condition: rows of at most 1000000 buckets whose keys rise.
-/
import Derived.Test.YtbldonkfboahmaaBcA
namespace Go.Proofs.Ytbldonkfboahmaa
open Go.RowKit

set_option maxRecDepth 100000 in
set_option maxHeartbeats 2000000 in
theorem rleft_any (b : Bb) (hb : Ok b) (now : Nat) (hn : now ≤ 2000000000000) (w : World) :
    Calls Try.prog 33 #[.agg #[.string b.key, .int .i64 (b.left : Int), .int .i64 (b.at_ : Int)], .int .i64 (now : Int)] w fun e w' => e = .returned (.int .i64 (Bk.left1 b now : Int)) ∧ Below w.heap.size w w' := by
  have hat := hb.at_
  have hlf := hb.left
  have hle := refl1_le b now
  have hq : ∀ k, k < refl1 b now ↔ b.at_ + 25 + 25 * k ≤ now := fun k => by unfold refl1; omega
  rw [left1_refl]
  generalize refl1 b now = q at hle hq ⊢
  have HQ := Lib.hid hq
  obtain ⟨r, hr⟩ : ∃ r, min 4 (b.left + q) = r := ⟨_, rfl⟩
  rw [hr]
  have HR := Lib.hid hr
  clear hr hq
  have hw1 : IntKind.i64.wrap ((b.at_ : Int) + 25) = (b.at_ : Int) + 25 := by rw [IntKind.wrap_i64]; omega
  go_enter Try.func33, Try.ntmps33
  go_wp2_with fail
  go_loop [5, 6] (fun n t => ∃ k nn tt : Nat, n = .int .i64 (nn : Int) ∧ t = .int .i64 (tt : Int) ∧ nn = b.left + k ∧ tt = b.at_ + 25 + 25 * k ∧ k ≤ q ∧ nn ≤ 4) (fun n _ => 4 - (intOf n).toNat)
  case atStart => exact ⟨0, b.left, b.at_ + 25, rfl, by go_num, by omega, by omega, by omega, by omega⟩
  case round =>
    obtain ⟨k, n, t, rfl, rfl, hnk, htk, hkq, hn4⟩ := hrel
    have hqk := HQ.out k
    by_cases c1 : t ≤ now
    · have hc1 : ((t : Int) ≤ (now : Int)) := by omega
      by_cases c2 : n < 4
      · have hc2 : ((n : Int) < 4) := by omega
        have HX := Lib.hid hqk
        have HY := Lib.hid hnk
        have HZ := Lib.hid htk
        clear hqk hnk htk
        go_wp2_with fail
        go_round
        case rel => exact ⟨k + 1, n + 1, t + 25, by go_num, by go_num, by have := HY.out; omega, by have := HZ.out; omega, by have := HX.out; have := HZ.out; omega, by omega⟩
        case measure => simp [intOf]; omega
      · have hc2 : ¬ ((n : Int) < 4) := by omega
        have HX : Hid ((n : Int) = (r : Int)) := Lib.hid (by have := HR.out; omega)
        clear hqk hnk htk
        go_wp2_with fail
        go_ret
        exact ⟨congrArg (fun z : Int => Ending.returned (.int .i64 z)) HX.out, (Below.refl _ w).alloc (Nat.le_refl _) _⟩
    · have hc1 : ¬ ((t : Int) ≤ (now : Int)) := by omega
      have HX : Hid ((n : Int) = (r : Int)) := Lib.hid (by have := HR.out; omega)
      clear hqk hnk htk
      go_wp2_with fail
      go_ret
      exact ⟨congrArg (fun z : Int => Ending.returned (.int .i64 z)) HX.out, (Below.refl _ w).alloc (Nat.le_refl _) _⟩

/-- How many keys of a row are ahead of a key. -/
def pos (k : ByteArray) (L : List Bb) : Nat := L.countP fun b => kl b.key k
theorem pos_le (k : ByteArray) (L : List Bb) : pos k L ≤ L.length := List.countP_le_length
theorem pos_lt {L : List Bb} (h : Bk.Rising kl L) (k : ByteArray) (i : Nat) (hi : i < L.length) : kl (L[i]).key k = decide (i < pos k L) := by
  induction L generalizing i with
  | nil => simp at hi
  | cons b L ih =>
    have hb := (List.pairwise_cons.1 h).1
    have hL := (List.pairwise_cons.1 h).2
    unfold pos
    rw [List.countP_cons]
    cases hbk : kl b.key k with
    | true =>
      rw [if_pos rfl]
      cases i with
      | zero => simp [hbk]
      | succ i =>
        rw [List.getElem_cons_succ, ih hL i (by simpa using hi)]
        unfold pos
        simp
    | false =>
      have h0 : L.countP (fun b => kl b.key k) = 0 := by
        rw [List.countP_eq_zero]
        intro c hc hck
        have h1 := hb c hc
        have h2 := ordK.trans _ _ _ h1 hck
        rw [hbk] at h2
        cases h2
      rw [if_neg (by decide), h0]
      cases i with
      | zero => simpa using hbk
      | succ i =>
        have := ih hL i (by simpa using hi)
        unfold pos at this
        rw [List.getElem_cons_succ, this, h0]
        simp

/-- The row and the key as the closure holds them. -/
structure Box (W : World) (g2 g3 : Nat) (A : Option Addr) (n cp : Nat) (k : ByteArray) : Prop where
  row : Blk W g2 23 #[.slice A n cp]
  key : Blk W g3 9 #[.string k]
theorem Box.below {W W' : World} {g2 g3 : Nat} {A : Option Addr} {n cp : Nat} {k : ByteArray} (h : Box W g2 g3 A n cp k) (hb : Below W.heap.size W W') : Box W' g2 g3 A n cp k :=
  ⟨h.row.of (hb.block _ h.row.lt), h.key.of (hb.block _ h.key.lt)⟩
set_option maxRecDepth 100000 in
set_option maxHeartbeats 2000000 in
theorem place1_any {S : Nat → Prop} (A : Option Addr) (cp : Nat) (L : List Bb) (k : ByteArray) (g2 g3 : Nat) (i : Nat) (hi : i < L.length) (w : World) (hB : Box w g2 g3 A L.length cp k) (hA : Lies S w A (bus (M L))) :
    Calls Try.prog 37 #[.int .i64 (i : Int), .pointer (some ⟨g2, 0, none⟩), .pointer (some ⟨g3, 0, none⟩)] w fun e w' => e = .returned (.bool (!kl (L[i]).key k)) ∧ Below w.heap.size w w' := by
  obtain ⟨ad, rfl, sa⟩ := lies_ups hA i hi
  have h2 : w.cell? ⟨g2, 0, none⟩ = some (.slice (some ad) L.length cp) := (hB.row.cell 0).trans rfl
  have h3 : w.cell? ⟨g3, 0, none⟩ = some (.string k) := (hB.key.cell 0).trans rfl
  have s0 := sa.c0
  simp only [up] at s0
  have hii : (i : Int) < (L.length : Int) := by omega
  obtain ⟨r, hr⟩ : ∃ r, (!kl (L[i]).key k) = r := ⟨_, rfl⟩
  have hr2 : (!Op.bytesLess (L[i]).key.toList k.toList) = r := hr
  rw [hr]
  generalize (L[i]).key = kk at s0 hr2
  clear hr hB hA sa
  go_enter Try.func37, Try.ntmps37
  go_upto_region 1 with fail
  go_quiet (fail)
  go_wp2_with fail
  go_ret
  exact ⟨rfl, below_drewN (Below.refl _ w) _⟩
set_option maxRecDepth 100000 in
set_option maxHeartbeats 4000000 in
theorem search_any (n p g : Nat) (cap : Array Value) (w : World) (hp : p ≤ n) (hn : n ≤ 1000000) (hE : ∀ (args : Array Value) (W : World), (callFunc g args).run Try.prog W = .ok (.enter g args) W)
    (hG : ∀ (W : World) (i : Nat), i < n → Below w.heap.size w W → Calls Try.prog g (#[.int .i64 (i : Int)] ++ cap) W fun e w' => e = .returned (.bool (decide (p ≤ i))) ∧ Below W.heap.size W w') :
    Calls Try.prog 36 #[.int .i64 (n : Int), .func (.func g) #[] cap] w fun e w' => e = .returned (.int .i64 (p : Int)) ∧ Below w.heap.size w w' := by
  have HG := Lib.hid hG
  clear hG
  go_enter Try.func36, Try.ntmps36
  go_wp2_with fail
  go_loopw [5, 6] (fun a b wr => ∃ lo hi : Nat, a = .int .i64 (lo : Int) ∧ b = .int .i64 (hi : Int) ∧ lo ≤ p ∧ p ≤ hi ∧ hi ≤ n ∧ Below w.heap.size w wr) (fun a b _ => (intOf b).toNat - (intOf a).toNat)
  case atStart => exact ⟨0, n, rfl, rfl, by omega, hp, by omega, Below.refl _ w⟩
  case round =>
    obtain ⟨lo, hi, rfl, rfl, h1, h2, h3, hB⟩ := hrel
    have HB := Lib.hid hB
    clear hB
    by_cases hlt : lo < hi
    · have hli : (lo : Int) < (hi : Int) := by omega
      obtain ⟨s, hs⟩ : ∃ s, lo + hi = s := ⟨_, rfl⟩
      obtain ⟨m, hm⟩ : ∃ m, s / 2 = m := ⟨_, rfl⟩
      have hw1 : IntKind.i64.wrap ((lo : Int) + (hi : Int)) = (s : Int) := by rw [IntKind.wrap_i64]; omega
      have hw2 : IntKind.u64.wrap (s : Int) = (s : Int) := by rw [IntKind.wrap_u64]; omega
      have hd2 : (s : Int) / 2 = (m : Int) := by omega
      have hw3 : IntKind.i64.wrap (m : Int) = (m : Int) := by rw [IntKind.wrap_i64]; omega
      have hmn : m < n := by omega
      have hcall := HG.out wr m hmn HB.out
      cases hq : decide (p ≤ m) with
      | true =>
        rw [hq] at hcall
        have HCA := Lib.hid hcall
        clear hcall
        have hpm : p ≤ m := by simpa using hq
        clear hq
        go_wp2_with fail
        refine HCA.out.mono ?_
        rintro e w2 ⟨rfl, hb⟩
        have HB2 := Lib.hid (HB.out.trans (hb.mono HB.out.size))
        clear hb
        go_wp2_with fail
        go_roundw
        case rel => exact ⟨lo, m, rfl, rfl, h1, hpm, by omega, HB2.out⟩
        case measure => simp [intOf]; omega
      | false =>
        rw [hq] at hcall
        have HCA := Lib.hid hcall
        clear hcall
        have hpm : ¬ p ≤ m := by simpa using hq
        clear hq
        go_wp2_with fail
        refine HCA.out.mono ?_
        rintro e w2 ⟨rfl, hb⟩
        have HB2 := Lib.hid (HB.out.trans (hb.mono HB.out.size))
        clear hb
        go_wp2_with fail
        go_roundw
        case rel => exact ⟨m + 1, hi, by go_num, rfl, by omega, h2, h3, HB2.out⟩
        case measure => simp [intOf]; omega
    · have e : lo = p := by omega
      subst e
      go_wp2_with fail
      go_ret
      exact ⟨rfl, HB.out⟩
/-- A row has a key: where, and which bucket. -/
theorem pos_find {L : List Bb} (h : Bk.Rising kl L) (k : ByteArray) : Bk.find L k = if hp : pos k L < L.length then (if (L[pos k L]).key = k then some L[pos k L] else none) else none := by
  by_cases hp : pos k L < L.length
  · rw [dif_pos hp]
    by_cases hk : (L[pos k L]).key = k
    · rw [if_pos hk]
      unfold Bk.find
      rw [List.find?_eq_some_iff_getElem]
      refine ⟨by simpa using hk, pos k L, hp, rfl, fun j hj => ?_⟩
      have h1 := pos_lt h k j (by omega)
      rw [decide_eq_true hj] at h1
      have hne : ¬ (L[j]).key = k := fun e => by rw [e, ordK.irrefl] at h1; cases h1
      simp [hne]
    · rw [if_neg hk]
      unfold Bk.find
      rw [List.find?_eq_none]
      intro b hb hbk
      have hbk' : b.key = k := by simpa using hbk
      obtain ⟨j, hj, rfl⟩ := List.mem_iff_getElem.1 hb
      have h1 := pos_lt h k j hj
      rw [hbk', ordK.irrefl] at h1
      have hjp : ¬ j < pos k L := by simpa using h1.symm
      rcases Nat.lt_or_ge (pos k L) j with hlt | hge
      · have h2 := List.pairwise_iff_getElem.1 h (pos k L) j hp hj hlt
        rw [hbk'] at h2
        have h3 := pos_lt h k (pos k L) hp
        rw [h2] at h3
        simp at h3
      · have e : j = pos k L := by omega
        subst e
        exact hk hbk'
  · rw [dif_neg hp]
    unfold Bk.find
    rw [List.find?_eq_none]
    intro b hb hbk
    have hbk' : b.key = k := by simpa using hbk
    obtain ⟨j, hj, rfl⟩ := List.mem_iff_getElem.1 hb
    have h1 := pos_lt h k j hj
    rw [hbk', ordK.irrefl] at h1
    have hjp : ¬ j < pos k L := by simpa using h1.symm
    have := pos_le k L
    omega
def has (L : List Bb) (k : ByteArray) : Bool := (Bk.find L k).isSome
set_option maxRecDepth 100000 in
set_option maxHeartbeats 4000000 in
theorem place_any {S : Nat → Prop} (A : Option Addr) (cp : Nat) (L : List Bb) (h : Bk.Rising kl L) (k : ByteArray) (hl : L.length ≤ 1000000) (w : World) (hA : Lies S w A (bus (M L))) :
    Calls Try.prog 30 #[.slice A L.length cp, .string k] w fun e w' => e = .returned (.tuple #[.int .i64 (pos k L : Int), .bool (has L k)]) ∧ Below w.heap.size w w' := by
  obtain ⟨r, hr⟩ : ∃ r, has L k = r := ⟨_, rfl⟩
  rw [hr]
  unfold has at hr
  rw [pos_find h k] at hr
  have hple := pos_le k L
  have hb1 : Below w.heap.size w (w.alloc (.cells #[.slice A L.length cp] 23)) := (Below.refl _ w).alloc (Nat.le_refl _) _
  have hb2 := hb1.alloc hb1.size (.cells #[.string k] 9)
  have hx2 := (Blk.new w 23 #[.slice A L.length cp]).alloc (.cells #[.string k] 9)
  have hx3 := Blk.new (w.alloc (.cells #[.slice A L.length cp] 23)) 9 #[.string k]
  rw [show (w.alloc (.cells #[.slice A L.length cp] 23)).heap.size = w.heap.size + 1 by simp] at hx3
  obtain ⟨w2, hw2⟩ : ∃ w2, (w.alloc (.cells #[.slice A L.length cp] 23)).alloc (.cells #[.string k] 9) = w2 := ⟨_, rfl⟩
  rw [hw2] at hb2 hx2 hx3
  have hbox : Box w2 w.heap.size (w.heap.size + 1) A L.length cp k := ⟨hx2, hx3⟩
  have hA2 : Lies S w2 A (bus (M L)) := hA.below hb2
  have hcell := (hx2.cell 0).trans rfl
  have HS := Lib.hid (search_any L.length (pos k L) 37 #[.pointer (some ⟨w.heap.size, 0, none⟩), .pointer (some ⟨w.heap.size + 1, 0, none⟩)] w2 hple hl (fun args W => rfl) (fun W i hi hB => by
    have := place1_any A cp L k w.heap.size (w.heap.size + 1) i hi W (hbox.below hB) (hA2.below hB)
    rw [pos_lt h k i hi] at this
    have e : (!decide (i < pos k L)) = decide (pos k L ≤ i) := by
      by_cases hh : i < pos k L
      · simp [hh]
      · simp [hh]; omega
    rw [e] at this
    exact this))
  have HB2 := Lib.hid hb2
  have HX2 := Lib.hid hx2
  have HX3 := Lib.hid hx3
  have HA2 := Lib.hid hA2
  obtain ⟨p, hp⟩ : ∃ p, pos k L = p := ⟨_, rfl⟩
  have hpl : (if hp : pos k L < L.length then (if (L[pos k L]).key = k then some L[pos k L] else none) else none) = (if hp : p < L.length then (if (L[p]).key = k then some L[p] else none) else none) := by subst hp; rfl
  rw [hpl] at hr
  rw [hp] at HS hple ⊢
  clear hb1 hb2 hx2 hx3 hbox hA hA2 hp hpl
  by_cases hlt : p < L.length
  · rw [dif_pos hlt] at hr
    obtain ⟨ad, rfl, sa⟩ := lies_ups HA2.out p hlt
    have HSA := Lib.hid sa
    have hpi : (p : Int) < (L.length : Int) := by omega
    obtain ⟨kk, hkk⟩ : ∃ kk, (L[p]).key = kk := ⟨_, rfl⟩
    have hke : (kk.toList == k.toList) = r := by
      rw [str_beq, ← hr, ← hkk]
      by_cases e : (L[p]).key = k <;> simp [e]
    have HKE := Lib.hid hke
    have HKK := Lib.hid hkk
    clear hr hke hkk sa
    go_enter Try.func30, Try.ntmps30
    go_wp2_with fail
    refine (show Calls _ _ _ _ _ from HS.out).mono ?_
    rintro e w3 ⟨rfl, hb⟩
    have hx2 := HX2.out.of (hb.block _ HX2.out.lt)
    have hx3 := HX3.out.of (hb.block _ HX3.out.lt)
    have h2 : w3.cell? ⟨w.heap.size, 0, none⟩ = some (.slice (some ad) L.length cp) := (hx2.cell 0).trans rfl
    have h3 : w3.cell? ⟨w.heap.size + 1, 0, none⟩ = some (.string k) := (hx3.cell 0).trans rfl
    have s0 := (HSA.out.below hb).c0
    simp only [up] at s0
    rw [HKK.out] at s0
    have hke := HKE.out
    have HB3 := Lib.hid (HB2.out.trans (hb.mono HB2.out.size))
    clear hx2 hx3 hb
    go_upto_region 2 with fail
    go_quiet (fail)
    go_wp2_with fail
    go_ret2
    exact ⟨rfl, below_drewN HB3.out _⟩
  · rw [dif_neg hlt] at hr
    subst hr
    have hpi : ¬ (p : Int) < (L.length : Int) := by omega
    go_enter Try.func30, Try.ntmps30
    go_wp2_with fail
    refine (show Calls _ _ _ _ _ from HS.out).mono ?_
    rintro e w3 ⟨rfl, hb⟩
    have hx2 := HX2.out.of (hb.block _ HX2.out.lt)
    have hx3 := HX3.out.of (hb.block _ HX3.out.lt)
    have h2 : w3.cell? ⟨w.heap.size, 0, none⟩ = some (.slice A L.length cp) := (hx2.cell 0).trans rfl
    have h3 : w3.cell? ⟨w.heap.size + 1, 0, none⟩ = some (.string k) := (hx3.cell 0).trans rfl
    have HB3 := Lib.hid (HB2.out.trans (hb.mono HB2.out.size))
    clear hx2 hx3 hb
    go_upto_region 2 with fail
    go_quiet (fail)
    go_wp2_with fail
    go_ret2
    exact ⟨rfl, below_drewN HB3.out _⟩
end Go.Proofs.Ytbldonkfboahmaa
