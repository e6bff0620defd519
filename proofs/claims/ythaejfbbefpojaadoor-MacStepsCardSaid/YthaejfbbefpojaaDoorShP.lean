/-
  Contract of the document's primes: the first 64 of them. No condition.
-/
import Derived.LoopTactic
import Derived.Test.YthaejfbbefpojaaDoorWords
import Derived.Test.YthaejfbbefpojaaDoorSh
namespace Go.Proofs.YthaejfbbefpojaaDoor
open Go.RowKit

/-- Primes among 2 .. n + 1, 64 at most. -/
def sieve : Nat → List Nat
  | 0 => []
  | n + 1 => if (sieve n).length < 64 ∧ (sieve n).all (fun p => (n + 2) % p != 0) = true then sieve n ++ [n + 2] else sieve n
def sieveFast : Nat → List Nat := fun n => (List.range n).foldl (fun l i => if l.length < 64 ∧ l.all (fun p => (i + 2) % p != 0) = true then l ++ [i + 2] else l) []
theorem sieve_fast (n : Nat) : sieve n = sieveFast n := by
  induction n with
  | zero => rfl
  | succ n ih =>
    unfold sieveFast at ih ⊢
    rw [List.range_succ, List.foldl_append, ← ih]
    rfl
theorem sieve_end : sieve 310 = Sh.primes := by rw [sieve_fast]; decide +kernel
theorem sieve_309 : (sieve 309).length = 63 := by rw [sieve_fast]; decide +kernel
theorem sieve_mono (n : Nat) : ∀ k, (sieve n).length ≤ (sieve (n + k)).length
  | 0 => Nat.le_refl _
  | k + 1 => by
    have := sieve_mono n k
    show _ ≤ (sieve (n + k + 1)).length
    rw [sieve]
    split
    · rw [List.length_append]; omega
    · exact this
theorem sieve_less (n : Nat) (h : n < 310) : (sieve n).length < 64 := by
  have := sieve_mono n (309 - n)
  rw [show n + (309 - n) = 309 by omega, sieve_309] at this
  omega
theorem sieve_mem (n : Nat) : ∀ p ∈ sieve n, 2 ≤ p ∧ p ≤ n + 1 := by
  induction n with
  | zero => intro p hp; simp [sieve] at hp
  | succ n ih =>
    intro p hp
    rw [sieve] at hp
    split at hp
    · rcases List.mem_append.1 hp with h | h
      · have := ih p h; omega
      · simp at h; omega
    · have := ih p hp; omega
theorem sieve_yes (n : Nat) (h1 : (sieve n).length < 64) (h2 : (sieve n).all (fun p => (n + 2) % p != 0) = true) : sieve (n + 1) = sieve n ++ [n + 2] := by rw [sieve, if_pos ⟨h1, h2⟩]
theorem sieve_no (n : Nat) (h2 : (sieve n).all (fun p => (n + 2) % p != 0) = false) : sieve (n + 1) = sieve n := by rw [sieve, if_neg (by rw [h2]; simp)]
theorem all_take (l : List Nat) (f : Nat → Bool) (j : Nat) (h : j < l.length) : (l.take (j + 1)).all f = ((l.take j).all f && f l[j]) := by
  rw [take_more l j h, List.all_append]
  simp
theorem info_u64 : ∃ i, Tryd.prog.info? 66 = some i ∧ i.zero = some (.int .u64 0) ∧ i.size = 1 ∧ i.bytes = 8 := info_parts (by kernel_rfl)

set_option maxRecDepth 100000 in
set_option maxHeartbeats 4000000 in
theorem primes_any (w : World) :
    Calls Tryd.prog 35 #[.int .i64 64] w fun e w' => ∃ A c, e = .returned (.slice A 64 c) ∧ Lies (fun b => b < w.heap.size) w' A (cn Sh.primes) ∧ Below w.heap.size w w' := by
  obtain ⟨i0, hi, hz0, hz1, hz2⟩ := info_u64
  go_enter Tryd.func35, Tryd.ntmps35
  go_wp2_with fail
  go_loopw [3, 4, 5, 6] (fun v k _ _ wr => ∃ (m : Nat) (A : Option Addr) (c : Nat), k = .int .u64 m ∧ 2 ≤ m ∧ m ≤ 312 ∧ v = .slice A (sieve (m - 2)).length c ∧ wr.ownsRow w.heap.size 66 1 v (sieve (m - 2)).length (cn (sieve (m - 2))) ∧ Below w.heap.size w wr)
    (fun _ k _ _ _ => 312 - (intOf k).toNat)
  case atStart => exact ⟨2, _, _, rfl, by omega, by omega, rfl, World.ownsRow_nil _ _ _ _, Below.refl _ _⟩
  case round =>
    obtain ⟨m, A, c, rfl, hm1, hm2, rfl, hown, hb⟩ := hrel
    obtain ⟨n, hn⟩ : ∃ n, m = n + 2 := ⟨m - 2, by omega⟩
    have hn' : m - 2 = n := by omega
    rw [hn'] at hown ⊢
    have Hown := Lib.hid hown
    have HB := Lib.hid hb
    by_cases hlt : n < 310
    · have hl := sieve_less n hlt
      have hmem := sieve_mem n
      have hY := Lib.hid (sieve_yes n hl)
      have hN := Lib.hid (sieve_no n)
      rw [← hn] at hY hN
      have HL := Lib.hid (Lies.own (S := fun b => b < w.heap.size) hown (fun _ _ h1 h2 => Nat.lt_irrefl _ (Nat.lt_of_lt_of_le h2 h1)))
      generalize sieve n = l at hl hmem hY hN Hown HL
      have hl1 : (l.length : Int) < 64 := by omega
      have hm3 : m ≤ 311 := by omega
      have hmp : ∀ p ∈ l, 2 ≤ p ∧ p ≤ 311 := fun p hp => by have := hmem p hp; omega
      have HMN : Hid (m + 1 - 2 = n + 1) := Lib.hid (by omega)
      clear hown hb hn hn' hmem
      go_wp2_with fail
      go_loop [5, 6] (fun b i => ∃ j : Nat, i = .int .i64 j ∧ j ≤ l.length ∧ b = .bool ((l.take j).all (fun p => m % p != 0))) (fun _ i => l.length - (intOf i).toNat)
      case atStart => exact ⟨0, rfl, by omega, rfl⟩
      case round =>
        obtain ⟨j, rfl, hj, rfl⟩ := hrel
        by_cases hjl : j < l.length
        · have hget := cn_get l j hjl
          obtain ⟨a, hAa, _, _, ha3⟩ := HL.out j _ hget
          subst hAa
          have hal := all_take l (fun p => m % p != 0) j hjl
          have hpb := hmp l[j] (List.getElem_mem _)
          generalize l[j] = p at ha3 hal hpb hget
          have hji : (j : Int) < (l.length : Int) := by omega
          have HAl := Lib.hid hal
          clear hal hget
          generalize (l.take j).all (fun p => m % p != 0) = bb at HAl
          by_cases hq : m % p = 0
          · have hqi : (m : Int) % (p : Int) = 0 := by rw [← Int.natCast_emod, hq]; rfl
            have hbq : (bb && (m % p != 0)) = false := by simp [hq]
            go_wp2_with fail
            go_round
            case rel => exact ⟨j + 1, by go_num, by omega, by rw [HAl.out, hbq]⟩
            case measure => simp [intOf]; omega
          · have hqi : ¬ ((m : Int) % (p : Int) = 0) := by rw [← Int.natCast_emod]; omega
            have hbq : (bb && (m % p != 0)) = bb := by simp [hq]
            go_wp2_with fail
            go_round
            case rel => exact ⟨j + 1, by go_num, by omega, by rw [HAl.out, hbq]⟩
            case measure => simp [intOf]; omega
        · obtain rfl : j = l.length := by omega
          rw [List.take_length]
          cases hbb : l.all (fun p => m % p != 0) with
          | true =>
            have hS := hY.out hbb
            have hS' := Lib.hid hS
            clear hS hmp
            go_wp2_with (at_builtin; refine wpList_append_own _ rfl _ _ 62 rfl w.heap.size 66 i0 (.int .u64 0) 1 8 Tryd.underlying62 hi hz0 hz1 hz2 rfl (by decide) _ _ _ rfl (Hown.out.alloc _) ⟨wr.heap.size, 0, none⟩ 1 1 (cn [m]) rfl rfl ?c1 ?c2 ?c3 ?c4 ?c5 ?_)
            case c1 =>
              intro j u hj
              match j, hj with
              | 0, hj => simp [cn] at hj; subst hj; simp
            case c2 => intro u hu; simp [cn] at hu; subst hu; rfl
            case c3 => unfold maxLen; omega
            case c4 => omega
            case c5 => have := HB.out.size; simp; omega
            intro v' w2 hown' hgrow _
            have hown2 : w2.ownsRow w.heap.size 66 1 v' (l ++ [m]).length (cn (l ++ [m])) := by
              rw [List.length_append, show cn (l ++ [m]) = cn l ++ cn [m] by simp [cn]]
              exact hown'
            rw [← hS'.out] at hown2
            obtain ⟨A2, c2, rfl⟩ := own_form hown2
            have HO2 := Lib.hid hown2
            have hsz := HB.out.size
            have HB2 := Lib.hid (Kept.below HB.out (Kept.grown (S := fun b => w.heap.size ≤ b) (Kept.alloc (Kept.refl _ wr) _) hgrow (fun b hb => .inl (own_base Hown.out hb))) (fun _ h => h) hsz)
            clear hown' hgrow hown2 hbb
            go_wp2_with fail
            go_roundw
            case rel => exact ⟨m + 1, A2, c2, by go_num, by omega, by omega, by rw [HMN.out], by rw [HMN.out]; exact HO2.out, HB2.out⟩
            case measure => simp [intOf]; omega
          | false =>
            have hS := Lib.hid (hN.out hbb)
            clear hbb hmp
            go_wp2_with fail
            go_roundw
            case rel => exact ⟨m + 1, A, c, by go_num, by omega, by omega, by rw [HMN.out, hS.out], by rw [HMN.out, hS.out]; exact Hown.out, HB.out⟩
            case measure => simp [intOf]; omega
    · obtain rfl : n = 310 := by omega
      rw [sieve_end] at hown ⊢
      have HL := Lib.hid (Lies.own (S := fun b => b < w.heap.size) hown (fun _ _ h1 h2 => Nat.lt_irrefl _ (Nat.lt_of_lt_of_le h2 h1)))
      have hlen : Sh.primes.length = 64 := rfl
      rw [hlen]
      clear hown hb Hown
      go_wp2_with fail
      go_ret
      exact ⟨_, _, rfl, HL.out, HB.out⟩
end Go.Proofs.YthaejfbbefpojaaDoor
