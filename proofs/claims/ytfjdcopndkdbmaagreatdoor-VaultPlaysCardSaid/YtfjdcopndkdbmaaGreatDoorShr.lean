/-
  Contracts of the document's own turn, at the places that its blocks use. No condition.
  Contract of the document's primes: the first 64 of them. No condition.
  Contract of the document's times: a product of two numbers, in halves of 64 bits. Condition: the first number is below 2 ^ 38, the other one below 2 ^ 76.
  Contract of the document's root: the first 32 bits of the part behind the point of a root of a prime. Of any number.
  Contract of the document's root, for third roots. Of any number.
  Contract of the document's block: a block goes in. Condition: eight numbers; the table of 64 numbers; a block of 64 bytes.
  Contract of the document's Sum: the digest. Condition: a text of 100000 bytes at most.
-/
import Derived.LoopTactic
import Derived.BigQuiet
import Derived.Deep.QuietTactic
import Derived.Deep.WholeRow
import Derived.StillTailTactics
import Derived.Deep.RegionLaw
import Derived.Deep.AppendLies
import Derived.Deep.RegionHeld3
import Derived.Test.YtfjdcopndkdbmaaGreatDoorSha
import Derived.Test.YtfjdcopndkdbmaaGreatDoorBas
import Derived.Test.YtfjdcopndkdbmaaGreatDoorShb

namespace Go.Proofs.YtfjdcopndkdbmaaGreatDoor
open Go.RowKit

set_option maxHeartbeats 1000000 in
theorem turn_2 (x : BitVec 32) (w : World) :
    Calls Tryz.prog 86 #[.int .u32 (R x), .int .i64 2] w fun e w' => e = .returned (.int .u32 (R (Sh.rr x 2))) ∧ w' = w := by
  have r1 : R x * (1073741824 : Int) % (4294967296 : Int) = R (x <<< 30) := R_shl x 30
  have r2 : R x / (4 : Int) = R (x >>> 2) := R_shr x 2
  have r3 : bits .or .u32 (R (x <<< 30)) (R (x >>> 2)) = R (Sh.rr x 2) := by rw [R_or, BitVec.or_comm]; rfl
  have r4 : bits .or .u32 (R (x >>> 2)) (R (x <<< 30)) = R (Sh.rr x 2) := R_or _ _
  go_enter Tryz.func86, Tryz.ntmps86
  go_wp2
  go_ret
  exact ⟨rfl, rfl⟩
set_option maxHeartbeats 1000000 in
theorem turn_6 (x : BitVec 32) (w : World) :
    Calls Tryz.prog 86 #[.int .u32 (R x), .int .i64 6] w fun e w' => e = .returned (.int .u32 (R (Sh.rr x 6))) ∧ w' = w := by
  have r1 : R x * (67108864 : Int) % (4294967296 : Int) = R (x <<< 26) := R_shl x 26
  have r2 : R x / (64 : Int) = R (x >>> 6) := R_shr x 6
  have r3 : bits .or .u32 (R (x <<< 26)) (R (x >>> 6)) = R (Sh.rr x 6) := by rw [R_or, BitVec.or_comm]; rfl
  have r4 : bits .or .u32 (R (x >>> 6)) (R (x <<< 26)) = R (Sh.rr x 6) := R_or _ _
  go_enter Tryz.func86, Tryz.ntmps86
  go_wp2
  go_ret
  exact ⟨rfl, rfl⟩
set_option maxHeartbeats 1000000 in
theorem turn_7 (x : BitVec 32) (w : World) :
    Calls Tryz.prog 86 #[.int .u32 (R x), .int .i64 7] w fun e w' => e = .returned (.int .u32 (R (Sh.rr x 7))) ∧ w' = w := by
  have r1 : R x * (33554432 : Int) % (4294967296 : Int) = R (x <<< 25) := R_shl x 25
  have r2 : R x / (128 : Int) = R (x >>> 7) := R_shr x 7
  have r3 : bits .or .u32 (R (x <<< 25)) (R (x >>> 7)) = R (Sh.rr x 7) := by rw [R_or, BitVec.or_comm]; rfl
  have r4 : bits .or .u32 (R (x >>> 7)) (R (x <<< 25)) = R (Sh.rr x 7) := R_or _ _
  go_enter Tryz.func86, Tryz.ntmps86
  go_wp2
  go_ret
  exact ⟨rfl, rfl⟩
set_option maxHeartbeats 1000000 in
theorem turn_11 (x : BitVec 32) (w : World) :
    Calls Tryz.prog 86 #[.int .u32 (R x), .int .i64 11] w fun e w' => e = .returned (.int .u32 (R (Sh.rr x 11))) ∧ w' = w := by
  have r1 : R x * (2097152 : Int) % (4294967296 : Int) = R (x <<< 21) := R_shl x 21
  have r2 : R x / (2048 : Int) = R (x >>> 11) := R_shr x 11
  have r3 : bits .or .u32 (R (x <<< 21)) (R (x >>> 11)) = R (Sh.rr x 11) := by rw [R_or, BitVec.or_comm]; rfl
  have r4 : bits .or .u32 (R (x >>> 11)) (R (x <<< 21)) = R (Sh.rr x 11) := R_or _ _
  go_enter Tryz.func86, Tryz.ntmps86
  go_wp2
  go_ret
  exact ⟨rfl, rfl⟩
set_option maxHeartbeats 1000000 in
theorem turn_13 (x : BitVec 32) (w : World) :
    Calls Tryz.prog 86 #[.int .u32 (R x), .int .i64 13] w fun e w' => e = .returned (.int .u32 (R (Sh.rr x 13))) ∧ w' = w := by
  have r1 : R x * (524288 : Int) % (4294967296 : Int) = R (x <<< 19) := R_shl x 19
  have r2 : R x / (8192 : Int) = R (x >>> 13) := R_shr x 13
  have r3 : bits .or .u32 (R (x <<< 19)) (R (x >>> 13)) = R (Sh.rr x 13) := by rw [R_or, BitVec.or_comm]; rfl
  have r4 : bits .or .u32 (R (x >>> 13)) (R (x <<< 19)) = R (Sh.rr x 13) := R_or _ _
  go_enter Tryz.func86, Tryz.ntmps86
  go_wp2
  go_ret
  exact ⟨rfl, rfl⟩
set_option maxHeartbeats 1000000 in
theorem turn_17 (x : BitVec 32) (w : World) :
    Calls Tryz.prog 86 #[.int .u32 (R x), .int .i64 17] w fun e w' => e = .returned (.int .u32 (R (Sh.rr x 17))) ∧ w' = w := by
  have r1 : R x * (32768 : Int) % (4294967296 : Int) = R (x <<< 15) := R_shl x 15
  have r2 : R x / (131072 : Int) = R (x >>> 17) := R_shr x 17
  have r3 : bits .or .u32 (R (x <<< 15)) (R (x >>> 17)) = R (Sh.rr x 17) := by rw [R_or, BitVec.or_comm]; rfl
  have r4 : bits .or .u32 (R (x >>> 17)) (R (x <<< 15)) = R (Sh.rr x 17) := R_or _ _
  go_enter Tryz.func86, Tryz.ntmps86
  go_wp2
  go_ret
  exact ⟨rfl, rfl⟩
set_option maxHeartbeats 1000000 in
theorem turn_18 (x : BitVec 32) (w : World) :
    Calls Tryz.prog 86 #[.int .u32 (R x), .int .i64 18] w fun e w' => e = .returned (.int .u32 (R (Sh.rr x 18))) ∧ w' = w := by
  have r1 : R x * (16384 : Int) % (4294967296 : Int) = R (x <<< 14) := R_shl x 14
  have r2 : R x / (262144 : Int) = R (x >>> 18) := R_shr x 18
  have r3 : bits .or .u32 (R (x <<< 14)) (R (x >>> 18)) = R (Sh.rr x 18) := by rw [R_or, BitVec.or_comm]; rfl
  have r4 : bits .or .u32 (R (x >>> 18)) (R (x <<< 14)) = R (Sh.rr x 18) := R_or _ _
  go_enter Tryz.func86, Tryz.ntmps86
  go_wp2
  go_ret
  exact ⟨rfl, rfl⟩
set_option maxHeartbeats 1000000 in
theorem turn_19 (x : BitVec 32) (w : World) :
    Calls Tryz.prog 86 #[.int .u32 (R x), .int .i64 19] w fun e w' => e = .returned (.int .u32 (R (Sh.rr x 19))) ∧ w' = w := by
  have r1 : R x * (8192 : Int) % (4294967296 : Int) = R (x <<< 13) := R_shl x 13
  have r2 : R x / (524288 : Int) = R (x >>> 19) := R_shr x 19
  have r3 : bits .or .u32 (R (x <<< 13)) (R (x >>> 19)) = R (Sh.rr x 19) := by rw [R_or, BitVec.or_comm]; rfl
  have r4 : bits .or .u32 (R (x >>> 19)) (R (x <<< 13)) = R (Sh.rr x 19) := R_or _ _
  go_enter Tryz.func86, Tryz.ntmps86
  go_wp2
  go_ret
  exact ⟨rfl, rfl⟩
set_option maxHeartbeats 1000000 in
theorem turn_22 (x : BitVec 32) (w : World) :
    Calls Tryz.prog 86 #[.int .u32 (R x), .int .i64 22] w fun e w' => e = .returned (.int .u32 (R (Sh.rr x 22))) ∧ w' = w := by
  have r1 : R x * (1024 : Int) % (4294967296 : Int) = R (x <<< 10) := R_shl x 10
  have r2 : R x / (4194304 : Int) = R (x >>> 22) := R_shr x 22
  have r3 : bits .or .u32 (R (x <<< 10)) (R (x >>> 22)) = R (Sh.rr x 22) := by rw [R_or, BitVec.or_comm]; rfl
  have r4 : bits .or .u32 (R (x >>> 22)) (R (x <<< 10)) = R (Sh.rr x 22) := R_or _ _
  go_enter Tryz.func86, Tryz.ntmps86
  go_wp2
  go_ret
  exact ⟨rfl, rfl⟩
set_option maxHeartbeats 1000000 in
theorem turn_25 (x : BitVec 32) (w : World) :
    Calls Tryz.prog 86 #[.int .u32 (R x), .int .i64 25] w fun e w' => e = .returned (.int .u32 (R (Sh.rr x 25))) ∧ w' = w := by
  have r1 : R x * (128 : Int) % (4294967296 : Int) = R (x <<< 7) := R_shl x 7
  have r2 : R x / (33554432 : Int) = R (x >>> 25) := R_shr x 25
  have r3 : bits .or .u32 (R (x <<< 7)) (R (x >>> 25)) = R (Sh.rr x 25) := by rw [R_or, BitVec.or_comm]; rfl
  have r4 : bits .or .u32 (R (x >>> 25)) (R (x <<< 7)) = R (Sh.rr x 25) := R_or _ _
  go_enter Tryz.func86, Tryz.ntmps86
  go_wp2
  go_ret
  exact ⟨rfl, rfl⟩
theorem turn_all (x : BitVec 32) (n : Int) (hn : n ∈ ([2, 6, 7, 11, 13, 17, 18, 19, 22, 25] : List Int)) (w : World) :
    Calls Tryz.prog 86 #[.int .u32 (R x), .int .i64 n] w fun e w' => e = .returned (.int .u32 (R (Sh.rr x n.toNat))) ∧ w' = w := by
  simp only [List.mem_cons, List.not_mem_nil, or_false] at hn
  rcases hn with rfl | rfl | rfl | rfl | rfl | rfl | rfl | rfl | rfl | rfl
  · exact turn_2 x w
  · exact turn_6 x w
  · exact turn_7 x w
  · exact turn_11 x w
  · exact turn_13 x w
  · exact turn_17 x w
  · exact turn_18 x w
  · exact turn_19 x w
  · exact turn_22 x w
  · exact turn_25 x w
end Go.Proofs.YtfjdcopndkdbmaaGreatDoor

namespace Go.Proofs.YtfjdcopndkdbmaaGreatDoor
open Go.RowKit

/-- Primes among 2 .. n + 1, 64 at most. -/
def sieve : Nat → List Nat
  | 0 => []
  | n + 1 => if (sieve n).length < 64 ∧ (sieve n).all (fun p => (n + 2) % p != 0) = true then sieve n ++ [n + 2] else sieve n
def sieveFast : Nat → List Nat := fun n => (List.range n).foldl (fun l i => if l.length < 64 ∧ l.all (fun p => (i + 2) % p != 0) = true then l ++ [i + 2] else l) []
theorem sieve_fast (n : Nat) : sieve n = sieveFast n := by
  induction n with
  | zero => rfl
  | succ n ih =>
    unfold sieveFast at ih ⊢
    rw [List.range_succ, List.foldl_append, ← ih]
    rfl
theorem sieve_end : sieve 310 = Sh.primes := by rw [sieve_fast]; decide +kernel
theorem sieve_309 : (sieve 309).length = 63 := by rw [sieve_fast]; decide +kernel
theorem sieve_mono (n : Nat) : ∀ k, (sieve n).length ≤ (sieve (n + k)).length
  | 0 => Nat.le_refl _
  | k + 1 => by
    have := sieve_mono n k
    show _ ≤ (sieve (n + k + 1)).length
    rw [sieve]
    split
    · rw [List.length_append]; omega
    · exact this
theorem sieve_less (n : Nat) (h : n < 310) : (sieve n).length < 64 := by
  have := sieve_mono n (309 - n)
  rw [show n + (309 - n) = 309 by omega, sieve_309] at this
  omega
theorem sieve_mem (n : Nat) : ∀ p ∈ sieve n, 2 ≤ p ∧ p ≤ n + 1 := by
  induction n with
  | zero => intro p hp; simp [sieve] at hp
  | succ n ih =>
    intro p hp
    rw [sieve] at hp
    split at hp
    · rcases List.mem_append.1 hp with h | h
      · have := ih p h; omega
      · simp at h; omega
    · have := ih p hp; omega
theorem sieve_yes (n : Nat) (h1 : (sieve n).length < 64) (h2 : (sieve n).all (fun p => (n + 2) % p != 0) = true) : sieve (n + 1) = sieve n ++ [n + 2] := by rw [sieve, if_pos ⟨h1, h2⟩]
theorem sieve_no (n : Nat) (h2 : (sieve n).all (fun p => (n + 2) % p != 0) = false) : sieve (n + 1) = sieve n := by rw [sieve, if_neg (by rw [h2]; simp)]
theorem all_take (l : List Nat) (f : Nat → Bool) (j : Nat) (h : j < l.length) : (l.take (j + 1)).all f = ((l.take j).all f && f l[j]) := by
  rw [take_more l j h, List.all_append]
  simp
theorem info_u64 : ∃ i, Tryz.prog.info? 111 = some i ∧ i.zero = some (.int .u64 0) ∧ i.size = 1 ∧ i.bytes = 8 := info_parts (by kernel_rfl)

set_option maxRecDepth 100000 in
set_option maxHeartbeats 4000000 in
theorem primes_any (w : World) :
    Calls Tryz.prog 72 #[.int .i64 64] w fun e w' => ∃ A c, e = .returned (.slice A 64 c) ∧ Lies (fun b => b < w.heap.size) w' A (cn Sh.primes) ∧ Below w.heap.size w w' := by
  obtain ⟨i0, hi, hz0, hz1, hz2⟩ := info_u64
  go_enter Tryz.func72, Tryz.ntmps72
  go_wp2_with fail
  go_loopw [3, 4, 5, 6] (fun v k _ _ wr => ∃ (m : Nat) (A : Option Addr) (c : Nat), k = .int .u64 m ∧ 2 ≤ m ∧ m ≤ 312 ∧ v = .slice A (sieve (m - 2)).length c ∧ wr.ownsRow w.heap.size 111 1 v (sieve (m - 2)).length (cn (sieve (m - 2))) ∧ Below w.heap.size w wr)
    (fun _ k _ _ _ => 312 - (intOf k).toNat)
  case atStart => exact ⟨2, _, _, rfl, by omega, by omega, rfl, World.ownsRow_nil _ _ _ _, Below.refl _ _⟩
  case round =>
    obtain ⟨m, A, c, rfl, hm1, hm2, rfl, hown, hb⟩ := hrel
    obtain ⟨n, hn⟩ : ∃ n, m = n + 2 := ⟨m - 2, by omega⟩
    have hn' : m - 2 = n := by omega
    rw [hn'] at hown ⊢
    have Hown := Lib.hid hown
    have HB := Lib.hid hb
    by_cases hlt : n < 310
    · have hl := sieve_less n hlt
      have hmem := sieve_mem n
      have hY := Lib.hid (sieve_yes n hl)
      have hN := Lib.hid (sieve_no n)
      rw [← hn] at hY hN
      have HL := Lib.hid (Lies.own (S := fun b => b < w.heap.size) hown (fun _ _ h1 h2 => Nat.lt_irrefl _ (Nat.lt_of_lt_of_le h2 h1)))
      generalize sieve n = l at hl hmem hY hN Hown HL
      have hl1 : (l.length : Int) < 64 := by omega
      have hm3 : m ≤ 311 := by omega
      have hmp : ∀ p ∈ l, 2 ≤ p ∧ p ≤ 311 := fun p hp => by have := hmem p hp; omega
      have HMN : Hid (m + 1 - 2 = n + 1) := Lib.hid (by omega)
      clear hown hb hn hn' hmem
      go_wp2_with fail
      go_loop [5, 6] (fun b i => ∃ j : Nat, i = .int .i64 j ∧ j ≤ l.length ∧ b = .bool ((l.take j).all (fun p => m % p != 0))) (fun _ i => l.length - (intOf i).toNat)
      case atStart => exact ⟨0, rfl, by omega, rfl⟩
      case round =>
        obtain ⟨j, rfl, hj, rfl⟩ := hrel
        by_cases hjl : j < l.length
        · have hget := cn_get l j hjl
          obtain ⟨a, hAa, _, _, ha3⟩ := HL.out j _ hget
          subst hAa
          have hal := all_take l (fun p => m % p != 0) j hjl
          have hpb := hmp l[j] (List.getElem_mem _)
          generalize l[j] = p at ha3 hal hpb hget
          have hji : (j : Int) < (l.length : Int) := by omega
          have HAl := Lib.hid hal
          clear hal hget
          generalize (l.take j).all (fun p => m % p != 0) = bb at HAl
          by_cases hq : m % p = 0
          · have hqi : (m : Int) % (p : Int) = 0 := by rw [← Int.natCast_emod, hq]; rfl
            have hbq : (bb && (m % p != 0)) = false := by simp [hq]
            go_wp2_with fail
            go_round
            case rel => exact ⟨j + 1, by go_num, by omega, by rw [HAl.out, hbq]⟩
            case measure => simp [intOf]; omega
          · have hqi : ¬ ((m : Int) % (p : Int) = 0) := by rw [← Int.natCast_emod]; omega
            have hbq : (bb && (m % p != 0)) = bb := by simp [hq]
            go_wp2_with fail
            go_round
            case rel => exact ⟨j + 1, by go_num, by omega, by rw [HAl.out, hbq]⟩
            case measure => simp [intOf]; omega
        · obtain rfl : j = l.length := by omega
          rw [List.take_length]
          cases hbb : l.all (fun p => m % p != 0) with
          | true =>
            have hS := hY.out hbb
            have hS' := Lib.hid hS
            clear hS hmp
            go_wp2_with (at_builtin; refine wpList_append_own _ rfl _ _ 113 rfl w.heap.size 111 i0 (.int .u64 0) 1 8 Tryz.underlying113 hi hz0 hz1 hz2 rfl (by decide) _ _ _ rfl (Hown.out.alloc _) ⟨wr.heap.size, 0, none⟩ 1 1 (cn [m]) rfl rfl ?c1 ?c2 ?c3 ?c4 ?c5 ?_)
            case c1 =>
              intro j u hj
              match j, hj with
              | 0, hj => simp [cn] at hj; subst hj; simp
            case c2 => intro u hu; simp [cn] at hu; subst hu; rfl
            case c3 => unfold maxLen; omega
            case c4 => omega
            case c5 => have := HB.out.size; simp; omega
            intro v' w2 hown' hgrow _
            have hown2 : w2.ownsRow w.heap.size 111 1 v' (l ++ [m]).length (cn (l ++ [m])) := by
              rw [List.length_append, show cn (l ++ [m]) = cn l ++ cn [m] by simp [cn]]
              exact hown'
            rw [← hS'.out] at hown2
            obtain ⟨A2, c2, rfl⟩ := own_form hown2
            have HO2 := Lib.hid hown2
            have hsz := HB.out.size
            have HB2 := Lib.hid (Kept.below HB.out (Kept.grown (S := fun b => w.heap.size ≤ b) (Kept.alloc (Kept.refl _ wr) _) hgrow (fun b hb => .inl (own_base Hown.out hb))) (fun _ h => h) hsz)
            clear hown' hgrow hown2 hbb
            go_wp2_with fail
            go_roundw
            case rel => exact ⟨m + 1, A2, c2, by go_num, by omega, by omega, by rw [HMN.out], by rw [HMN.out]; exact HO2.out, HB2.out⟩
            case measure => simp [intOf]; omega
          | false =>
            have hS := Lib.hid (hN.out hbb)
            clear hbb hmp
            go_wp2_with fail
            go_roundw
            case rel => exact ⟨m + 1, A, c, by go_num, by omega, by omega, by rw [HMN.out, hS.out], by rw [HMN.out, hS.out]; exact Hown.out, HB.out⟩
            case measure => simp [intOf]; omega
    · obtain rfl : n = 310 := by omega
      rw [sieve_end] at hown ⊢
      have HL := Lib.hid (Lies.own (S := fun b => b < w.heap.size) hown (fun _ _ h1 h2 => Nat.lt_irrefl _ (Nat.lt_of_lt_of_le h2 h1)))
      have hlen : Sh.primes.length = 64 := rfl
      rw [hlen]
      clear hown hb Hown
      go_wp2_with fail
      go_ret
      exact ⟨_, _, rfl, HL.out, HB.out⟩
end Go.Proofs.YtfjdcopndkdbmaaGreatDoor

namespace Go.Proofs.YtfjdcopndkdbmaaGreatDoor
open Go.RowKit

theorem Blk.new2' (w : World) (o1 : Obj) (t : TypeId) (cs : Array Value) : Blk ((w.alloc o1).alloc (.cells cs t)) (w.heap.size + 1) t cs := by
  have := Blk.new (w.alloc o1) t cs
  simpa using this
theorem Blk.new3' (w : World) (o1 o2 : Obj) (t : TypeId) (cs : Array Value) : Blk (((w.alloc o1).alloc o2).alloc (.cells cs t)) (w.heap.size + 1 + 1) t cs := by
  have := Blk.new ((w.alloc o1).alloc o2) t cs
  simpa using this
theorem Blk.new4' (w : World) (o1 o2 o3 : Obj) (t : TypeId) (cs : Array Value) : Blk ((((w.alloc o1).alloc o2).alloc o3).alloc (.cells cs t)) (w.heap.size + 1 + 1 + 1) t cs := by
  have := Blk.new (((w.alloc o1).alloc o2).alloc o3) t cs
  simpa using this
theorem sz2 : (Tryz.prog.info? 129).map (·.size) = some 2 := by kernel_rfl
/-- Numbers of 64 bits as cells. -/
def ul (l : List Nat) : Array Value := (cn l).toArray
theorem ul_size (l : List Nat) : (ul l).size = l.length := by simp [ul, cn]
theorem Blk.ul {w : World} {g : Nat} {t : TypeId} {l : List Nat} (h : Blk w g t (Go.Proofs.YtfjdcopndkdbmaaGreatDoor.ul l)) (i : Nat) (x : Nat) (hx : l[i]? = some x) : w.cell? ⟨g, i, none⟩ = some (.int .u64 (x : Int)) := by
  rw [h.cell]
  have := (List.getElem?_eq_some_iff.1 hx)
  obtain ⟨h1, h2⟩ := this
  have := cn_get l i h1
  rw [h2] at this
  simpa [Go.Proofs.YtfjdcopndkdbmaaGreatDoor.ul] using this
theorem Blk.ulSet {w : World} {g : Nat} {t : TypeId} {l : List Nat} (h : Blk w g t (Go.Proofs.YtfjdcopndkdbmaaGreatDoor.ul l)) (i : Nat) (x : Nat) : Blk (w.setCell ⟨g, i, none⟩ (.int .u64 (x : Int))) g t (Go.Proofs.YtfjdcopndkdbmaaGreatDoor.ul (l.set i x)) := by
  have e : (Go.Proofs.YtfjdcopndkdbmaaGreatDoor.ul l).setIfInBounds i (.int .u64 (x : Int)) = Go.Proofs.YtfjdcopndkdbmaaGreatDoor.ul (l.set i x) := by simp [Go.Proofs.YtfjdcopndkdbmaaGreatDoor.ul, cn, List.map_set]
  rw [← e]
  exact h.set_ i _
theorem mask32 (t : Nat) (h : t < 18446744073709551616) : bits BinOp.and IntKind.u64 (t : Int) 4294967295 = ((t % 4294967296 : Nat) : Int) := by
  have h1 := u64_and_nat t 4294967295 h (by decide)
  rw [show (4294967295 : Nat) = 2 ^ 32 - 1 from rfl, Nat.and_two_pow_sub_one_eq_mod] at h1
  exact h1
/-- What so many products come to. -/
def Acc (p00 p01 p02 p03 p10 p11 p12 : Nat) : Nat → Nat → Nat
  | 0, 0 => 0
  | 0, 1 => p00 * 1
  | 0, 2 => p00 * 1 + p01 * 4294967296
  | 0, 3 => p00 * 1 + p01 * 4294967296 + p02 * 18446744073709551616
  | 0, 4 => p00 * 1 + p01 * 4294967296 + p02 * 18446744073709551616 + p03 * 79228162514264337593543950336
  | 1, 0 => p00 * 1 + p01 * 4294967296 + p02 * 18446744073709551616 + p03 * 79228162514264337593543950336
  | 1, 1 => p00 * 1 + p01 * 4294967296 + p02 * 18446744073709551616 + p03 * 79228162514264337593543950336 + p10 * 4294967296
  | 1, 2 => p00 * 1 + p01 * 4294967296 + p02 * 18446744073709551616 + p03 * 79228162514264337593543950336 + p10 * 4294967296 + p11 * 18446744073709551616
  | 1, 3 => p00 * 1 + p01 * 4294967296 + p02 * 18446744073709551616 + p03 * 79228162514264337593543950336 + p10 * 4294967296 + p11 * 18446744073709551616 + p12 * 79228162514264337593543950336
  | _, _ => 0

def pw : Nat → Nat → Nat
  | 0, 0 => 1
  | 0, 1 => 4294967296
  | 0, 2 => 18446744073709551616
  | 0, 3 => 79228162514264337593543950336
  | 0, 4 => 340282366920938463463374607431768211456
  | 1, 0 => 4294967296
  | 1, 1 => 18446744073709551616
  | 1, 2 => 79228162514264337593543950336
  | 1, 3 => 340282366920938463463374607431768211456
  | _, _ => 1
structure Mul (p00 p01 p02 p03 p10 p11 p12 i q n0 n1 n2 n3 c : Nat) : Prop where
  b0 : n0 < 4294967296
  b1 : n1 < 4294967296
  b2 : n2 < 4294967296
  b3 : n3 < 4294967296
  bc : c < 4294967296
  eq : n0 + n1 * 4294967296 + n2 * 18446744073709551616 + n3 * 79228162514264337593543950336 + c * pw i q = Acc p00 p01 p02 p03 p10 p11 p12 i q

theorem lin0 (n0 n1 n2 n3 c C p00 p01 p02 p03 p10 p11 p12 N : Nat) (hC : 0 < c → 340282366920938463463374607431768211456 ≤ C) (h : n0 + n1 * 4294967296 + n2 * 18446744073709551616 + n3 * 79228162514264337593543950336 + C = p00 + p01 * 4294967296 + p02 * 18446744073709551616 + p03 * 79228162514264337593543950336) (h1 : p00 + p01 * 4294967296 + p02 * 18446744073709551616 + p03 * 79228162514264337593543950336 + p10 * 4294967296 + p11 * 18446744073709551616 + p12 * 79228162514264337593543950336 = N) (h2 : N < 340282366920938463463374607431768211456) : c = 0 := by
  rcases Nat.eq_zero_or_pos c with h0 | h0
  · exact h0
  · exfalso
    have := hC h0
    grind
theorem lin1 (S c C N : Nat) (hC : 0 < c → 340282366920938463463374607431768211456 ≤ C) (h : S + C = N) (h2 : N < 340282366920938463463374607431768211456) : c = 0 := by
  rcases Nat.eq_zero_or_pos c with h0 | h0
  · exact h0
  · exfalso
    have := hC h0
    grind
theorem le_mul_lit (c K : Nat) (h : 0 < c) : K ≤ c * K := Nat.le_mul_of_pos_left K h
theorem mul_turn {p00 p01 p02 p03 p10 p11 p12 n0 n1 n2 n3 c N : Nat} (hN : Acc p00 p01 p02 p03 p10 p11 p12 1 3 = N ∧ N < 340282366920938463463374607431768211456) (h : Mul p00 p01 p02 p03 p10 p11 p12 0 4 n0 n1 n2 n3 c) : Mul p00 p01 p02 p03 p10 p11 p12 1 0 n0 n1 n2 n3 0 := by
  obtain ⟨b0, b1, b2, b3, bc, heq⟩ := h
  obtain ⟨h1, h2⟩ := hN
  refine Mul.mk b0 b1 b2 b3 (by decide) ?_
  simp only [Acc, pw, Nat.mul_one] at heq h1 ⊢
  have hc := lin0 n0 n1 n2 n3 c _ p00 p01 p02 p03 p10 p11 p12 N (le_mul_lit c 340282366920938463463374607431768211456) heq h1 h2
  rw [hc, Nat.zero_mul] at heq
  rw [Nat.zero_mul]
  exact heq
theorem mul_last {p00 p01 p02 p03 p10 p11 p12 n0 n1 n2 n3 c N : Nat} (hN : Acc p00 p01 p02 p03 p10 p11 p12 1 3 = N ∧ N < 340282366920938463463374607431768211456) (h : Mul p00 p01 p02 p03 p10 p11 p12 1 3 n0 n1 n2 n3 c) : Mul p00 p01 p02 p03 p10 p11 p12 1 3 n0 n1 n2 n3 0 := by
  obtain ⟨b0, b1, b2, b3, bc, heq⟩ := h
  obtain ⟨h1, h2⟩ := hN
  refine Mul.mk b0 b1 b2 b3 (by decide) ?_
  simp only [Acc, pw, Nat.mul_one] at heq h1 ⊢
  have hc := lin1 _ c _ N (le_mul_lit c 340282366920938463463374607431768211456) (heq.trans h1) h2
  rw [hc, Nat.zero_mul] at heq
  rw [Nat.zero_mul]
  exact heq
theorem mul_out {p00 p01 p02 p03 p10 p11 p12 n0 n1 n2 n3 N : Nat} (hN : Acc p00 p01 p02 p03 p10 p11 p12 1 3 = N ∧ N < 340282366920938463463374607431768211456) (h : Mul p00 p01 p02 p03 p10 p11 p12 1 3 n0 n1 n2 n3 0) : N / 18446744073709551616 = n2 + n3 * 4294967296 ∧ N % 18446744073709551616 = n0 + n1 * 4294967296 := by
  obtain ⟨b0, b1, b2, b3, bc, heq⟩ := h
  rw [Nat.zero_mul, Nat.add_zero] at heq
  have e : N = (n0 + n1 * 4294967296) + (n2 + n3 * 4294967296) * 18446744073709551616 := by
    rw [← hN.1, ← heq]
    grind
  have hL : n0 + n1 * 4294967296 < 18446744073709551616 := by omega
  clear heq hN
  subst e
  exact ⟨by rw [Nat.add_mul_div_right _ _ (by decide), Nat.div_eq_of_lt hL, Nat.zero_add], by rw [Nat.add_mul_mod_self_right, Nat.mod_eq_of_lt hL]⟩
theorem mul_lt (x y : Nat) (hx : x < 4294967296) (hy : y < 4294967296) : x * y ≤ 18446744065119617025 := by
  have := Nat.mul_le_mul (show x ≤ 4294967295 by omega) (show y ≤ 4294967295 by omega)
  exact this
structure Prods (x0 x1 y0 y1 y2 y3 p00 p01 p02 p03 p10 p11 p12 : Nat) : Prop where
  e00 : x0 * y0 = p00
  e01 : x0 * y1 = p01
  e02 : x0 * y2 = p02
  e03 : x0 * y3 = p03
  e10 : x1 * y0 = p10
  e11 : x1 * y1 = p11
  e12 : x1 * y2 = p12
  b00 : p00 ≤ 18446744065119617025
  b01 : p01 ≤ 18446744065119617025
  b02 : p02 ≤ 18446744065119617025
  b03 : p03 ≤ 18446744065119617025
  b10 : p10 ≤ 18446744065119617025
  b11 : p11 ≤ 18446744065119617025
  b12 : p12 ≤ 18446744065119617025
theorem times_sum (a hi lo : Nat) (ha : a < 274877906944) (hh : hi < 4096) (hl : lo < 18446744073709551616) :
    Acc (a % 4294967296 * (lo % 4294967296)) (a % 4294967296 * (lo / 4294967296)) (a % 4294967296 * (hi % 4294967296)) (a % 4294967296 * (hi / 4294967296)) (a / 4294967296 * (lo % 4294967296)) (a / 4294967296 * (lo / 4294967296)) (a / 4294967296 * (hi % 4294967296)) 1 3 = a * (hi * 18446744073709551616 + lo) ∧ a * (hi * 18446744073709551616 + lo) < 340282366920938463463374607431768211456 := by
  have h3 : hi / 4294967296 = 0 := by omega
  have h4 : hi % 4294967296 = hi := by omega
  have hx : a = a % 4294967296 + a / 4294967296 * 4294967296 := by omega
  have hy : lo = lo % 4294967296 + lo / 4294967296 * 4294967296 := by omega
  rw [h3, h4]
  constructor
  · simp only [Acc]
    generalize a % 4294967296 = x0 at hx
    generalize a / 4294967296 = x1 at hx
    generalize lo % 4294967296 = y0 at hy
    generalize lo / 4294967296 = y1 at hy
    subst hx hy
    grind
  · have := Nat.mul_le_mul (show a ≤ 274877906943 by omega) (show hi * 18446744073709551616 + lo ≤ 75557863725914323419135 by omega)
    omega

set_option maxRecDepth 100000 in
set_option maxHeartbeats 4000000 in
theorem times_any (a hi lo : Nat) (ha : a < 274877906944) (hh : hi < 4096) (hl : lo < 18446744073709551616) (w : World) :
    Calls Tryz.prog 85 #[.int .u64 (a : Int), .int .u64 (hi : Int), .int .u64 (lo : Int)] w fun e w' => e = .returned (.agg (ul [a * (hi * 18446744073709551616 + lo) / 18446744073709551616, a * (hi * 18446744073709551616 + lo) % 18446744073709551616])) ∧ Below w.heap.size w w' := by
  have m1 := mask32 a (by omega)
  have m2 := mask32 lo (by omega)
  have m3 := mask32 hi (by omega)
  have d1 : (a : Int) / 4294967296 = ((a / 4294967296 : Nat) : Int) := by omega
  have d2 : (lo : Int) / 4294967296 = ((lo / 4294967296 : Nat) : Int) := by omega
  have d3 : (hi : Int) / 4294967296 = ((hi / 4294967296 : Nat) : Int) := by omega
  obtain ⟨x0, hx0⟩ : ∃ x, a % 4294967296 = x := ⟨_, rfl⟩
  obtain ⟨x1, hx1⟩ : ∃ x, a / 4294967296 = x := ⟨_, rfl⟩
  obtain ⟨y0, hy0⟩ : ∃ x, lo % 4294967296 = x := ⟨_, rfl⟩
  obtain ⟨y1, hy1⟩ : ∃ x, lo / 4294967296 = x := ⟨_, rfl⟩
  obtain ⟨y2, hy2⟩ : ∃ x, hi % 4294967296 = x := ⟨_, rfl⟩
  obtain ⟨y3, hy3⟩ : ∃ x, hi / 4294967296 = x := ⟨_, rfl⟩
  rw [hx0] at m1
  rw [hx1] at d1
  rw [hy0] at m2
  rw [hy1] at d2
  rw [hy2] at m3
  rw [hy3] at d3
  have HP := Lib.hid (Prods.mk (x0 := x0) (x1 := x1) (y0 := y0) (y1 := y1) (y2 := y2) (y3 := y3) rfl rfl rfl rfl rfl rfl rfl (mul_lt x0 y0 (by omega) (by omega)) (mul_lt x0 y1 (by omega) (by omega)) (mul_lt x0 y2 (by omega) (by omega)) (mul_lt x0 y3 (by omega) (by omega)) (mul_lt x1 y0 (by omega) (by omega)) (mul_lt x1 y1 (by omega) (by omega)) (mul_lt x1 y2 (by omega) (by omega)))
  have HF := Lib.hid (times_sum a hi lo ha hh hl)
  rw [hx0, hx1, hy0, hy1, hy2, hy3] at HF
  generalize x0 * y0 = p00 at HP HF
  generalize x0 * y1 = p01 at HP HF
  generalize x0 * y2 = p02 at HP HF
  generalize x0 * y3 = p03 at HP HF
  generalize x1 * y0 = p10 at HP HF
  generalize x1 * y1 = p11 at HP HF
  generalize x1 * y2 = p12 at HP HF
  clear hx0 hx1 hy0 hy1 hy2 hy3
  go_enter Tryz.func85, Tryz.ntmps85
  go_wp2_with fail
  go_loopw [10, 11, 12, 13] (fun i _ _ _ wr => ∃ (q n0 n1 n2 n3 : Nat), i = .int .i64 q ∧ q ≤ 2 ∧ (q = 0 ∧ Mul p00 p01 p02 p03 p10 p11 p12 0 0 n0 n1 n2 n3 0 ∨ q = 1 ∧ Mul p00 p01 p02 p03 p10 p11 p12 1 0 n0 n1 n2 n3 0 ∨ q = 2 ∧ Mul p00 p01 p02 p03 p10 p11 p12 1 3 n0 n1 n2 n3 0) ∧ Blk wr w.heap.size 129 (ul [0, 0]) ∧ Blk wr (w.heap.size + 1) 151 (ul [n0, n1, n2, n3]) ∧ Blk wr (w.heap.size + 1 + 1) 129 (ul [x0, x1]) ∧ Blk wr (w.heap.size + 1 + 1 + 1) 151 (ul [y0, y1, y2, y3]) ∧ Below w.heap.size w wr)
    (fun i _ _ _ _ => 2 - (intOf i).toNat)
  case atStart =>
    refine ⟨0, 0, 0, 0, 0, rfl, by omega, .inl ⟨rfl, ⟨by omega, by omega, by omega, by omega, by omega, rfl⟩⟩, (((Blk.new w _ _).alloc _).alloc _).alloc _, (((Blk.new2' w _ _ _).alloc _).alloc _), ?_, ?_, ?_⟩
    · exact (Blk.new3' _ _ _ _ _).alloc _
    · exact Blk.new4' _ _ _ _ _ _
    · exact ((((Below.refl _ w).alloc (Nat.le_refl _) _).alloc (by simp) _).alloc (by simp; omega) _).alloc (by simp; omega) _
  case round =>
    obtain ⟨q, n0, n1, n2, n3, rfl, hq, hmul, E0, E1, E2, E3, EB⟩ := hrel
    rcases hmul with ⟨rfl, hmul⟩ | ⟨rfl, hmul⟩ | ⟨rfl, hmul⟩
    · have HE1 := Lib.hid E1
      have HE2 := Lib.hid E2
      have HE3 := Lib.hid E3
      have HE0 := Lib.hid E0
      have HEB := Lib.hid EB
      have HM := Lib.hid hmul
      clear E0 E1 E2 E3 EB hmul
      go_wp2_with fail
      go_loopw [11, 12, 13] (fun cv k _ wr => ∃ (q n0 n1 n2 n3 c : Nat), k = .int .i64 q ∧ q ≤ 4 ∧ cv = .int .u64 (c : Int) ∧ Mul p00 p01 p02 p03 p10 p11 p12 0 q n0 n1 n2 n3 c ∧ Blk wr w.heap.size 129 (ul [0, 0]) ∧ Blk wr (w.heap.size + 1) 151 (ul [n0, n1, n2, n3]) ∧ Blk wr (w.heap.size + 1 + 1) 129 (ul [x0, x1]) ∧ Blk wr (w.heap.size + 1 + 1 + 1) 151 (ul [y0, y1, y2, y3]) ∧ Below w.heap.size w wr)
        (fun _ k _ _ => 4 - (intOf k).toNat)
      case atStart => exact ⟨0, n0, n1, n2, n3, 0, rfl, by omega, rfl, HM.out, HE0.out, HE1.out, HE2.out, HE3.out, HEB.out⟩
      case round =>
        clear HM HE0 HE1 HE2 HE3 HEB
        obtain ⟨q, n0, n1, n2, n3, c, rfl, hq, rfl, hmul, E0, E1, E2, E3, EB⟩ := hrel
        rcases (by omega : q = 0 ∨ q = 1 ∨ q = 2 ∨ q = 3 ∨ q = 4) with rfl | rfl | rfl | rfl | rfl
        · obtain ⟨b0, b1, b2, b3, bc, heq⟩ := hmul
          have e1 := Blk.ul E1 0 n0 rfl
          have e2 := Blk.ul E2 0 x0 rfl
          have e3 := Blk.ul E3 0 y0 rfl
          have e4 := Blk.frozen E1 0
          have pr : (x0 : Int) * (y0 : Int) = (p00 : Int) := by rw [← Int.natCast_mul]; exact congrArg _ HP.out.e00
          have pb := HP.out.b00
          obtain ⟨t0, ht0⟩ : ∃ t, (n0 + p00 + c) % 4294967296 = t := ⟨_, rfl⟩
          obtain ⟨t1, ht1⟩ : ∃ t, (n0 + p00 + c) / 4294967296 = t := ⟨_, rfl⟩
          have mk : bits BinOp.and IntKind.u64 ((n0 : Int) + (p00 : Int) + (c : Int)) 4294967295 = (t0 : Int) := by have := mask32 (n0 + p00 + c) (by omega); rw [ht0] at this; exact this
          have dv : ((n0 : Int) + (p00 : Int) + (c : Int)) / 4294967296 = (t1 : Int) := by omega
          have HE1 := Lib.hid E1
          have HE2 := Lib.hid E2
          have HE3 := Lib.hid E3
          have HE0 := Lib.hid E0
          have HEB := Lib.hid EB
          have HN : Hid (Mul p00 p01 p02 p03 p10 p11 p12 0 1 t0 n1 n2 n3 t1) := by
            have hdm : t0 + t1 * 4294967296 = n0 + p00 + c := by omega
            refine Lib.hid ⟨by omega, by omega, by omega, by omega, by omega, ?_⟩
            clear ht0 ht1 mk dv pr
            simp only [Acc, pw, Nat.mul_one] at heq ⊢
            grind
          clear E0 E1 E2 E3 EB heq ht0 ht1
          go_wp2_with fail
          go_quiet (fail)
          go_wp2_with fail
          go_roundw
          case rel => exact ⟨1, t0, n1, n2, n3, t1, rfl, by omega, rfl, HN.out, Blk.far (w := wr.drewN _) HE0.out (by dsimp only; omega) _, Blk.ulSet (w := wr.drewN _) HE1.out 0 t0, Blk.far (w := wr.drewN _) HE2.out (by dsimp only; omega) _, Blk.far (w := wr.drewN _) HE3.out (by dsimp only; omega) _, (below_drewN HEB.out _).setCell (by dsimp only; omega) _⟩
          case measure => decide
        · obtain ⟨b0, b1, b2, b3, bc, heq⟩ := hmul
          have e1 := Blk.ul E1 1 n1 rfl
          have e2 := Blk.ul E2 0 x0 rfl
          have e3 := Blk.ul E3 1 y1 rfl
          have e4 := Blk.frozen E1 1
          have pr : (x0 : Int) * (y1 : Int) = (p01 : Int) := by rw [← Int.natCast_mul]; exact congrArg _ HP.out.e01
          have pb := HP.out.b01
          obtain ⟨t0, ht0⟩ : ∃ t, (n1 + p01 + c) % 4294967296 = t := ⟨_, rfl⟩
          obtain ⟨t1, ht1⟩ : ∃ t, (n1 + p01 + c) / 4294967296 = t := ⟨_, rfl⟩
          have mk : bits BinOp.and IntKind.u64 ((n1 : Int) + (p01 : Int) + (c : Int)) 4294967295 = (t0 : Int) := by have := mask32 (n1 + p01 + c) (by omega); rw [ht0] at this; exact this
          have dv : ((n1 : Int) + (p01 : Int) + (c : Int)) / 4294967296 = (t1 : Int) := by omega
          have HE1 := Lib.hid E1
          have HE2 := Lib.hid E2
          have HE3 := Lib.hid E3
          have HE0 := Lib.hid E0
          have HEB := Lib.hid EB
          have HN : Hid (Mul p00 p01 p02 p03 p10 p11 p12 0 2 n0 t0 n2 n3 t1) := by
            have hdm : t0 + t1 * 4294967296 = n1 + p01 + c := by omega
            refine Lib.hid ⟨by omega, by omega, by omega, by omega, by omega, ?_⟩
            clear ht0 ht1 mk dv pr
            simp only [Acc, pw, Nat.mul_one] at heq ⊢
            grind
          clear E0 E1 E2 E3 EB heq ht0 ht1
          go_wp2_with fail
          go_quiet (fail)
          go_wp2_with fail
          go_roundw
          case rel => exact ⟨2, n0, t0, n2, n3, t1, rfl, by omega, rfl, HN.out, Blk.far (w := wr.drewN _) HE0.out (by dsimp only; omega) _, Blk.ulSet (w := wr.drewN _) HE1.out 1 t0, Blk.far (w := wr.drewN _) HE2.out (by dsimp only; omega) _, Blk.far (w := wr.drewN _) HE3.out (by dsimp only; omega) _, (below_drewN HEB.out _).setCell (by dsimp only; omega) _⟩
          case measure => decide
        · obtain ⟨b0, b1, b2, b3, bc, heq⟩ := hmul
          have e1 := Blk.ul E1 2 n2 rfl
          have e2 := Blk.ul E2 0 x0 rfl
          have e3 := Blk.ul E3 2 y2 rfl
          have e4 := Blk.frozen E1 2
          have pr : (x0 : Int) * (y2 : Int) = (p02 : Int) := by rw [← Int.natCast_mul]; exact congrArg _ HP.out.e02
          have pb := HP.out.b02
          obtain ⟨t0, ht0⟩ : ∃ t, (n2 + p02 + c) % 4294967296 = t := ⟨_, rfl⟩
          obtain ⟨t1, ht1⟩ : ∃ t, (n2 + p02 + c) / 4294967296 = t := ⟨_, rfl⟩
          have mk : bits BinOp.and IntKind.u64 ((n2 : Int) + (p02 : Int) + (c : Int)) 4294967295 = (t0 : Int) := by have := mask32 (n2 + p02 + c) (by omega); rw [ht0] at this; exact this
          have dv : ((n2 : Int) + (p02 : Int) + (c : Int)) / 4294967296 = (t1 : Int) := by omega
          have HE1 := Lib.hid E1
          have HE2 := Lib.hid E2
          have HE3 := Lib.hid E3
          have HE0 := Lib.hid E0
          have HEB := Lib.hid EB
          have HN : Hid (Mul p00 p01 p02 p03 p10 p11 p12 0 3 n0 n1 t0 n3 t1) := by
            have hdm : t0 + t1 * 4294967296 = n2 + p02 + c := by omega
            refine Lib.hid ⟨by omega, by omega, by omega, by omega, by omega, ?_⟩
            clear ht0 ht1 mk dv pr
            simp only [Acc, pw, Nat.mul_one] at heq ⊢
            grind
          clear E0 E1 E2 E3 EB heq ht0 ht1
          go_wp2_with fail
          go_quiet (fail)
          go_wp2_with fail
          go_roundw
          case rel => exact ⟨3, n0, n1, t0, n3, t1, rfl, by omega, rfl, HN.out, Blk.far (w := wr.drewN _) HE0.out (by dsimp only; omega) _, Blk.ulSet (w := wr.drewN _) HE1.out 2 t0, Blk.far (w := wr.drewN _) HE2.out (by dsimp only; omega) _, Blk.far (w := wr.drewN _) HE3.out (by dsimp only; omega) _, (below_drewN HEB.out _).setCell (by dsimp only; omega) _⟩
          case measure => decide
        · obtain ⟨b0, b1, b2, b3, bc, heq⟩ := hmul
          have e1 := Blk.ul E1 3 n3 rfl
          have e2 := Blk.ul E2 0 x0 rfl
          have e3 := Blk.ul E3 3 y3 rfl
          have e4 := Blk.frozen E1 3
          have pr : (x0 : Int) * (y3 : Int) = (p03 : Int) := by rw [← Int.natCast_mul]; exact congrArg _ HP.out.e03
          have pb := HP.out.b03
          obtain ⟨t0, ht0⟩ : ∃ t, (n3 + p03 + c) % 4294967296 = t := ⟨_, rfl⟩
          obtain ⟨t1, ht1⟩ : ∃ t, (n3 + p03 + c) / 4294967296 = t := ⟨_, rfl⟩
          have mk : bits BinOp.and IntKind.u64 ((n3 : Int) + (p03 : Int) + (c : Int)) 4294967295 = (t0 : Int) := by have := mask32 (n3 + p03 + c) (by omega); rw [ht0] at this; exact this
          have dv : ((n3 : Int) + (p03 : Int) + (c : Int)) / 4294967296 = (t1 : Int) := by omega
          have HE1 := Lib.hid E1
          have HE2 := Lib.hid E2
          have HE3 := Lib.hid E3
          have HE0 := Lib.hid E0
          have HEB := Lib.hid EB
          have HN : Hid (Mul p00 p01 p02 p03 p10 p11 p12 0 4 n0 n1 n2 t0 t1) := by
            have hdm : t0 + t1 * 4294967296 = n3 + p03 + c := by omega
            refine Lib.hid ⟨by omega, by omega, by omega, by omega, by omega, ?_⟩
            clear ht0 ht1 mk dv pr
            simp only [Acc, pw, Nat.mul_one] at heq ⊢
            grind
          clear E0 E1 E2 E3 EB heq ht0 ht1
          go_wp2_with fail
          go_quiet (fail)
          go_wp2_with fail
          go_roundw
          case rel => exact ⟨4, n0, n1, n2, t0, t1, rfl, by omega, rfl, HN.out, Blk.far (w := wr.drewN _) HE0.out (by dsimp only; omega) _, Blk.ulSet (w := wr.drewN _) HE1.out 3 t0, Blk.far (w := wr.drewN _) HE2.out (by dsimp only; omega) _, Blk.far (w := wr.drewN _) HE3.out (by dsimp only; omega) _, (below_drewN HEB.out _).setCell (by dsimp only; omega) _⟩
          case measure => decide
        · have HM := Lib.hid (mul_turn HF.out hmul)
          have HE1 := Lib.hid E1
          have HE2 := Lib.hid E2
          have HE3 := Lib.hid E3
          have HE0 := Lib.hid E0
          have HEB := Lib.hid EB
          clear E0 E1 E2 E3 EB hmul
          go_wp2_with fail
          go_roundw
          case rel => exact ⟨1, n0, n1, n2, n3, rfl, by omega, .inr (.inl ⟨rfl, HM.out⟩), HE0.out, HE1.out, HE2.out, HE3.out, HEB.out⟩
          case measure => decide
    · have HE1 := Lib.hid E1
      have HE2 := Lib.hid E2
      have HE3 := Lib.hid E3
      have HE0 := Lib.hid E0
      have HEB := Lib.hid EB
      have HM := Lib.hid hmul
      clear E0 E1 E2 E3 EB hmul
      go_wp2_with fail
      go_loopw [11, 12, 13] (fun cv k _ wr => ∃ (q n0 n1 n2 n3 c : Nat), k = .int .i64 q ∧ q ≤ 3 ∧ cv = .int .u64 (c : Int) ∧ Mul p00 p01 p02 p03 p10 p11 p12 1 q n0 n1 n2 n3 c ∧ Blk wr w.heap.size 129 (ul [0, 0]) ∧ Blk wr (w.heap.size + 1) 151 (ul [n0, n1, n2, n3]) ∧ Blk wr (w.heap.size + 1 + 1) 129 (ul [x0, x1]) ∧ Blk wr (w.heap.size + 1 + 1 + 1) 151 (ul [y0, y1, y2, y3]) ∧ Below w.heap.size w wr)
        (fun _ k _ _ => 3 - (intOf k).toNat)
      case atStart => exact ⟨0, n0, n1, n2, n3, 0, rfl, by omega, rfl, HM.out, HE0.out, HE1.out, HE2.out, HE3.out, HEB.out⟩
      case round =>
        clear HM HE0 HE1 HE2 HE3 HEB
        obtain ⟨q, n0, n1, n2, n3, c, rfl, hq, rfl, hmul, E0, E1, E2, E3, EB⟩ := hrel
        rcases (by omega : q = 0 ∨ q = 1 ∨ q = 2 ∨ q = 3) with rfl | rfl | rfl | rfl
        · obtain ⟨b0, b1, b2, b3, bc, heq⟩ := hmul
          have e1 := Blk.ul E1 1 n1 rfl
          have e2 := Blk.ul E2 1 x1 rfl
          have e3 := Blk.ul E3 0 y0 rfl
          have e4 := Blk.frozen E1 1
          have pr : (x1 : Int) * (y0 : Int) = (p10 : Int) := by rw [← Int.natCast_mul]; exact congrArg _ HP.out.e10
          have pb := HP.out.b10
          obtain ⟨t0, ht0⟩ : ∃ t, (n1 + p10 + c) % 4294967296 = t := ⟨_, rfl⟩
          obtain ⟨t1, ht1⟩ : ∃ t, (n1 + p10 + c) / 4294967296 = t := ⟨_, rfl⟩
          have mk : bits BinOp.and IntKind.u64 ((n1 : Int) + (p10 : Int) + (c : Int)) 4294967295 = (t0 : Int) := by have := mask32 (n1 + p10 + c) (by omega); rw [ht0] at this; exact this
          have dv : ((n1 : Int) + (p10 : Int) + (c : Int)) / 4294967296 = (t1 : Int) := by omega
          have HE1 := Lib.hid E1
          have HE2 := Lib.hid E2
          have HE3 := Lib.hid E3
          have HE0 := Lib.hid E0
          have HEB := Lib.hid EB
          have HN : Hid (Mul p00 p01 p02 p03 p10 p11 p12 1 1 n0 t0 n2 n3 t1) := by
            have hdm : t0 + t1 * 4294967296 = n1 + p10 + c := by omega
            refine Lib.hid ⟨by omega, by omega, by omega, by omega, by omega, ?_⟩
            clear ht0 ht1 mk dv pr
            simp only [Acc, pw, Nat.mul_one] at heq ⊢
            grind
          clear E0 E1 E2 E3 EB heq ht0 ht1
          go_wp2_with fail
          go_quiet (fail)
          go_wp2_with fail
          go_roundw
          case rel => exact ⟨1, n0, t0, n2, n3, t1, rfl, by omega, rfl, HN.out, Blk.far (w := wr.drewN _) HE0.out (by dsimp only; omega) _, Blk.ulSet (w := wr.drewN _) HE1.out 1 t0, Blk.far (w := wr.drewN _) HE2.out (by dsimp only; omega) _, Blk.far (w := wr.drewN _) HE3.out (by dsimp only; omega) _, (below_drewN HEB.out _).setCell (by dsimp only; omega) _⟩
          case measure => decide
        · obtain ⟨b0, b1, b2, b3, bc, heq⟩ := hmul
          have e1 := Blk.ul E1 2 n2 rfl
          have e2 := Blk.ul E2 1 x1 rfl
          have e3 := Blk.ul E3 1 y1 rfl
          have e4 := Blk.frozen E1 2
          have pr : (x1 : Int) * (y1 : Int) = (p11 : Int) := by rw [← Int.natCast_mul]; exact congrArg _ HP.out.e11
          have pb := HP.out.b11
          obtain ⟨t0, ht0⟩ : ∃ t, (n2 + p11 + c) % 4294967296 = t := ⟨_, rfl⟩
          obtain ⟨t1, ht1⟩ : ∃ t, (n2 + p11 + c) / 4294967296 = t := ⟨_, rfl⟩
          have mk : bits BinOp.and IntKind.u64 ((n2 : Int) + (p11 : Int) + (c : Int)) 4294967295 = (t0 : Int) := by have := mask32 (n2 + p11 + c) (by omega); rw [ht0] at this; exact this
          have dv : ((n2 : Int) + (p11 : Int) + (c : Int)) / 4294967296 = (t1 : Int) := by omega
          have HE1 := Lib.hid E1
          have HE2 := Lib.hid E2
          have HE3 := Lib.hid E3
          have HE0 := Lib.hid E0
          have HEB := Lib.hid EB
          have HN : Hid (Mul p00 p01 p02 p03 p10 p11 p12 1 2 n0 n1 t0 n3 t1) := by
            have hdm : t0 + t1 * 4294967296 = n2 + p11 + c := by omega
            refine Lib.hid ⟨by omega, by omega, by omega, by omega, by omega, ?_⟩
            clear ht0 ht1 mk dv pr
            simp only [Acc, pw, Nat.mul_one] at heq ⊢
            grind
          clear E0 E1 E2 E3 EB heq ht0 ht1
          go_wp2_with fail
          go_quiet (fail)
          go_wp2_with fail
          go_roundw
          case rel => exact ⟨2, n0, n1, t0, n3, t1, rfl, by omega, rfl, HN.out, Blk.far (w := wr.drewN _) HE0.out (by dsimp only; omega) _, Blk.ulSet (w := wr.drewN _) HE1.out 2 t0, Blk.far (w := wr.drewN _) HE2.out (by dsimp only; omega) _, Blk.far (w := wr.drewN _) HE3.out (by dsimp only; omega) _, (below_drewN HEB.out _).setCell (by dsimp only; omega) _⟩
          case measure => decide
        · obtain ⟨b0, b1, b2, b3, bc, heq⟩ := hmul
          have e1 := Blk.ul E1 3 n3 rfl
          have e2 := Blk.ul E2 1 x1 rfl
          have e3 := Blk.ul E3 2 y2 rfl
          have e4 := Blk.frozen E1 3
          have pr : (x1 : Int) * (y2 : Int) = (p12 : Int) := by rw [← Int.natCast_mul]; exact congrArg _ HP.out.e12
          have pb := HP.out.b12
          obtain ⟨t0, ht0⟩ : ∃ t, (n3 + p12 + c) % 4294967296 = t := ⟨_, rfl⟩
          obtain ⟨t1, ht1⟩ : ∃ t, (n3 + p12 + c) / 4294967296 = t := ⟨_, rfl⟩
          have mk : bits BinOp.and IntKind.u64 ((n3 : Int) + (p12 : Int) + (c : Int)) 4294967295 = (t0 : Int) := by have := mask32 (n3 + p12 + c) (by omega); rw [ht0] at this; exact this
          have dv : ((n3 : Int) + (p12 : Int) + (c : Int)) / 4294967296 = (t1 : Int) := by omega
          have HE1 := Lib.hid E1
          have HE2 := Lib.hid E2
          have HE3 := Lib.hid E3
          have HE0 := Lib.hid E0
          have HEB := Lib.hid EB
          have HN : Hid (Mul p00 p01 p02 p03 p10 p11 p12 1 3 n0 n1 n2 t0 t1) := by
            have hdm : t0 + t1 * 4294967296 = n3 + p12 + c := by omega
            refine Lib.hid ⟨by omega, by omega, by omega, by omega, by omega, ?_⟩
            clear ht0 ht1 mk dv pr
            simp only [Acc, pw, Nat.mul_one] at heq ⊢
            grind
          clear E0 E1 E2 E3 EB heq ht0 ht1
          go_wp2_with fail
          go_quiet (fail)
          go_wp2_with fail
          go_roundw
          case rel => exact ⟨3, n0, n1, n2, t0, t1, rfl, by omega, rfl, HN.out, Blk.far (w := wr.drewN _) HE0.out (by dsimp only; omega) _, Blk.ulSet (w := wr.drewN _) HE1.out 3 t0, Blk.far (w := wr.drewN _) HE2.out (by dsimp only; omega) _, Blk.far (w := wr.drewN _) HE3.out (by dsimp only; omega) _, (below_drewN HEB.out _).setCell (by dsimp only; omega) _⟩
          case measure => decide
        · have HM := Lib.hid (mul_last HF.out hmul)
          have HE1 := Lib.hid E1
          have HE2 := Lib.hid E2
          have HE3 := Lib.hid E3
          have HE0 := Lib.hid E0
          have HEB := Lib.hid EB
          clear E0 E1 E2 E3 EB hmul
          go_wp2_with fail
          go_roundw
          case rel => exact ⟨2, n0, n1, n2, n3, rfl, by omega, .inr (.inr ⟨rfl, HM.out⟩), HE0.out, HE1.out, HE2.out, HE3.out, HEB.out⟩
          case measure => decide
    · obtain ⟨o1, o2⟩ := mul_out HF.out hmul
      obtain ⟨b0, b1, b2, b3, _, _⟩ := hmul
      have e0 := Blk.ul E1 0 n0 rfl
      have e1 := Blk.ul E1 1 n1 rfl
      have e2 := Blk.ul E1 2 n2 rfl
      have e3 := Blk.ul E1 3 n3 rfl
      have s1 : (n3 : Int) * 4294967296 % 18446744073709551616 = (n3 : Int) * 4294967296 := by omega
      have s2 : (n1 : Int) * 4294967296 % 18446744073709551616 = (n1 : Int) * 4294967296 := by omega
      obtain ⟨h1, hh1⟩ : ∃ h, n2 + n3 * 4294967296 = h := ⟨_, rfl⟩
      obtain ⟨l1, hl1⟩ : ∃ h, n0 + n1 * 4294967296 = h := ⟨_, rfl⟩
      have t1 : (n2 : Int) + (n3 : Int) * 4294967296 = (h1 : Int) := by omega
      have t2 : (n0 : Int) + (n1 : Int) * 4294967296 = (l1 : Int) := by omega
      have u1 : h1 < 18446744073709551616 := by omega
      have u2 : l1 < 18446744073709551616 := by omega
      have O1 := Lib.hid (o1.trans hh1)
      have O2 := Lib.hid (o2.trans hl1)
      have HE0 := Lib.hid E0
      have HEB := Lib.hid EB
      have e5 := Blk.ul E0 0 0 rfl
      have e6 := Blk.ul E0 1 0 rfl
      have f5 := Blk.frozen E0 0
      have f6 := Blk.frozen E0 1
      clear E0 E1 E2 E3 EB o1 o2 hh1 hl1
      go_wp2_with fail
      refine bodyPost_ret (results_cell_row rfl _ _ w.heap.size 129 (ul [h1, l1]) (0, 0) _ rfl ((HE0.out.ulSet 0 h1).ulSet 1 l1) Tryz.underlying129 rfl (by rw [ul_size]; exact sz2)) rfl ?_
      exact ⟨by rw [O1.out, O2.out], (HEB.out.setCell (Nat.le_refl _) _).setCell (Nat.le_refl _) _⟩
end Go.Proofs.YtfjdcopndkdbmaaGreatDoor

namespace Go.Proofs.YtfjdcopndkdbmaaGreatDoor
open Go.RowKit

/-- Is it too great? -/
def over (p t : Nat) (third : Bool) : Bool := if third then decide (p * 2 ^ 96 < t ^ 3) else decide (p * 2 ^ 64 < t ^ 2)
theorem rootFrom_step (p : Nat) (third : Bool) (b r : Nat) : Sh.rootFrom p third (b + 1) r = Sh.rootFrom p third b (if over p (r + 2 ^ b) third then r else r + 2 ^ b) := by
  rw [Sh.rootFrom]
  congr 1
  unfold over
  cases third
  · simp only [Bool.false_eq_true, if_false, decide_eq_true_eq]
    by_cases h : (r + 2 ^ b) ^ 2 ≤ p * 2 ^ 64
    · rw [if_pos h, if_neg (by omega)]
    · rw [if_neg h, if_pos (by omega)]
  · simp only [if_true, decide_eq_true_eq]
    by_cases h : (r + 2 ^ b) ^ 3 ≤ p * 2 ^ 96
    · rw [if_pos h, if_neg (by omega)]
    · rw [if_neg h, if_pos (by omega)]
def nxt (k x s : Nat) (v : Bool) : Nat := if k ≤ 34 ∧ v = false then x + s else x
theorem root_next {p k x s R0 : Nat} {third : Bool} (hx : x + 2 ^ (min (k + 1) 35) ≤ 2 ^ 35) (h35 : 35 ≤ k + 1 → x = 0) (hs : 2 ^ k = s ∧ Sh.rootFrom p third (min (k + 1) 35) x = R0) (v : Bool) (hv : over p (x + s) third = v) :
    nxt k x s v + 2 ^ (min k 35) ≤ 2 ^ 35 ∧ (35 ≤ k → nxt k x s v = 0) ∧ Sh.rootFrom p third (min k 35) (nxt k x s v) = R0 := by
  obtain ⟨rfl, hr⟩ := hs
  by_cases hk : k ≤ 34
  · have e1 : min (k + 1) 35 = k + 1 := by omega
    have e2 : min k 35 = k := by omega
    rw [e1] at hx hr
    rw [e2]
    rw [rootFrom_step, hv] at hr
    have e3 : (2 : Nat) ^ (k + 1) = 2 ^ k + 2 ^ k := by rw [Nat.pow_succ]; omega
    rw [e3] at hx
    have hpos := Nat.two_pow_pos k
    unfold nxt
    cases v
    · rw [if_pos ⟨hk, rfl⟩]
      exact ⟨by omega, fun h => by omega, hr⟩
    · rw [if_neg (by simp)]
      exact ⟨by omega, fun h => by omega, hr⟩
  · have e1 : min (k + 1) 35 = 35 := by omega
    have e2 : min k 35 = 35 := by omega
    rw [e1] at hx hr
    rw [e2]
    unfold nxt
    rw [if_neg (fun h => hk h.1)]
    exact ⟨hx, fun _ => h35 (by omega), hr⟩
theorem ul_one (l : List Nat) : (ul l).all (·.oneCell') = true := by simp [ul, cn, Value.oneCell']
theorem cmp4 (p q0 q1 : Nat) : p < q0 ∨ (¬ p < q0 ∧ q0 = p ∧ 0 < q1) ∨ (¬ p < q0 ∧ q0 = p ∧ q1 = 0) ∨ (¬ p < q0 ∧ q0 ≠ p) := by omega
theorem sq_over (p t q0 q1 : Nat) (h0 : t * t / 18446744073709551616 = q0) (h1 : t * t % 18446744073709551616 = q1) : over p t false = decide (p < q0 ∨ (q0 = p ∧ 0 < q1)) := by
  unfold over
  simp only [Bool.false_eq_true, if_false]
  rw [Nat.pow_two]
  generalize t * t = T at h0 h1 ⊢
  congr 1
  apply propext
  constructor <;> intro h <;> omega
set_option maxRecDepth 100000 in
set_option maxHeartbeats 8000000 in
theorem root_sq (p : Nat) (w : World) :
    Calls Tryz.prog 73 #[.int .u64 (p : Int), .bool false] w fun e w' => e = .returned (.int .u32 (R (BitVec.ofNat 32 (Sh.root p false)))) ∧ Below w.heap.size w w' := by
  go_enter Tryz.func73, Tryz.ntmps73
  go_wp2_with fail
  go_loopw [5, 6, 7, 8, 9] (fun r b _ _ _ wr => ∃ (x : Nat) (z : Int) (m : Nat), r = .int .u64 x ∧ b = .int .i64 z ∧ m = (z + 1).toNat ∧ -1 ≤ z ∧ z ≤ 36 ∧ x + 2 ^ (min m 35) ≤ 2 ^ 35 ∧ (35 ≤ m → x = 0) ∧ Sh.rootFrom p false (min m 35) x = Sh.rootFrom p false 35 0 ∧ Below w.heap.size w wr)
    (fun _ b _ _ _ _ => (intOf b + 1).toNat)
  case atStart => exact ⟨0, 36, 37, rfl, rfl, rfl, by omega, by omega, by decide, fun _ => rfl, rfl, Below.refl _ _⟩
  case round =>
    obtain ⟨x, z, m, rfl, rfl, hm, hz1, hz2, hx, h35, hrf, hb⟩ := hrel
    by_cases hz : 0 ≤ z
    · obtain ⟨k, rfl⟩ : ∃ k : Nat, z = (k : Int) := ⟨z.toNat, by omega⟩
      have hk : k ≤ 36 := by omega
      have hm' : m = k + 1 := by omega
      subst hm'
      have hpw : (2 : Nat) ^ k ≤ 68719476736 := Nat.pow_le_pow_right (by decide) hk
      obtain ⟨s, hs⟩ : ∃ s, 2 ^ k = s := ⟨_, rfl⟩
      have hx35 : x ≤ 34359738368 := by have h1 : (2 : Nat) ^ 35 = 34359738368 := rfl; have h2 := Nat.two_pow_pos (min (k + 1) 35); omega
      have HX := Lib.hid (And.intro hx (And.intro h35 (And.intro hs hrf)))
      rw [hs] at hpw
      have hw : IntKind.u64.wrap ((2 : Int) ^ k) = (s : Int) := by
        rw [show ((2 : Int) ^ k) = ((2 ^ k : Nat) : Int) by simp, hs, IntKind.wrap_u64]
        omega
      obtain ⟨tt, htt⟩ : ∃ t, x + s = t := ⟨_, rfl⟩
      have hti : (x : Int) + (s : Int) = (tt : Int) := by omega
      have htl : tt < 274877906944 := by omega
      have HTT := Lib.hid htt
      have HB := Lib.hid hb
      have HT := Lib.hid (fun W => times_any tt 0 tt htl (by decide) (by omega) W)
      rw [Nat.zero_mul, Nat.zero_add] at HT
      obtain ⟨q0, hq0⟩ : ∃ q, tt * tt / 18446744073709551616 = q := ⟨_, rfl⟩
      obtain ⟨q1, hq1⟩ : ∃ q, tt * tt % 18446744073709551616 = q := ⟨_, rfl⟩
      have HOV := Lib.hid (sq_over p tt q0 q1 hq0 hq1)
      have hq0l : q0 < 18446744073709551616 := by
        have := Nat.mul_le_mul (show tt ≤ 274877906943 by omega) (show tt ≤ 274877906943 by omega)
        omega
      have hq1l : q1 < 18446744073709551616 := by omega
      rw [hq0, hq1] at HT
      rw [← htt] at HOV
      clear hb hx h35 hrf hs htt hq0 hq1
      go_wp2_with fail
      refine (HT.out _).mono ?_
      rintro e w2 ⟨rfl, hb2⟩
      have HB2 := Lib.hid ((HB.out.trans (hb2.mono HB.out.size)))
      have hsz2 := HB.out.size
      have hle2 := hb2.size
      clear hb2 HT
      have hbk := (Blk.new w2 129 #[.int .u64 0, .int .u64 0]).row (ul [q0, q1])
      have c0 := Blk.ul hbk 0 q0 rfl
      have c1 := Blk.ul hbk 1 q1 rfl
      have HB3 := Lib.hid (Kept.below HB2.out (Kept.setRow (S := fun b => w2.heap.size ≤ b) (Kept.alloc (Kept.refl _ w2) (.cells #[.int .u64 0, .int .u64 0] 129)) (.inl (Nat.le_refl _)) (ul [q0, q1])) (fun _ h => Nat.le_trans hsz2 (Nat.le_trans hle2 h)) HB2.out.size)
      clear hbk hsz2 hle2
      rcases cmp4 p q0 q1 with hA | ⟨hA, hB, hC⟩ | ⟨hA, hB, hC⟩ | ⟨hA, hB⟩
      · have f1 : (p : Int) < (q0 : Int) := by omega
        have hov : over p (x + s) false = true := by rw [HOV.out]; exact decide_eq_true (by omega)
        clear hA
        by_cases hk34 : k ≤ 34
        · have hz34 : (k : Int) ≤ 34 := by omega
          have HNX := Lib.hid (root_next HX.out.1 HX.out.2.1 HX.out.2.2 true hov)
          have hnx : nxt k x s true = x := by unfold nxt; simp [hk34]
          rw [hnx] at HNX
          clear hov hnx
          have n1 : decide (p < q0) = true := by simp; omega
          go_wp2_with (refine wpList_store_row rfl 129 _ _ rfl w2.heap.size (ul [q0, q1]) rfl rfl 129 _ (Blk.new w2 _ _) (by rw [ul_size]; exact sz2) rfl (ul_one _) (Hid.out ?_))
          refine Lib.hid ?_
          go_wp2_with fail
          go_roundw
          case rel => exact ⟨x, (k : Int) - 1, k, rfl, rfl, by omega, by omega, by omega, HNX.out.1, HNX.out.2.1, HNX.out.2.2, HB3.out⟩
          case measure => simp [intOf] <;> omega
        · have hz34 : ¬ (k : Int) ≤ 34 := by omega
          have HNX := Lib.hid (root_next HX.out.1 HX.out.2.1 HX.out.2.2 true hov)
          have hnx : nxt k x s true = x := by unfold nxt; simp [hk34]
          rw [hnx] at HNX
          clear hov hnx
          have n1 : decide (p < q0) = true := by simp; omega
          go_wp2_with (refine wpList_store_row rfl 129 _ _ rfl w2.heap.size (ul [q0, q1]) rfl rfl 129 _ (Blk.new w2 _ _) (by rw [ul_size]; exact sz2) rfl (ul_one _) (Hid.out ?_))
          refine Lib.hid ?_
          go_wp2_with fail
          go_roundw
          case rel => exact ⟨x, (k : Int) - 1, k, rfl, rfl, by omega, by omega, by omega, HNX.out.1, HNX.out.2.1, HNX.out.2.2, HB3.out⟩
          case measure => simp [intOf] <;> omega
      · have f1 : ¬ (p : Int) < (q0 : Int) := by omega
        have f2 : ((q0 : Int) == (p : Int)) = true := beq_iff_eq.2 (by omega)
        have f3 : (0 : Int) < (q1 : Int) := by omega
        have hov : over p (x + s) false = true := by rw [HOV.out]; exact decide_eq_true (by omega)
        clear hA hB hC
        by_cases hk34 : k ≤ 34
        · have hz34 : (k : Int) ≤ 34 := by omega
          have HNX := Lib.hid (root_next HX.out.1 HX.out.2.1 HX.out.2.2 true hov)
          have hnx : nxt k x s true = x := by unfold nxt; simp [hk34]
          rw [hnx] at HNX
          clear hov hnx
          have n1 : decide (p < q0) = false := by simp; omega
          have n3 : decide (0 < q1) = true := by simp; omega
          go_wp2_with (refine wpList_store_row rfl 129 _ _ rfl w2.heap.size (ul [q0, q1]) rfl rfl 129 _ (Blk.new w2 _ _) (by rw [ul_size]; exact sz2) rfl (ul_one _) (Hid.out ?_))
          refine Lib.hid ?_
          go_wp2_with fail
          go_roundw
          case rel => exact ⟨x, (k : Int) - 1, k, rfl, rfl, by omega, by omega, by omega, HNX.out.1, HNX.out.2.1, HNX.out.2.2, HB3.out⟩
          case measure => simp [intOf] <;> omega
        · have hz34 : ¬ (k : Int) ≤ 34 := by omega
          have HNX := Lib.hid (root_next HX.out.1 HX.out.2.1 HX.out.2.2 true hov)
          have hnx : nxt k x s true = x := by unfold nxt; simp [hk34]
          rw [hnx] at HNX
          clear hov hnx
          have n1 : decide (p < q0) = false := by simp; omega
          have n3 : decide (0 < q1) = true := by simp; omega
          go_wp2_with (refine wpList_store_row rfl 129 _ _ rfl w2.heap.size (ul [q0, q1]) rfl rfl 129 _ (Blk.new w2 _ _) (by rw [ul_size]; exact sz2) rfl (ul_one _) (Hid.out ?_))
          refine Lib.hid ?_
          go_wp2_with fail
          go_roundw
          case rel => exact ⟨x, (k : Int) - 1, k, rfl, rfl, by omega, by omega, by omega, HNX.out.1, HNX.out.2.1, HNX.out.2.2, HB3.out⟩
          case measure => simp [intOf] <;> omega
      · have f1 : ¬ (p : Int) < (q0 : Int) := by omega
        have f2 : ((q0 : Int) == (p : Int)) = true := beq_iff_eq.2 (by omega)
        have f3 : ¬ (0 : Int) < (q1 : Int) := by omega
        have hov : over p (x + s) false = false := by rw [HOV.out]; exact decide_eq_false (by omega)
        clear hA hB hC
        by_cases hk34 : k ≤ 34
        · have hz34 : (k : Int) ≤ 34 := by omega
          have HNX := Lib.hid (root_next HX.out.1 HX.out.2.1 HX.out.2.2 false hov)
          have hnx : nxt k x s false = x + s := by unfold nxt; simp [hk34]
          rw [hnx] at HNX
          clear hov hnx
          have n1 : decide (p < q0) = false := by simp; omega
          have n3 : decide (0 < q1) = false := by simp; omega
          go_wp2_with (refine wpList_store_row rfl 129 _ _ rfl w2.heap.size (ul [q0, q1]) rfl rfl 129 _ (Blk.new w2 _ _) (by rw [ul_size]; exact sz2) rfl (ul_one _) (Hid.out ?_))
          refine Lib.hid ?_
          go_wp2_with fail
          go_roundw
          case rel => exact ⟨x + s, (k : Int) - 1, k, by rw [← HTT.out], rfl, by omega, by omega, by omega, HNX.out.1, HNX.out.2.1, HNX.out.2.2, HB3.out⟩
          case measure => simp [intOf] <;> omega
        · have hz34 : ¬ (k : Int) ≤ 34 := by omega
          have HNX := Lib.hid (root_next HX.out.1 HX.out.2.1 HX.out.2.2 false hov)
          have hnx : nxt k x s false = x := by unfold nxt; simp [hk34]
          rw [hnx] at HNX
          clear hov hnx
          have n1 : decide (p < q0) = false := by simp; omega
          have n3 : decide (0 < q1) = false := by simp; omega
          go_wp2_with (refine wpList_store_row rfl 129 _ _ rfl w2.heap.size (ul [q0, q1]) rfl rfl 129 _ (Blk.new w2 _ _) (by rw [ul_size]; exact sz2) rfl (ul_one _) (Hid.out ?_))
          refine Lib.hid ?_
          go_wp2_with fail
          go_roundw
          case rel => exact ⟨x, (k : Int) - 1, k, rfl, rfl, by omega, by omega, by omega, HNX.out.1, HNX.out.2.1, HNX.out.2.2, HB3.out⟩
          case measure => simp [intOf] <;> omega
      · have f1 : ¬ (p : Int) < (q0 : Int) := by omega
        have f2 : ((q0 : Int) == (p : Int)) = false := beq_eq_false_iff_ne.2 (by omega)
        have hov : over p (x + s) false = false := by rw [HOV.out]; exact decide_eq_false (by omega)
        clear hA hB
        by_cases hk34 : k ≤ 34
        · have hz34 : (k : Int) ≤ 34 := by omega
          have HNX := Lib.hid (root_next HX.out.1 HX.out.2.1 HX.out.2.2 false hov)
          have hnx : nxt k x s false = x + s := by unfold nxt; simp [hk34]
          rw [hnx] at HNX
          clear hov hnx
          have n1 : decide (p < q0) = false := by simp; omega
          have n2 : decide (q0 = p) = false := by have := beq_eq_false_iff_ne.1 f2; simp; omega
          go_wp2_with (refine wpList_store_row rfl 129 _ _ rfl w2.heap.size (ul [q0, q1]) rfl rfl 129 _ (Blk.new w2 _ _) (by rw [ul_size]; exact sz2) rfl (ul_one _) (Hid.out ?_))
          refine Lib.hid ?_
          go_wp2_with fail
          go_roundw
          case rel => exact ⟨x + s, (k : Int) - 1, k, by rw [← HTT.out], rfl, by omega, by omega, by omega, HNX.out.1, HNX.out.2.1, HNX.out.2.2, HB3.out⟩
          case measure => simp [intOf] <;> omega
        · have hz34 : ¬ (k : Int) ≤ 34 := by omega
          have HNX := Lib.hid (root_next HX.out.1 HX.out.2.1 HX.out.2.2 false hov)
          have hnx : nxt k x s false = x := by unfold nxt; simp [hk34]
          rw [hnx] at HNX
          clear hov hnx
          have n1 : decide (p < q0) = false := by simp; omega
          have n2 : decide (q0 = p) = false := by have := beq_eq_false_iff_ne.1 f2; simp; omega
          go_wp2_with (refine wpList_store_row rfl 129 _ _ rfl w2.heap.size (ul [q0, q1]) rfl rfl 129 _ (Blk.new w2 _ _) (by rw [ul_size]; exact sz2) rfl (ul_one _) (Hid.out ?_))
          refine Lib.hid ?_
          go_wp2_with fail
          go_roundw
          case rel => exact ⟨x, (k : Int) - 1, k, rfl, rfl, by omega, by omega, by omega, HNX.out.1, HNX.out.2.1, HNX.out.2.2, HB3.out⟩
          case measure => simp [intOf] <;> omega

    · have hz0 : ¬ (0 : Int) ≤ z := hz
      have hm0 : m = 0 := by omega
      subst hm0
      have HB := Lib.hid hb
      have hfin : Sh.rootFrom p false 0 x = Sh.rootFrom p false 35 0 := hrf
      have hr : Sh.root p false = x % 4294967296 := by unfold Sh.root; rw [← hfin]; rfl
      have HR := Lib.hid hr
      have hx35 : x ≤ 34359738368 := by have h1 : (2 : Nat) ^ 35 = 34359738368 := rfl; have h2 : (2 : Nat) ^ (min 0 35) = 1 := rfl; omega
      have mk := mask32 x (by omega)
      obtain ⟨y, hy⟩ : ∃ y, x % 4294967296 = y := ⟨_, rfl⟩
      rw [hy] at mk hr
      have hyl : y < 4294967296 := by omega
      have hR : R (BitVec.ofNat 32 (Sh.root p false)) = (y : Int) := by rw [hr]; unfold R; rw [BitVec.toNat_ofNat]; omega
      have HRR := Lib.hid hR
      clear hb hrf hfin hr hx h35 hR hy
      go_wp2_with fail
      go_ret
      exact ⟨by rw [HRR.out]; rfl, HB.out⟩
end Go.Proofs.YtfjdcopndkdbmaaGreatDoor

namespace Go.Proofs.YtfjdcopndkdbmaaGreatDoor
open Go.RowKit

theorem cmp5 (p y z q3 : Nat) : p < y ∨ (¬ p < y ∧ y = p ∧ 0 < z) ∨ (¬ p < y ∧ y = p ∧ z = 0 ∧ 0 < q3) ∨ (¬ p < y ∧ y = p ∧ z = 0 ∧ q3 = 0) ∨ (¬ p < y ∧ y ≠ p) := by omega
theorem cb_over (p t q0 q1 q2 q3 y z : Nat) (h0 : t * t / 18446744073709551616 = q0) (h1 : t * t % 18446744073709551616 = q1) (h2 : t * (q0 * 18446744073709551616 + q1) / 18446744073709551616 = q2) (h3 : t * (q0 * 18446744073709551616 + q1) % 18446744073709551616 = q3) (hy : q2 / 4294967296 = y) (hz : q2 % 4294967296 = z) : over p t true = decide (p < y ∨ (y = p ∧ (0 < z ∨ 0 < q3))) := by
  unfold over
  simp only [if_true]
  have hT : q0 * 18446744073709551616 + q1 = t * t := by omega
  rw [hT] at h2 h3
  rw [show t ^ 3 = t * (t * t) by rw [Nat.pow_succ, Nat.pow_two, Nat.mul_comm]]
  generalize t * (t * t) = T at h2 h3 ⊢
  clear hT h0 h1
  congr 1
  apply propext
  constructor <;> intro h <;> omega
set_option maxRecDepth 100000 in
set_option maxHeartbeats 8000000 in
theorem root_cb (p : Nat) (w : World) :
    Calls Tryz.prog 73 #[.int .u64 (p : Int), .bool true] w fun e w' => e = .returned (.int .u32 (R (BitVec.ofNat 32 (Sh.root p true)))) ∧ Below w.heap.size w w' := by
  go_enter Tryz.func73, Tryz.ntmps73
  go_wp2_with fail
  go_loopw [5, 6, 7, 8, 9] (fun r b _ _ _ wr => ∃ (x : Nat) (z : Int) (m : Nat), r = .int .u64 x ∧ b = .int .i64 z ∧ m = (z + 1).toNat ∧ -1 ≤ z ∧ z ≤ 36 ∧ x + 2 ^ (min m 35) ≤ 2 ^ 35 ∧ (35 ≤ m → x = 0) ∧ Sh.rootFrom p true (min m 35) x = Sh.rootFrom p true 35 0 ∧ Below w.heap.size w wr)
    (fun _ b _ _ _ _ => (intOf b + 1).toNat)
  case atStart => exact ⟨0, 36, 37, rfl, rfl, rfl, by omega, by omega, by decide, fun _ => rfl, rfl, Below.refl _ _⟩
  case round =>
    obtain ⟨x, z, m, rfl, rfl, hm, hz1, hz2, hx, h35, hrf, hb⟩ := hrel
    by_cases hz : 0 ≤ z
    · obtain ⟨k, rfl⟩ : ∃ k : Nat, z = (k : Int) := ⟨z.toNat, by omega⟩
      have hk : k ≤ 36 := by omega
      have hm' : m = k + 1 := by omega
      subst hm'
      have hpw : (2 : Nat) ^ k ≤ 68719476736 := Nat.pow_le_pow_right (by decide) hk
      obtain ⟨s, hs⟩ : ∃ s, 2 ^ k = s := ⟨_, rfl⟩
      have hx35 : x ≤ 34359738368 := by have h1 : (2 : Nat) ^ 35 = 34359738368 := rfl; have h2 := Nat.two_pow_pos (min (k + 1) 35); omega
      have HX := Lib.hid (And.intro hx (And.intro h35 (And.intro hs hrf)))
      rw [hs] at hpw
      have hw : IntKind.u64.wrap ((2 : Int) ^ k) = (s : Int) := by
        rw [show ((2 : Int) ^ k) = ((2 ^ k : Nat) : Int) by simp, hs, IntKind.wrap_u64]
        omega
      obtain ⟨tt, htt⟩ : ∃ t, x + s = t := ⟨_, rfl⟩
      have hti : (x : Int) + (s : Int) = (tt : Int) := by omega
      have htl : tt < 274877906944 := by omega
      have HTT := Lib.hid htt
      have HB := Lib.hid hb
      have HT := Lib.hid (fun W => times_any tt 0 tt htl (by decide) (by omega) W)
      rw [Nat.zero_mul, Nat.zero_add] at HT
      obtain ⟨q0, hq0⟩ : ∃ q, tt * tt / 18446744073709551616 = q := ⟨_, rfl⟩
      obtain ⟨q1, hq1⟩ : ∃ q, tt * tt % 18446744073709551616 = q := ⟨_, rfl⟩
      obtain ⟨q2, hq2⟩ : ∃ q, tt * (q0 * 18446744073709551616 + q1) / 18446744073709551616 = q := ⟨_, rfl⟩
      obtain ⟨q3, hq3⟩ : ∃ q, tt * (q0 * 18446744073709551616 + q1) % 18446744073709551616 = q := ⟨_, rfl⟩
      obtain ⟨y, hy⟩ : ∃ q, q2 / 4294967296 = q := ⟨_, rfl⟩
      obtain ⟨z, hz'⟩ : ∃ q, q2 % 4294967296 = q := ⟨_, rfl⟩
      have HOV := Lib.hid (cb_over p tt q0 q1 q2 q3 y z hq0 hq1 hq2 hq3 hy hz')
      have hq0l : q0 < 18446744073709551616 := by
        have := Nat.mul_le_mul (show tt ≤ 274877906943 by omega) (show tt ≤ 274877906943 by omega)
        omega
      have hq1l : q1 < 18446744073709551616 := by omega
      have hq0s : q0 < 4096 := by
        have := Nat.mul_le_mul (show tt ≤ 274877906943 by omega) (show tt ≤ 274877906943 by omega)
        omega
      have HT3 := Lib.hid (fun W => times_any tt q0 q1 htl hq0s hq1l W)
      rw [hq2, hq3] at HT3
      have hq2l : q2 < 18446744073709551616 := by
        have h1 : q0 * 18446744073709551616 + q1 ≤ 75557863725914323419135 := by omega
        have h2 := Nat.mul_le_mul (show tt ≤ 274877906943 by omega) h1
        rw [← hq2]
        generalize tt * (q0 * 18446744073709551616 + q1) = T at h2 ⊢
        omega
      have hq3l : q3 < 18446744073709551616 := by rw [← hq3]; omega
      have dv : (q2 : Int) / 4294967296 = (y : Int) := by omega
      have mk := mask32 q2 hq2l
      rw [hz'] at mk
      have hyl : y < 4294967296 := by omega
      have hzl : z < 4294967296 := by omega
      rw [hq0, hq1] at HT
      rw [← htt] at HOV
      clear hb hx h35 hrf hs htt hq0 hq1 hq2 hq3 hy hz' hq0s
      go_wp2_with fail
      refine (HT.out _).mono ?_
      rintro e w2 ⟨rfl, hb2⟩
      have HB2 := Lib.hid ((HB.out.trans (hb2.mono HB.out.size)))
      have hsz2 := HB.out.size
      have hle2 := hb2.size
      clear hb2 HT
      have hbk := (Blk.new w2 129 #[.int .u64 0, .int .u64 0]).row (ul [q0, q1])
      have c0 := Blk.ul hbk 0 q0 rfl
      have c1 := Blk.ul hbk 1 q1 rfl
      have HB3 := Lib.hid (Kept.below HB2.out (Kept.setRow (S := fun b => w2.heap.size ≤ b) (Kept.alloc (Kept.refl _ w2) (.cells #[.int .u64 0, .int .u64 0] 129)) (.inl (Nat.le_refl _)) (ul [q0, q1])) (fun _ h => Nat.le_trans hsz2 (Nat.le_trans hle2 h)) HB2.out.size)
      obtain ⟨W, hW⟩ : ∃ W, (w2.alloc (.cells #[.int .u64 0, .int .u64 0] 129)).setRow w2.heap.size (ul [q0, q1]) = W := ⟨_, rfl⟩
      have HW := Lib.hid hW
      rw [hW] at hbk c0 c1 HB3
      have HBK := Lib.hid hbk
      have HSZ := Lib.hid (Nat.le_trans hsz2 hle2)
      clear hbk hsz2 hle2 hW
      rcases cmp4 p q0 q1 with hA | ⟨hA, hB, hC⟩ | ⟨hA, hB, hC⟩ | ⟨hA, hB⟩
      · have f1 : (p : Int) < (q0 : Int) := by omega
        have n1 : decide (p < q0) = true := by simp; omega
        clear hA
        go_wp2_with (refine wpList_store_row rfl 129 _ _ rfl w2.heap.size (ul [q0, q1]) rfl rfl 129 _ (Blk.new w2 _ _) (by rw [ul_size]; exact sz2) rfl (ul_one _) (Hid.out ?_))
        rw [HW.out]
        refine Lib.hid ?_
        go_wp2_with fail
        refine (HT3.out _).mono ?_
        rintro e w3 ⟨rfl, hb3⟩
        clear f1 n1 HT3 c0 c1
        have hbl : Blk w3 w2.heap.size 129 (ul [q0, q1]) := HBK.out.of (hb3.block _ HBK.out.lt)
        have HBL := Lib.hid hbl
        have hb4 := (hbl.row (ul [q2, q3]))
        have c0 := Blk.ul hb4 0 q2 rfl
        have c1 := Blk.ul hb4 1 q3 rfl
        have HB4 := Lib.hid (Kept.below (HB3.out.trans (hb3.mono HB3.out.size)) (Kept.setRow (S := fun b => w2.heap.size ≤ b) (Kept.refl _ w3) (.inl (Nat.le_refl _)) (ul [q2, q3])) (fun _ h => Nat.le_trans HSZ.out h) (HB3.out.trans (hb3.mono HB3.out.size)).size)
        clear hb3 hbl hb4 HBK HB3
        rcases cmp5 p y z q3 with hA | ⟨hA, hB, hC⟩ | ⟨hA, hB, hC, hD⟩ | ⟨hA, hB, hC, hD⟩ | ⟨hA, hB⟩
        · have f1 : (p : Int) < (y : Int) := by omega
          have n1 : decide (p < y) = true := by simp; omega
          have hov : over p (x + s) true = true := by rw [HOV.out]; exact decide_eq_true (by omega)
          clear hA
          by_cases hk34 : k ≤ 34
          · have hz34 : (k : Int) ≤ 34 := by omega
            have HNX := Lib.hid (root_next HX.out.1 HX.out.2.1 HX.out.2.2 true hov)
            have hnx : nxt k x s true = x := by unfold nxt; simp [hk34]
            rw [hnx] at HNX
            clear hov hnx
            go_wp2_with (refine wpList_store_row rfl 129 _ _ rfl w2.heap.size (ul [q2, q3]) rfl rfl 129 _ HBL.out (by rw [ul_size]; exact sz2) rfl (ul_one _) (Hid.out ?_))
            refine Lib.hid ?_
            go_wp2_with fail
            go_roundw
            case rel => exact ⟨x, (k : Int) - 1, k, rfl, rfl, by omega, by omega, by omega, HNX.out.1, HNX.out.2.1, HNX.out.2.2, HB4.out⟩
            case measure => simp [intOf] <;> omega
          · have hz34 : ¬ (k : Int) ≤ 34 := by omega
            have HNX := Lib.hid (root_next HX.out.1 HX.out.2.1 HX.out.2.2 true hov)
            have hnx : nxt k x s true = x := by unfold nxt; simp [hk34]
            rw [hnx] at HNX
            clear hov hnx
            go_wp2_with (refine wpList_store_row rfl 129 _ _ rfl w2.heap.size (ul [q2, q3]) rfl rfl 129 _ HBL.out (by rw [ul_size]; exact sz2) rfl (ul_one _) (Hid.out ?_))
            refine Lib.hid ?_
            go_wp2_with fail
            go_roundw
            case rel => exact ⟨x, (k : Int) - 1, k, rfl, rfl, by omega, by omega, by omega, HNX.out.1, HNX.out.2.1, HNX.out.2.2, HB4.out⟩
            case measure => simp [intOf] <;> omega
        · have f1 : ¬ (p : Int) < (y : Int) := by omega
          have n1 : decide (p < y) = false := by simp; omega
          have f2 : ((y : Int) == (p : Int)) = true := beq_iff_eq.2 (by omega)
          have f3 : (0 : Int) < (z : Int) := by omega
          have n3 : decide (0 < z) = true := by simp; omega
          have hov : over p (x + s) true = true := by rw [HOV.out]; exact decide_eq_true (by omega)
          clear hA hB hC
          by_cases hk34 : k ≤ 34
          · have hz34 : (k : Int) ≤ 34 := by omega
            have HNX := Lib.hid (root_next HX.out.1 HX.out.2.1 HX.out.2.2 true hov)
            have hnx : nxt k x s true = x := by unfold nxt; simp [hk34]
            rw [hnx] at HNX
            clear hov hnx
            go_wp2_with (refine wpList_store_row rfl 129 _ _ rfl w2.heap.size (ul [q2, q3]) rfl rfl 129 _ HBL.out (by rw [ul_size]; exact sz2) rfl (ul_one _) (Hid.out ?_))
            refine Lib.hid ?_
            go_wp2_with fail
            go_roundw
            case rel => exact ⟨x, (k : Int) - 1, k, rfl, rfl, by omega, by omega, by omega, HNX.out.1, HNX.out.2.1, HNX.out.2.2, HB4.out⟩
            case measure => simp [intOf] <;> omega
          · have hz34 : ¬ (k : Int) ≤ 34 := by omega
            have HNX := Lib.hid (root_next HX.out.1 HX.out.2.1 HX.out.2.2 true hov)
            have hnx : nxt k x s true = x := by unfold nxt; simp [hk34]
            rw [hnx] at HNX
            clear hov hnx
            go_wp2_with (refine wpList_store_row rfl 129 _ _ rfl w2.heap.size (ul [q2, q3]) rfl rfl 129 _ HBL.out (by rw [ul_size]; exact sz2) rfl (ul_one _) (Hid.out ?_))
            refine Lib.hid ?_
            go_wp2_with fail
            go_roundw
            case rel => exact ⟨x, (k : Int) - 1, k, rfl, rfl, by omega, by omega, by omega, HNX.out.1, HNX.out.2.1, HNX.out.2.2, HB4.out⟩
            case measure => simp [intOf] <;> omega
        · have f1 : ¬ (p : Int) < (y : Int) := by omega
          have n1 : decide (p < y) = false := by simp; omega
          have f2 : ((y : Int) == (p : Int)) = true := beq_iff_eq.2 (by omega)
          have f3 : ¬ (0 : Int) < (z : Int) := by omega
          have n3 : decide (0 < z) = false := by simp; omega
          have f4 : (0 : Int) < (q3 : Int) := by omega
          have n4 : decide (0 < q3) = true := by simp; omega
          have hov : over p (x + s) true = true := by rw [HOV.out]; exact decide_eq_true (by omega)
          clear hA hB hC hD
          by_cases hk34 : k ≤ 34
          · have hz34 : (k : Int) ≤ 34 := by omega
            have HNX := Lib.hid (root_next HX.out.1 HX.out.2.1 HX.out.2.2 true hov)
            have hnx : nxt k x s true = x := by unfold nxt; simp [hk34]
            rw [hnx] at HNX
            clear hov hnx
            go_wp2_with (refine wpList_store_row rfl 129 _ _ rfl w2.heap.size (ul [q2, q3]) rfl rfl 129 _ HBL.out (by rw [ul_size]; exact sz2) rfl (ul_one _) (Hid.out ?_))
            refine Lib.hid ?_
            go_wp2_with fail
            go_roundw
            case rel => exact ⟨x, (k : Int) - 1, k, rfl, rfl, by omega, by omega, by omega, HNX.out.1, HNX.out.2.1, HNX.out.2.2, HB4.out⟩
            case measure => simp [intOf] <;> omega
          · have hz34 : ¬ (k : Int) ≤ 34 := by omega
            have HNX := Lib.hid (root_next HX.out.1 HX.out.2.1 HX.out.2.2 true hov)
            have hnx : nxt k x s true = x := by unfold nxt; simp [hk34]
            rw [hnx] at HNX
            clear hov hnx
            go_wp2_with (refine wpList_store_row rfl 129 _ _ rfl w2.heap.size (ul [q2, q3]) rfl rfl 129 _ HBL.out (by rw [ul_size]; exact sz2) rfl (ul_one _) (Hid.out ?_))
            refine Lib.hid ?_
            go_wp2_with fail
            go_roundw
            case rel => exact ⟨x, (k : Int) - 1, k, rfl, rfl, by omega, by omega, by omega, HNX.out.1, HNX.out.2.1, HNX.out.2.2, HB4.out⟩
            case measure => simp [intOf] <;> omega
        · have f1 : ¬ (p : Int) < (y : Int) := by omega
          have n1 : decide (p < y) = false := by simp; omega
          have f2 : ((y : Int) == (p : Int)) = true := beq_iff_eq.2 (by omega)
          have f3 : ¬ (0 : Int) < (z : Int) := by omega
          have n3 : decide (0 < z) = false := by simp; omega
          have f4 : ¬ (0 : Int) < (q3 : Int) := by omega
          have n4 : decide (0 < q3) = false := by simp; omega
          have hov : over p (x + s) true = false := by rw [HOV.out]; exact decide_eq_false (by omega)
          clear hA hB hC hD
          by_cases hk34 : k ≤ 34
          · have hz34 : (k : Int) ≤ 34 := by omega
            have HNX := Lib.hid (root_next HX.out.1 HX.out.2.1 HX.out.2.2 false hov)
            have hnx : nxt k x s false = x + s := by unfold nxt; simp [hk34]
            rw [hnx] at HNX
            clear hov hnx
            go_wp2_with (refine wpList_store_row rfl 129 _ _ rfl w2.heap.size (ul [q2, q3]) rfl rfl 129 _ HBL.out (by rw [ul_size]; exact sz2) rfl (ul_one _) (Hid.out ?_))
            refine Lib.hid ?_
            go_wp2_with fail
            go_roundw
            case rel => exact ⟨x + s, (k : Int) - 1, k, by rw [← HTT.out], rfl, by omega, by omega, by omega, HNX.out.1, HNX.out.2.1, HNX.out.2.2, HB4.out⟩
            case measure => simp [intOf] <;> omega
          · have hz34 : ¬ (k : Int) ≤ 34 := by omega
            have HNX := Lib.hid (root_next HX.out.1 HX.out.2.1 HX.out.2.2 false hov)
            have hnx : nxt k x s false = x := by unfold nxt; simp [hk34]
            rw [hnx] at HNX
            clear hov hnx
            go_wp2_with (refine wpList_store_row rfl 129 _ _ rfl w2.heap.size (ul [q2, q3]) rfl rfl 129 _ HBL.out (by rw [ul_size]; exact sz2) rfl (ul_one _) (Hid.out ?_))
            refine Lib.hid ?_
            go_wp2_with fail
            go_roundw
            case rel => exact ⟨x, (k : Int) - 1, k, rfl, rfl, by omega, by omega, by omega, HNX.out.1, HNX.out.2.1, HNX.out.2.2, HB4.out⟩
            case measure => simp [intOf] <;> omega
        · have f1 : ¬ (p : Int) < (y : Int) := by omega
          have n1 : decide (p < y) = false := by simp; omega
          have f2 : ((y : Int) == (p : Int)) = false := beq_eq_false_iff_ne.2 (by omega)
          have n2 : decide (y = p) = false := by simp; omega
          have hov : over p (x + s) true = false := by rw [HOV.out]; exact decide_eq_false (by omega)
          clear hA hB
          by_cases hk34 : k ≤ 34
          · have hz34 : (k : Int) ≤ 34 := by omega
            have HNX := Lib.hid (root_next HX.out.1 HX.out.2.1 HX.out.2.2 false hov)
            have hnx : nxt k x s false = x + s := by unfold nxt; simp [hk34]
            rw [hnx] at HNX
            clear hov hnx
            go_wp2_with (refine wpList_store_row rfl 129 _ _ rfl w2.heap.size (ul [q2, q3]) rfl rfl 129 _ HBL.out (by rw [ul_size]; exact sz2) rfl (ul_one _) (Hid.out ?_))
            refine Lib.hid ?_
            go_wp2_with fail
            go_roundw
            case rel => exact ⟨x + s, (k : Int) - 1, k, by rw [← HTT.out], rfl, by omega, by omega, by omega, HNX.out.1, HNX.out.2.1, HNX.out.2.2, HB4.out⟩
            case measure => simp [intOf] <;> omega
          · have hz34 : ¬ (k : Int) ≤ 34 := by omega
            have HNX := Lib.hid (root_next HX.out.1 HX.out.2.1 HX.out.2.2 false hov)
            have hnx : nxt k x s false = x := by unfold nxt; simp [hk34]
            rw [hnx] at HNX
            clear hov hnx
            go_wp2_with (refine wpList_store_row rfl 129 _ _ rfl w2.heap.size (ul [q2, q3]) rfl rfl 129 _ HBL.out (by rw [ul_size]; exact sz2) rfl (ul_one _) (Hid.out ?_))
            refine Lib.hid ?_
            go_wp2_with fail
            go_roundw
            case rel => exact ⟨x, (k : Int) - 1, k, rfl, rfl, by omega, by omega, by omega, HNX.out.1, HNX.out.2.1, HNX.out.2.2, HB4.out⟩
            case measure => simp [intOf] <;> omega
      · have f1 : ¬ (p : Int) < (q0 : Int) := by omega
        have n1 : decide (p < q0) = false := by simp; omega
        have f2 : ((q0 : Int) == (p : Int)) = true := beq_iff_eq.2 (by omega)
        have f3 : (0 : Int) < (q1 : Int) := by omega
        have n3 : decide (0 < q1) = true := by simp; omega
        clear hA hB hC
        go_wp2_with (refine wpList_store_row rfl 129 _ _ rfl w2.heap.size (ul [q0, q1]) rfl rfl 129 _ (Blk.new w2 _ _) (by rw [ul_size]; exact sz2) rfl (ul_one _) (Hid.out ?_))
        rw [HW.out]
        refine Lib.hid ?_
        go_wp2_with fail
        refine (HT3.out _).mono ?_
        rintro e w3 ⟨rfl, hb3⟩
        clear f1 n1 f2 f3 n3 HT3 c0 c1
        have hbl : Blk w3 w2.heap.size 129 (ul [q0, q1]) := HBK.out.of (hb3.block _ HBK.out.lt)
        have HBL := Lib.hid hbl
        have hb4 := (hbl.row (ul [q2, q3]))
        have c0 := Blk.ul hb4 0 q2 rfl
        have c1 := Blk.ul hb4 1 q3 rfl
        have HB4 := Lib.hid (Kept.below (HB3.out.trans (hb3.mono HB3.out.size)) (Kept.setRow (S := fun b => w2.heap.size ≤ b) (Kept.refl _ w3) (.inl (Nat.le_refl _)) (ul [q2, q3])) (fun _ h => Nat.le_trans HSZ.out h) (HB3.out.trans (hb3.mono HB3.out.size)).size)
        clear hb3 hbl hb4 HBK HB3
        rcases cmp5 p y z q3 with hA | ⟨hA, hB, hC⟩ | ⟨hA, hB, hC, hD⟩ | ⟨hA, hB, hC, hD⟩ | ⟨hA, hB⟩
        · have f1 : (p : Int) < (y : Int) := by omega
          have n1 : decide (p < y) = true := by simp; omega
          have hov : over p (x + s) true = true := by rw [HOV.out]; exact decide_eq_true (by omega)
          clear hA
          by_cases hk34 : k ≤ 34
          · have hz34 : (k : Int) ≤ 34 := by omega
            have HNX := Lib.hid (root_next HX.out.1 HX.out.2.1 HX.out.2.2 true hov)
            have hnx : nxt k x s true = x := by unfold nxt; simp [hk34]
            rw [hnx] at HNX
            clear hov hnx
            go_wp2_with (refine wpList_store_row rfl 129 _ _ rfl w2.heap.size (ul [q2, q3]) rfl rfl 129 _ HBL.out (by rw [ul_size]; exact sz2) rfl (ul_one _) (Hid.out ?_))
            refine Lib.hid ?_
            go_wp2_with fail
            go_roundw
            case rel => exact ⟨x, (k : Int) - 1, k, rfl, rfl, by omega, by omega, by omega, HNX.out.1, HNX.out.2.1, HNX.out.2.2, HB4.out⟩
            case measure => simp [intOf] <;> omega
          · have hz34 : ¬ (k : Int) ≤ 34 := by omega
            have HNX := Lib.hid (root_next HX.out.1 HX.out.2.1 HX.out.2.2 true hov)
            have hnx : nxt k x s true = x := by unfold nxt; simp [hk34]
            rw [hnx] at HNX
            clear hov hnx
            go_wp2_with (refine wpList_store_row rfl 129 _ _ rfl w2.heap.size (ul [q2, q3]) rfl rfl 129 _ HBL.out (by rw [ul_size]; exact sz2) rfl (ul_one _) (Hid.out ?_))
            refine Lib.hid ?_
            go_wp2_with fail
            go_roundw
            case rel => exact ⟨x, (k : Int) - 1, k, rfl, rfl, by omega, by omega, by omega, HNX.out.1, HNX.out.2.1, HNX.out.2.2, HB4.out⟩
            case measure => simp [intOf] <;> omega
        · have f1 : ¬ (p : Int) < (y : Int) := by omega
          have n1 : decide (p < y) = false := by simp; omega
          have f2 : ((y : Int) == (p : Int)) = true := beq_iff_eq.2 (by omega)
          have f3 : (0 : Int) < (z : Int) := by omega
          have n3 : decide (0 < z) = true := by simp; omega
          have hov : over p (x + s) true = true := by rw [HOV.out]; exact decide_eq_true (by omega)
          clear hA hB hC
          by_cases hk34 : k ≤ 34
          · have hz34 : (k : Int) ≤ 34 := by omega
            have HNX := Lib.hid (root_next HX.out.1 HX.out.2.1 HX.out.2.2 true hov)
            have hnx : nxt k x s true = x := by unfold nxt; simp [hk34]
            rw [hnx] at HNX
            clear hov hnx
            go_wp2_with (refine wpList_store_row rfl 129 _ _ rfl w2.heap.size (ul [q2, q3]) rfl rfl 129 _ HBL.out (by rw [ul_size]; exact sz2) rfl (ul_one _) (Hid.out ?_))
            refine Lib.hid ?_
            go_wp2_with fail
            go_roundw
            case rel => exact ⟨x, (k : Int) - 1, k, rfl, rfl, by omega, by omega, by omega, HNX.out.1, HNX.out.2.1, HNX.out.2.2, HB4.out⟩
            case measure => simp [intOf] <;> omega
          · have hz34 : ¬ (k : Int) ≤ 34 := by omega
            have HNX := Lib.hid (root_next HX.out.1 HX.out.2.1 HX.out.2.2 true hov)
            have hnx : nxt k x s true = x := by unfold nxt; simp [hk34]
            rw [hnx] at HNX
            clear hov hnx
            go_wp2_with (refine wpList_store_row rfl 129 _ _ rfl w2.heap.size (ul [q2, q3]) rfl rfl 129 _ HBL.out (by rw [ul_size]; exact sz2) rfl (ul_one _) (Hid.out ?_))
            refine Lib.hid ?_
            go_wp2_with fail
            go_roundw
            case rel => exact ⟨x, (k : Int) - 1, k, rfl, rfl, by omega, by omega, by omega, HNX.out.1, HNX.out.2.1, HNX.out.2.2, HB4.out⟩
            case measure => simp [intOf] <;> omega
        · have f1 : ¬ (p : Int) < (y : Int) := by omega
          have n1 : decide (p < y) = false := by simp; omega
          have f2 : ((y : Int) == (p : Int)) = true := beq_iff_eq.2 (by omega)
          have f3 : ¬ (0 : Int) < (z : Int) := by omega
          have n3 : decide (0 < z) = false := by simp; omega
          have f4 : (0 : Int) < (q3 : Int) := by omega
          have n4 : decide (0 < q3) = true := by simp; omega
          have hov : over p (x + s) true = true := by rw [HOV.out]; exact decide_eq_true (by omega)
          clear hA hB hC hD
          by_cases hk34 : k ≤ 34
          · have hz34 : (k : Int) ≤ 34 := by omega
            have HNX := Lib.hid (root_next HX.out.1 HX.out.2.1 HX.out.2.2 true hov)
            have hnx : nxt k x s true = x := by unfold nxt; simp [hk34]
            rw [hnx] at HNX
            clear hov hnx
            go_wp2_with (refine wpList_store_row rfl 129 _ _ rfl w2.heap.size (ul [q2, q3]) rfl rfl 129 _ HBL.out (by rw [ul_size]; exact sz2) rfl (ul_one _) (Hid.out ?_))
            refine Lib.hid ?_
            go_wp2_with fail
            go_roundw
            case rel => exact ⟨x, (k : Int) - 1, k, rfl, rfl, by omega, by omega, by omega, HNX.out.1, HNX.out.2.1, HNX.out.2.2, HB4.out⟩
            case measure => simp [intOf] <;> omega
          · have hz34 : ¬ (k : Int) ≤ 34 := by omega
            have HNX := Lib.hid (root_next HX.out.1 HX.out.2.1 HX.out.2.2 true hov)
            have hnx : nxt k x s true = x := by unfold nxt; simp [hk34]
            rw [hnx] at HNX
            clear hov hnx
            go_wp2_with (refine wpList_store_row rfl 129 _ _ rfl w2.heap.size (ul [q2, q3]) rfl rfl 129 _ HBL.out (by rw [ul_size]; exact sz2) rfl (ul_one _) (Hid.out ?_))
            refine Lib.hid ?_
            go_wp2_with fail
            go_roundw
            case rel => exact ⟨x, (k : Int) - 1, k, rfl, rfl, by omega, by omega, by omega, HNX.out.1, HNX.out.2.1, HNX.out.2.2, HB4.out⟩
            case measure => simp [intOf] <;> omega
        · have f1 : ¬ (p : Int) < (y : Int) := by omega
          have n1 : decide (p < y) = false := by simp; omega
          have f2 : ((y : Int) == (p : Int)) = true := beq_iff_eq.2 (by omega)
          have f3 : ¬ (0 : Int) < (z : Int) := by omega
          have n3 : decide (0 < z) = false := by simp; omega
          have f4 : ¬ (0 : Int) < (q3 : Int) := by omega
          have n4 : decide (0 < q3) = false := by simp; omega
          have hov : over p (x + s) true = false := by rw [HOV.out]; exact decide_eq_false (by omega)
          clear hA hB hC hD
          by_cases hk34 : k ≤ 34
          · have hz34 : (k : Int) ≤ 34 := by omega
            have HNX := Lib.hid (root_next HX.out.1 HX.out.2.1 HX.out.2.2 false hov)
            have hnx : nxt k x s false = x + s := by unfold nxt; simp [hk34]
            rw [hnx] at HNX
            clear hov hnx
            go_wp2_with (refine wpList_store_row rfl 129 _ _ rfl w2.heap.size (ul [q2, q3]) rfl rfl 129 _ HBL.out (by rw [ul_size]; exact sz2) rfl (ul_one _) (Hid.out ?_))
            refine Lib.hid ?_
            go_wp2_with fail
            go_roundw
            case rel => exact ⟨x + s, (k : Int) - 1, k, by rw [← HTT.out], rfl, by omega, by omega, by omega, HNX.out.1, HNX.out.2.1, HNX.out.2.2, HB4.out⟩
            case measure => simp [intOf] <;> omega
          · have hz34 : ¬ (k : Int) ≤ 34 := by omega
            have HNX := Lib.hid (root_next HX.out.1 HX.out.2.1 HX.out.2.2 false hov)
            have hnx : nxt k x s false = x := by unfold nxt; simp [hk34]
            rw [hnx] at HNX
            clear hov hnx
            go_wp2_with (refine wpList_store_row rfl 129 _ _ rfl w2.heap.size (ul [q2, q3]) rfl rfl 129 _ HBL.out (by rw [ul_size]; exact sz2) rfl (ul_one _) (Hid.out ?_))
            refine Lib.hid ?_
            go_wp2_with fail
            go_roundw
            case rel => exact ⟨x, (k : Int) - 1, k, rfl, rfl, by omega, by omega, by omega, HNX.out.1, HNX.out.2.1, HNX.out.2.2, HB4.out⟩
            case measure => simp [intOf] <;> omega
        · have f1 : ¬ (p : Int) < (y : Int) := by omega
          have n1 : decide (p < y) = false := by simp; omega
          have f2 : ((y : Int) == (p : Int)) = false := beq_eq_false_iff_ne.2 (by omega)
          have n2 : decide (y = p) = false := by simp; omega
          have hov : over p (x + s) true = false := by rw [HOV.out]; exact decide_eq_false (by omega)
          clear hA hB
          by_cases hk34 : k ≤ 34
          · have hz34 : (k : Int) ≤ 34 := by omega
            have HNX := Lib.hid (root_next HX.out.1 HX.out.2.1 HX.out.2.2 false hov)
            have hnx : nxt k x s false = x + s := by unfold nxt; simp [hk34]
            rw [hnx] at HNX
            clear hov hnx
            go_wp2_with (refine wpList_store_row rfl 129 _ _ rfl w2.heap.size (ul [q2, q3]) rfl rfl 129 _ HBL.out (by rw [ul_size]; exact sz2) rfl (ul_one _) (Hid.out ?_))
            refine Lib.hid ?_
            go_wp2_with fail
            go_roundw
            case rel => exact ⟨x + s, (k : Int) - 1, k, by rw [← HTT.out], rfl, by omega, by omega, by omega, HNX.out.1, HNX.out.2.1, HNX.out.2.2, HB4.out⟩
            case measure => simp [intOf] <;> omega
          · have hz34 : ¬ (k : Int) ≤ 34 := by omega
            have HNX := Lib.hid (root_next HX.out.1 HX.out.2.1 HX.out.2.2 false hov)
            have hnx : nxt k x s false = x := by unfold nxt; simp [hk34]
            rw [hnx] at HNX
            clear hov hnx
            go_wp2_with (refine wpList_store_row rfl 129 _ _ rfl w2.heap.size (ul [q2, q3]) rfl rfl 129 _ HBL.out (by rw [ul_size]; exact sz2) rfl (ul_one _) (Hid.out ?_))
            refine Lib.hid ?_
            go_wp2_with fail
            go_roundw
            case rel => exact ⟨x, (k : Int) - 1, k, rfl, rfl, by omega, by omega, by omega, HNX.out.1, HNX.out.2.1, HNX.out.2.2, HB4.out⟩
            case measure => simp [intOf] <;> omega
      · have f1 : ¬ (p : Int) < (q0 : Int) := by omega
        have n1 : decide (p < q0) = false := by simp; omega
        have f2 : ((q0 : Int) == (p : Int)) = true := beq_iff_eq.2 (by omega)
        have f3 : ¬ (0 : Int) < (q1 : Int) := by omega
        have n3 : decide (0 < q1) = false := by simp; omega
        clear hA hB hC
        go_wp2_with (refine wpList_store_row rfl 129 _ _ rfl w2.heap.size (ul [q0, q1]) rfl rfl 129 _ (Blk.new w2 _ _) (by rw [ul_size]; exact sz2) rfl (ul_one _) (Hid.out ?_))
        rw [HW.out]
        refine Lib.hid ?_
        go_wp2_with fail
        refine (HT3.out _).mono ?_
        rintro e w3 ⟨rfl, hb3⟩
        clear f1 n1 f2 f3 n3 HT3 c0 c1
        have hbl : Blk w3 w2.heap.size 129 (ul [q0, q1]) := HBK.out.of (hb3.block _ HBK.out.lt)
        have HBL := Lib.hid hbl
        have hb4 := (hbl.row (ul [q2, q3]))
        have c0 := Blk.ul hb4 0 q2 rfl
        have c1 := Blk.ul hb4 1 q3 rfl
        have HB4 := Lib.hid (Kept.below (HB3.out.trans (hb3.mono HB3.out.size)) (Kept.setRow (S := fun b => w2.heap.size ≤ b) (Kept.refl _ w3) (.inl (Nat.le_refl _)) (ul [q2, q3])) (fun _ h => Nat.le_trans HSZ.out h) (HB3.out.trans (hb3.mono HB3.out.size)).size)
        clear hb3 hbl hb4 HBK HB3
        rcases cmp5 p y z q3 with hA | ⟨hA, hB, hC⟩ | ⟨hA, hB, hC, hD⟩ | ⟨hA, hB, hC, hD⟩ | ⟨hA, hB⟩
        · have f1 : (p : Int) < (y : Int) := by omega
          have n1 : decide (p < y) = true := by simp; omega
          have hov : over p (x + s) true = true := by rw [HOV.out]; exact decide_eq_true (by omega)
          clear hA
          by_cases hk34 : k ≤ 34
          · have hz34 : (k : Int) ≤ 34 := by omega
            have HNX := Lib.hid (root_next HX.out.1 HX.out.2.1 HX.out.2.2 true hov)
            have hnx : nxt k x s true = x := by unfold nxt; simp [hk34]
            rw [hnx] at HNX
            clear hov hnx
            go_wp2_with (refine wpList_store_row rfl 129 _ _ rfl w2.heap.size (ul [q2, q3]) rfl rfl 129 _ HBL.out (by rw [ul_size]; exact sz2) rfl (ul_one _) (Hid.out ?_))
            refine Lib.hid ?_
            go_wp2_with fail
            go_roundw
            case rel => exact ⟨x, (k : Int) - 1, k, rfl, rfl, by omega, by omega, by omega, HNX.out.1, HNX.out.2.1, HNX.out.2.2, HB4.out⟩
            case measure => simp [intOf] <;> omega
          · have hz34 : ¬ (k : Int) ≤ 34 := by omega
            have HNX := Lib.hid (root_next HX.out.1 HX.out.2.1 HX.out.2.2 true hov)
            have hnx : nxt k x s true = x := by unfold nxt; simp [hk34]
            rw [hnx] at HNX
            clear hov hnx
            go_wp2_with (refine wpList_store_row rfl 129 _ _ rfl w2.heap.size (ul [q2, q3]) rfl rfl 129 _ HBL.out (by rw [ul_size]; exact sz2) rfl (ul_one _) (Hid.out ?_))
            refine Lib.hid ?_
            go_wp2_with fail
            go_roundw
            case rel => exact ⟨x, (k : Int) - 1, k, rfl, rfl, by omega, by omega, by omega, HNX.out.1, HNX.out.2.1, HNX.out.2.2, HB4.out⟩
            case measure => simp [intOf] <;> omega
        · have f1 : ¬ (p : Int) < (y : Int) := by omega
          have n1 : decide (p < y) = false := by simp; omega
          have f2 : ((y : Int) == (p : Int)) = true := beq_iff_eq.2 (by omega)
          have f3 : (0 : Int) < (z : Int) := by omega
          have n3 : decide (0 < z) = true := by simp; omega
          have hov : over p (x + s) true = true := by rw [HOV.out]; exact decide_eq_true (by omega)
          clear hA hB hC
          by_cases hk34 : k ≤ 34
          · have hz34 : (k : Int) ≤ 34 := by omega
            have HNX := Lib.hid (root_next HX.out.1 HX.out.2.1 HX.out.2.2 true hov)
            have hnx : nxt k x s true = x := by unfold nxt; simp [hk34]
            rw [hnx] at HNX
            clear hov hnx
            go_wp2_with (refine wpList_store_row rfl 129 _ _ rfl w2.heap.size (ul [q2, q3]) rfl rfl 129 _ HBL.out (by rw [ul_size]; exact sz2) rfl (ul_one _) (Hid.out ?_))
            refine Lib.hid ?_
            go_wp2_with fail
            go_roundw
            case rel => exact ⟨x, (k : Int) - 1, k, rfl, rfl, by omega, by omega, by omega, HNX.out.1, HNX.out.2.1, HNX.out.2.2, HB4.out⟩
            case measure => simp [intOf] <;> omega
          · have hz34 : ¬ (k : Int) ≤ 34 := by omega
            have HNX := Lib.hid (root_next HX.out.1 HX.out.2.1 HX.out.2.2 true hov)
            have hnx : nxt k x s true = x := by unfold nxt; simp [hk34]
            rw [hnx] at HNX
            clear hov hnx
            go_wp2_with (refine wpList_store_row rfl 129 _ _ rfl w2.heap.size (ul [q2, q3]) rfl rfl 129 _ HBL.out (by rw [ul_size]; exact sz2) rfl (ul_one _) (Hid.out ?_))
            refine Lib.hid ?_
            go_wp2_with fail
            go_roundw
            case rel => exact ⟨x, (k : Int) - 1, k, rfl, rfl, by omega, by omega, by omega, HNX.out.1, HNX.out.2.1, HNX.out.2.2, HB4.out⟩
            case measure => simp [intOf] <;> omega
        · have f1 : ¬ (p : Int) < (y : Int) := by omega
          have n1 : decide (p < y) = false := by simp; omega
          have f2 : ((y : Int) == (p : Int)) = true := beq_iff_eq.2 (by omega)
          have f3 : ¬ (0 : Int) < (z : Int) := by omega
          have n3 : decide (0 < z) = false := by simp; omega
          have f4 : (0 : Int) < (q3 : Int) := by omega
          have n4 : decide (0 < q3) = true := by simp; omega
          have hov : over p (x + s) true = true := by rw [HOV.out]; exact decide_eq_true (by omega)
          clear hA hB hC hD
          by_cases hk34 : k ≤ 34
          · have hz34 : (k : Int) ≤ 34 := by omega
            have HNX := Lib.hid (root_next HX.out.1 HX.out.2.1 HX.out.2.2 true hov)
            have hnx : nxt k x s true = x := by unfold nxt; simp [hk34]
            rw [hnx] at HNX
            clear hov hnx
            go_wp2_with (refine wpList_store_row rfl 129 _ _ rfl w2.heap.size (ul [q2, q3]) rfl rfl 129 _ HBL.out (by rw [ul_size]; exact sz2) rfl (ul_one _) (Hid.out ?_))
            refine Lib.hid ?_
            go_wp2_with fail
            go_roundw
            case rel => exact ⟨x, (k : Int) - 1, k, rfl, rfl, by omega, by omega, by omega, HNX.out.1, HNX.out.2.1, HNX.out.2.2, HB4.out⟩
            case measure => simp [intOf] <;> omega
          · have hz34 : ¬ (k : Int) ≤ 34 := by omega
            have HNX := Lib.hid (root_next HX.out.1 HX.out.2.1 HX.out.2.2 true hov)
            have hnx : nxt k x s true = x := by unfold nxt; simp [hk34]
            rw [hnx] at HNX
            clear hov hnx
            go_wp2_with (refine wpList_store_row rfl 129 _ _ rfl w2.heap.size (ul [q2, q3]) rfl rfl 129 _ HBL.out (by rw [ul_size]; exact sz2) rfl (ul_one _) (Hid.out ?_))
            refine Lib.hid ?_
            go_wp2_with fail
            go_roundw
            case rel => exact ⟨x, (k : Int) - 1, k, rfl, rfl, by omega, by omega, by omega, HNX.out.1, HNX.out.2.1, HNX.out.2.2, HB4.out⟩
            case measure => simp [intOf] <;> omega
        · have f1 : ¬ (p : Int) < (y : Int) := by omega
          have n1 : decide (p < y) = false := by simp; omega
          have f2 : ((y : Int) == (p : Int)) = true := beq_iff_eq.2 (by omega)
          have f3 : ¬ (0 : Int) < (z : Int) := by omega
          have n3 : decide (0 < z) = false := by simp; omega
          have f4 : ¬ (0 : Int) < (q3 : Int) := by omega
          have n4 : decide (0 < q3) = false := by simp; omega
          have hov : over p (x + s) true = false := by rw [HOV.out]; exact decide_eq_false (by omega)
          clear hA hB hC hD
          by_cases hk34 : k ≤ 34
          · have hz34 : (k : Int) ≤ 34 := by omega
            have HNX := Lib.hid (root_next HX.out.1 HX.out.2.1 HX.out.2.2 false hov)
            have hnx : nxt k x s false = x + s := by unfold nxt; simp [hk34]
            rw [hnx] at HNX
            clear hov hnx
            go_wp2_with (refine wpList_store_row rfl 129 _ _ rfl w2.heap.size (ul [q2, q3]) rfl rfl 129 _ HBL.out (by rw [ul_size]; exact sz2) rfl (ul_one _) (Hid.out ?_))
            refine Lib.hid ?_
            go_wp2_with fail
            go_roundw
            case rel => exact ⟨x + s, (k : Int) - 1, k, by rw [← HTT.out], rfl, by omega, by omega, by omega, HNX.out.1, HNX.out.2.1, HNX.out.2.2, HB4.out⟩
            case measure => simp [intOf] <;> omega
          · have hz34 : ¬ (k : Int) ≤ 34 := by omega
            have HNX := Lib.hid (root_next HX.out.1 HX.out.2.1 HX.out.2.2 false hov)
            have hnx : nxt k x s false = x := by unfold nxt; simp [hk34]
            rw [hnx] at HNX
            clear hov hnx
            go_wp2_with (refine wpList_store_row rfl 129 _ _ rfl w2.heap.size (ul [q2, q3]) rfl rfl 129 _ HBL.out (by rw [ul_size]; exact sz2) rfl (ul_one _) (Hid.out ?_))
            refine Lib.hid ?_
            go_wp2_with fail
            go_roundw
            case rel => exact ⟨x, (k : Int) - 1, k, rfl, rfl, by omega, by omega, by omega, HNX.out.1, HNX.out.2.1, HNX.out.2.2, HB4.out⟩
            case measure => simp [intOf] <;> omega
        · have f1 : ¬ (p : Int) < (y : Int) := by omega
          have n1 : decide (p < y) = false := by simp; omega
          have f2 : ((y : Int) == (p : Int)) = false := beq_eq_false_iff_ne.2 (by omega)
          have n2 : decide (y = p) = false := by simp; omega
          have hov : over p (x + s) true = false := by rw [HOV.out]; exact decide_eq_false (by omega)
          clear hA hB
          by_cases hk34 : k ≤ 34
          · have hz34 : (k : Int) ≤ 34 := by omega
            have HNX := Lib.hid (root_next HX.out.1 HX.out.2.1 HX.out.2.2 false hov)
            have hnx : nxt k x s false = x + s := by unfold nxt; simp [hk34]
            rw [hnx] at HNX
            clear hov hnx
            go_wp2_with (refine wpList_store_row rfl 129 _ _ rfl w2.heap.size (ul [q2, q3]) rfl rfl 129 _ HBL.out (by rw [ul_size]; exact sz2) rfl (ul_one _) (Hid.out ?_))
            refine Lib.hid ?_
            go_wp2_with fail
            go_roundw
            case rel => exact ⟨x + s, (k : Int) - 1, k, by rw [← HTT.out], rfl, by omega, by omega, by omega, HNX.out.1, HNX.out.2.1, HNX.out.2.2, HB4.out⟩
            case measure => simp [intOf] <;> omega
          · have hz34 : ¬ (k : Int) ≤ 34 := by omega
            have HNX := Lib.hid (root_next HX.out.1 HX.out.2.1 HX.out.2.2 false hov)
            have hnx : nxt k x s false = x := by unfold nxt; simp [hk34]
            rw [hnx] at HNX
            clear hov hnx
            go_wp2_with (refine wpList_store_row rfl 129 _ _ rfl w2.heap.size (ul [q2, q3]) rfl rfl 129 _ HBL.out (by rw [ul_size]; exact sz2) rfl (ul_one _) (Hid.out ?_))
            refine Lib.hid ?_
            go_wp2_with fail
            go_roundw
            case rel => exact ⟨x, (k : Int) - 1, k, rfl, rfl, by omega, by omega, by omega, HNX.out.1, HNX.out.2.1, HNX.out.2.2, HB4.out⟩
            case measure => simp [intOf] <;> omega
      · have f1 : ¬ (p : Int) < (q0 : Int) := by omega
        have n1 : decide (p < q0) = false := by simp; omega
        have f2 : ((q0 : Int) == (p : Int)) = false := beq_eq_false_iff_ne.2 (by omega)
        have n2 : decide (q0 = p) = false := by simp; omega
        clear hA hB
        go_wp2_with (refine wpList_store_row rfl 129 _ _ rfl w2.heap.size (ul [q0, q1]) rfl rfl 129 _ (Blk.new w2 _ _) (by rw [ul_size]; exact sz2) rfl (ul_one _) (Hid.out ?_))
        rw [HW.out]
        refine Lib.hid ?_
        go_wp2_with fail
        refine (HT3.out _).mono ?_
        rintro e w3 ⟨rfl, hb3⟩
        clear f1 n1 f2 n2 HT3 c0 c1
        have hbl : Blk w3 w2.heap.size 129 (ul [q0, q1]) := HBK.out.of (hb3.block _ HBK.out.lt)
        have HBL := Lib.hid hbl
        have hb4 := (hbl.row (ul [q2, q3]))
        have c0 := Blk.ul hb4 0 q2 rfl
        have c1 := Blk.ul hb4 1 q3 rfl
        have HB4 := Lib.hid (Kept.below (HB3.out.trans (hb3.mono HB3.out.size)) (Kept.setRow (S := fun b => w2.heap.size ≤ b) (Kept.refl _ w3) (.inl (Nat.le_refl _)) (ul [q2, q3])) (fun _ h => Nat.le_trans HSZ.out h) (HB3.out.trans (hb3.mono HB3.out.size)).size)
        clear hb3 hbl hb4 HBK HB3
        rcases cmp5 p y z q3 with hA | ⟨hA, hB, hC⟩ | ⟨hA, hB, hC, hD⟩ | ⟨hA, hB, hC, hD⟩ | ⟨hA, hB⟩
        · have f1 : (p : Int) < (y : Int) := by omega
          have n1 : decide (p < y) = true := by simp; omega
          have hov : over p (x + s) true = true := by rw [HOV.out]; exact decide_eq_true (by omega)
          clear hA
          by_cases hk34 : k ≤ 34
          · have hz34 : (k : Int) ≤ 34 := by omega
            have HNX := Lib.hid (root_next HX.out.1 HX.out.2.1 HX.out.2.2 true hov)
            have hnx : nxt k x s true = x := by unfold nxt; simp [hk34]
            rw [hnx] at HNX
            clear hov hnx
            go_wp2_with (refine wpList_store_row rfl 129 _ _ rfl w2.heap.size (ul [q2, q3]) rfl rfl 129 _ HBL.out (by rw [ul_size]; exact sz2) rfl (ul_one _) (Hid.out ?_))
            refine Lib.hid ?_
            go_wp2_with fail
            go_roundw
            case rel => exact ⟨x, (k : Int) - 1, k, rfl, rfl, by omega, by omega, by omega, HNX.out.1, HNX.out.2.1, HNX.out.2.2, HB4.out⟩
            case measure => simp [intOf] <;> omega
          · have hz34 : ¬ (k : Int) ≤ 34 := by omega
            have HNX := Lib.hid (root_next HX.out.1 HX.out.2.1 HX.out.2.2 true hov)
            have hnx : nxt k x s true = x := by unfold nxt; simp [hk34]
            rw [hnx] at HNX
            clear hov hnx
            go_wp2_with (refine wpList_store_row rfl 129 _ _ rfl w2.heap.size (ul [q2, q3]) rfl rfl 129 _ HBL.out (by rw [ul_size]; exact sz2) rfl (ul_one _) (Hid.out ?_))
            refine Lib.hid ?_
            go_wp2_with fail
            go_roundw
            case rel => exact ⟨x, (k : Int) - 1, k, rfl, rfl, by omega, by omega, by omega, HNX.out.1, HNX.out.2.1, HNX.out.2.2, HB4.out⟩
            case measure => simp [intOf] <;> omega
        · have f1 : ¬ (p : Int) < (y : Int) := by omega
          have n1 : decide (p < y) = false := by simp; omega
          have f2 : ((y : Int) == (p : Int)) = true := beq_iff_eq.2 (by omega)
          have f3 : (0 : Int) < (z : Int) := by omega
          have n3 : decide (0 < z) = true := by simp; omega
          have hov : over p (x + s) true = true := by rw [HOV.out]; exact decide_eq_true (by omega)
          clear hA hB hC
          by_cases hk34 : k ≤ 34
          · have hz34 : (k : Int) ≤ 34 := by omega
            have HNX := Lib.hid (root_next HX.out.1 HX.out.2.1 HX.out.2.2 true hov)
            have hnx : nxt k x s true = x := by unfold nxt; simp [hk34]
            rw [hnx] at HNX
            clear hov hnx
            go_wp2_with (refine wpList_store_row rfl 129 _ _ rfl w2.heap.size (ul [q2, q3]) rfl rfl 129 _ HBL.out (by rw [ul_size]; exact sz2) rfl (ul_one _) (Hid.out ?_))
            refine Lib.hid ?_
            go_wp2_with fail
            go_roundw
            case rel => exact ⟨x, (k : Int) - 1, k, rfl, rfl, by omega, by omega, by omega, HNX.out.1, HNX.out.2.1, HNX.out.2.2, HB4.out⟩
            case measure => simp [intOf] <;> omega
          · have hz34 : ¬ (k : Int) ≤ 34 := by omega
            have HNX := Lib.hid (root_next HX.out.1 HX.out.2.1 HX.out.2.2 true hov)
            have hnx : nxt k x s true = x := by unfold nxt; simp [hk34]
            rw [hnx] at HNX
            clear hov hnx
            go_wp2_with (refine wpList_store_row rfl 129 _ _ rfl w2.heap.size (ul [q2, q3]) rfl rfl 129 _ HBL.out (by rw [ul_size]; exact sz2) rfl (ul_one _) (Hid.out ?_))
            refine Lib.hid ?_
            go_wp2_with fail
            go_roundw
            case rel => exact ⟨x, (k : Int) - 1, k, rfl, rfl, by omega, by omega, by omega, HNX.out.1, HNX.out.2.1, HNX.out.2.2, HB4.out⟩
            case measure => simp [intOf] <;> omega
        · have f1 : ¬ (p : Int) < (y : Int) := by omega
          have n1 : decide (p < y) = false := by simp; omega
          have f2 : ((y : Int) == (p : Int)) = true := beq_iff_eq.2 (by omega)
          have f3 : ¬ (0 : Int) < (z : Int) := by omega
          have n3 : decide (0 < z) = false := by simp; omega
          have f4 : (0 : Int) < (q3 : Int) := by omega
          have n4 : decide (0 < q3) = true := by simp; omega
          have hov : over p (x + s) true = true := by rw [HOV.out]; exact decide_eq_true (by omega)
          clear hA hB hC hD
          by_cases hk34 : k ≤ 34
          · have hz34 : (k : Int) ≤ 34 := by omega
            have HNX := Lib.hid (root_next HX.out.1 HX.out.2.1 HX.out.2.2 true hov)
            have hnx : nxt k x s true = x := by unfold nxt; simp [hk34]
            rw [hnx] at HNX
            clear hov hnx
            go_wp2_with (refine wpList_store_row rfl 129 _ _ rfl w2.heap.size (ul [q2, q3]) rfl rfl 129 _ HBL.out (by rw [ul_size]; exact sz2) rfl (ul_one _) (Hid.out ?_))
            refine Lib.hid ?_
            go_wp2_with fail
            go_roundw
            case rel => exact ⟨x, (k : Int) - 1, k, rfl, rfl, by omega, by omega, by omega, HNX.out.1, HNX.out.2.1, HNX.out.2.2, HB4.out⟩
            case measure => simp [intOf] <;> omega
          · have hz34 : ¬ (k : Int) ≤ 34 := by omega
            have HNX := Lib.hid (root_next HX.out.1 HX.out.2.1 HX.out.2.2 true hov)
            have hnx : nxt k x s true = x := by unfold nxt; simp [hk34]
            rw [hnx] at HNX
            clear hov hnx
            go_wp2_with (refine wpList_store_row rfl 129 _ _ rfl w2.heap.size (ul [q2, q3]) rfl rfl 129 _ HBL.out (by rw [ul_size]; exact sz2) rfl (ul_one _) (Hid.out ?_))
            refine Lib.hid ?_
            go_wp2_with fail
            go_roundw
            case rel => exact ⟨x, (k : Int) - 1, k, rfl, rfl, by omega, by omega, by omega, HNX.out.1, HNX.out.2.1, HNX.out.2.2, HB4.out⟩
            case measure => simp [intOf] <;> omega
        · have f1 : ¬ (p : Int) < (y : Int) := by omega
          have n1 : decide (p < y) = false := by simp; omega
          have f2 : ((y : Int) == (p : Int)) = true := beq_iff_eq.2 (by omega)
          have f3 : ¬ (0 : Int) < (z : Int) := by omega
          have n3 : decide (0 < z) = false := by simp; omega
          have f4 : ¬ (0 : Int) < (q3 : Int) := by omega
          have n4 : decide (0 < q3) = false := by simp; omega
          have hov : over p (x + s) true = false := by rw [HOV.out]; exact decide_eq_false (by omega)
          clear hA hB hC hD
          by_cases hk34 : k ≤ 34
          · have hz34 : (k : Int) ≤ 34 := by omega
            have HNX := Lib.hid (root_next HX.out.1 HX.out.2.1 HX.out.2.2 false hov)
            have hnx : nxt k x s false = x + s := by unfold nxt; simp [hk34]
            rw [hnx] at HNX
            clear hov hnx
            go_wp2_with (refine wpList_store_row rfl 129 _ _ rfl w2.heap.size (ul [q2, q3]) rfl rfl 129 _ HBL.out (by rw [ul_size]; exact sz2) rfl (ul_one _) (Hid.out ?_))
            refine Lib.hid ?_
            go_wp2_with fail
            go_roundw
            case rel => exact ⟨x + s, (k : Int) - 1, k, by rw [← HTT.out], rfl, by omega, by omega, by omega, HNX.out.1, HNX.out.2.1, HNX.out.2.2, HB4.out⟩
            case measure => simp [intOf] <;> omega
          · have hz34 : ¬ (k : Int) ≤ 34 := by omega
            have HNX := Lib.hid (root_next HX.out.1 HX.out.2.1 HX.out.2.2 false hov)
            have hnx : nxt k x s false = x := by unfold nxt; simp [hk34]
            rw [hnx] at HNX
            clear hov hnx
            go_wp2_with (refine wpList_store_row rfl 129 _ _ rfl w2.heap.size (ul [q2, q3]) rfl rfl 129 _ HBL.out (by rw [ul_size]; exact sz2) rfl (ul_one _) (Hid.out ?_))
            refine Lib.hid ?_
            go_wp2_with fail
            go_roundw
            case rel => exact ⟨x, (k : Int) - 1, k, rfl, rfl, by omega, by omega, by omega, HNX.out.1, HNX.out.2.1, HNX.out.2.2, HB4.out⟩
            case measure => simp [intOf] <;> omega
        · have f1 : ¬ (p : Int) < (y : Int) := by omega
          have n1 : decide (p < y) = false := by simp; omega
          have f2 : ((y : Int) == (p : Int)) = false := beq_eq_false_iff_ne.2 (by omega)
          have n2 : decide (y = p) = false := by simp; omega
          have hov : over p (x + s) true = false := by rw [HOV.out]; exact decide_eq_false (by omega)
          clear hA hB
          by_cases hk34 : k ≤ 34
          · have hz34 : (k : Int) ≤ 34 := by omega
            have HNX := Lib.hid (root_next HX.out.1 HX.out.2.1 HX.out.2.2 false hov)
            have hnx : nxt k x s false = x + s := by unfold nxt; simp [hk34]
            rw [hnx] at HNX
            clear hov hnx
            go_wp2_with (refine wpList_store_row rfl 129 _ _ rfl w2.heap.size (ul [q2, q3]) rfl rfl 129 _ HBL.out (by rw [ul_size]; exact sz2) rfl (ul_one _) (Hid.out ?_))
            refine Lib.hid ?_
            go_wp2_with fail
            go_roundw
            case rel => exact ⟨x + s, (k : Int) - 1, k, by rw [← HTT.out], rfl, by omega, by omega, by omega, HNX.out.1, HNX.out.2.1, HNX.out.2.2, HB4.out⟩
            case measure => simp [intOf] <;> omega
          · have hz34 : ¬ (k : Int) ≤ 34 := by omega
            have HNX := Lib.hid (root_next HX.out.1 HX.out.2.1 HX.out.2.2 false hov)
            have hnx : nxt k x s false = x := by unfold nxt; simp [hk34]
            rw [hnx] at HNX
            clear hov hnx
            go_wp2_with (refine wpList_store_row rfl 129 _ _ rfl w2.heap.size (ul [q2, q3]) rfl rfl 129 _ HBL.out (by rw [ul_size]; exact sz2) rfl (ul_one _) (Hid.out ?_))
            refine Lib.hid ?_
            go_wp2_with fail
            go_roundw
            case rel => exact ⟨x, (k : Int) - 1, k, rfl, rfl, by omega, by omega, by omega, HNX.out.1, HNX.out.2.1, HNX.out.2.2, HB4.out⟩
            case measure => simp [intOf] <;> omega
    · have hz0 : ¬ (0 : Int) ≤ z := hz
      have hm0 : m = 0 := by omega
      subst hm0
      have HB := Lib.hid hb
      have hfin : Sh.rootFrom p true 0 x = Sh.rootFrom p true 35 0 := hrf
      have hr : Sh.root p true = x % 4294967296 := by unfold Sh.root; rw [← hfin]; rfl
      have HR := Lib.hid hr
      have hx35 : x ≤ 34359738368 := by have h1 : (2 : Nat) ^ 35 = 34359738368 := rfl; have h2 : (2 : Nat) ^ (min 0 35) = 1 := rfl; omega
      have mk := mask32 x (by omega)
      obtain ⟨y, hy⟩ : ∃ y, x % 4294967296 = y := ⟨_, rfl⟩
      rw [hy] at mk hr
      have hyl : y < 4294967296 := by omega
      have hR : R (BitVec.ofNat 32 (Sh.root p true)) = (y : Int) := by rw [hr]; unfold R; rw [BitVec.toNat_ofNat]; omega
      have HRR := Lib.hid hR
      clear hb hrf hfin hr hx h35 hR hy
      go_wp2_with fail
      go_ret
      exact ⟨by rw [HRR.out]; rfl, HB.out⟩
end Go.Proofs.YtfjdcopndkdbmaaGreatDoor

namespace Go.Proofs.YtfjdcopndkdbmaaGreatDoor
open Go.RowKit

theorem R_add4b (a b c d : BitVec 32) : (R a + R b + R c + R d) % 4294967296 = R (a + b + c + d) := R_add4 a b c d
theorem byte_at (s : ByteArray) (i : Nat) (hi : i < s.size) (W : World) : (Instr.index 9 (.string s) (.int .i64 (i : Int))).run Tryz.prog W = .ok (.int .u8 (R (zw (s.data.toList.getD i 0)))) W := by
  rw [run_index_string W 9 s .i64 (i : Int) Tryz.underlying9, dif_pos ⟨by omega, by omega⟩, R_zw]
  have h : s.data.toList[i]? = some s[i] := by simp [hi]; rfl
  have h2 : s.data.toList.getD i 0 = s[i] := by rw [List.getD_eq_getElem?_getD, h]; rfl
  rw [h2]
  rfl
theorem Blk.new4 (w : World) (o1 o2 o3 : Obj) (t : TypeId) (cs : Array Value) : Blk ((((w.alloc o1).alloc o2).alloc o3).alloc (.cells cs t)) (w.heap.size + 1 + 1 + 1) t cs := by
  have := Blk.new (((w.alloc o1).alloc o2).alloc o3) t cs
  simpa using this
set_option maxRecDepth 100000 in
set_option maxHeartbeats 8000000 in
theorem ref_block (h : Sh.V) (hh : h.length = 8) (s : ByteArray) (hs : s.size = 64) (w : World) :
    Calls Tryz.prog 74 #[.agg (ru h), .agg (ru Sh.K), .string s] w fun e w' => e = .returned (.agg (ru (blk h s.data.toList))) ∧ Below w.heap.size w w' := by
  obtain ⟨KK, hKK⟩ : ∃ K, Sh.K = K := ⟨_, rfl⟩
  have HKK := Lib.hid hKK
  have hKl : KK.length = 64 := by rw [← hKK]; rfl
  rw [hKK]
  clear hKK
  go_enter Tryz.func74, Tryz.ntmps74
  go_wp2_with fail
  go_loopw [8, 9, 10] (fun i _ _ wr => ∃ (k : Nat) (l : Sh.V), i = .int .i64 (k : Int) ∧ k ≤ 64 ∧ Fill (W64 s.data.toList) k l ∧ Blk wr w.heap.size 116 (ru h) ∧ Blk wr (w.heap.size + 1) 117 (ru KK) ∧ Blk wr (w.heap.size + 1 + 1) 116 (ru (List.replicate 8 0)) ∧ Blk wr (w.heap.size + 1 + 1 + 1) 117 (ru l) ∧ Below w.heap.size w wr ∧ w.heap.size + 4 ≤ wr.heap.size)
    (fun i _ _ _ => 64 - (intOf i).toNat)
  case atStart =>
    refine ⟨0, List.replicate 64 0, rfl, by omega, ?_, ?_, ?_, ?_, ?_, ?_, ?_⟩
    · have := Fill.zero (W64 s.data.toList)
      rw [W64_length] at this
      exact this
    · exact (((Blk.new w _ _).alloc _).alloc _).alloc _
    · exact ((Blk.new2 _ _ _ _).alloc _).alloc _
    · exact (Blk.new3 _ _ _ _ _).alloc _
    · rw [ru_zeros]
      exact Blk.new4 _ _ _ _ _ _
    · exact ((((Below.refl _ w).alloc (Nat.le_refl _) _).alloc (by simp) _).alloc (by simp; omega) _).alloc (by simp; omega) _
    · simp
  case round =>
    obtain ⟨k, l, rfl, hk, HF, H0, H1, H2, H3, HB, hsz⟩ := hrel
    have hHF := Lib.hid HF
    have hH0 := Lib.hid H0
    have hH1 := Lib.hid H1
    have hH2 := Lib.hid H2
    have hH3 := Lib.hid H3
    have hHB := Lib.hid HB
    have hlen : l.length = 64 := by rw [HF.len, W64_length]
    by_cases hk64 : k < 64
    · by_cases hlt : k < 16
      · have d1 := Blk.ru H3 k (by omega)
        have d2 := Blk.frozen H3 k
        have b0 := byte_at s (4 * k) (by omega)
        have b1 := byte_at s (4 * k + 1) (by omega)
        have b2 := byte_at s (4 * k + 2) (by omega)
        have b3 := byte_at s (4 * k + 3) (by omega)
        rw [show ((4 * k : Nat) : Int) = 4 * (k : Int) by omega] at b0
        rw [show ((4 * k + 1 : Nat) : Int) = 4 * (k : Int) + 1 by omega] at b1
        rw [show ((4 * k + 2 : Nat) : Int) = 4 * (k : Int) + 2 by omega] at b2
        rw [show ((4 * k + 3 : Nat) : Int) = 4 * (k : Int) + 3 by omega] at b3
        have hbe := be4_add s.data.toList k
        generalize zw (s.data.toList.getD (4 * k) 0) = a0 at b0 hbe
        generalize zw (s.data.toList.getD (4 * k + 1) 0) = a1 at b1 hbe
        generalize zw (s.data.toList.getD (4 * k + 2) 0) = a2 at b2 hbe
        generalize zw (s.data.toList.getD (4 * k + 3) 0) = a3 at b3 hbe
        generalize l.getD k 0 = x0 at d1
        have HBE := Lib.hid hbe
        have ki : (k : Int) < 16 := by omega
        clear HF H0 H1 H2 H3 HB hbe
        go_wp2_with fail
        go_region
        go_wp2_with fail
        have HV : Hid ((R a0 % 4294967296 * 16777216 + R a1 % 4294967296 * 65536 + R a2 % 4294967296 * 256 + R a3) % 4294967296 = R (Sh.be4 s.data.toList k)) := by
          refine Lib.hid ?_
          rw [HBE.out]
          unfold R
          simp only [BitVec.toNat_add, BitVec.toNat_shiftLeft, Nat.shiftLeft_eq]
          omega
        rw [HV.out]
        go_roundw
        case rel =>
          exact ⟨k + 1, l.set k (Sh.be4 s.data.toList k), by go_num, by omega, hHF.out.next (by rw [W64_length]; omega) (W64_low _ k hlt).symm, ((hH0.out.far (by simp; omega) _)).drew, ((hH1.out.far (by simp) _)).drew, ((hH2.out.far (by simp) _)).drew, (hH3.out.ruSet k _).drew, (hHB.out.setCell (by simp; omega) _).drew, by simpa [World.setCell] using hsz⟩
        case measure => simp [intOf]; omega
      · obtain ⟨n, hkn⟩ : ∃ n, k = n + 16 := ⟨k - 16, by omega⟩
        have c0 := Blk.ru H3 n (by omega)
        have c1 := Blk.ru H3 (n + 1) (by omega)
        have c2 := Blk.ru H3 (n + 9) (by omega)
        have c3 := Blk.ru H3 (n + 14) (by omega)
        have d1 := Blk.ru H3 k (by omega)
        have d2 := Blk.frozen H3 k
        have hre := W64_rec s.data.toList k (by omega) hk64
        rw [show k - 16 = n by omega, show k - 15 = n + 1 by omega, show k - 7 = n + 9 by omega, show k - 2 = n + 14 by omega, ← HF.low n (by omega), ← HF.low (n + 1) (by omega), ← HF.low (n + 9) (by omega), ← HF.low (n + 14) (by omega)] at hre
        generalize l.getD n 0 = a0 at c0 hre
        generalize l.getD (n + 1) 0 = a1 at c1 hre
        generalize l.getD (n + 9) 0 = a2 at c2 hre
        generalize l.getD (n + 14) 0 = a3 at c3 hre
        generalize l.getD k 0 = x0 at d1
        have HRE := Lib.hid hre
        have e1 : (k : Int) - 15 = ((n + 1 : Nat) : Int) := by omega
        have e2 : (k : Int) - 2 = ((n + 14 : Nat) : Int) := by omega
        have e3 : (k : Int) - 16 = (n : Int) := by omega
        obtain ⟨m, hm⟩ : ∃ m, n + 9 = m := ⟨_, rfl⟩
        rw [hm] at c2
        have e4 : (k : Int) - 7 = (m : Int) := by omega
        have w1 := IntWalk.i64_in (n : Int) (by omega)
        have w2 := IntWalk.i64_in (m : Int) (by omega)
        have w3 := IntWalk.i64_in (k : Int) (by omega)
        have nl : (n : Int) < 64 := by omega
        have ml : (m : Int) < 64 := by omega
        clear hm
        have hki : (k : Int) < 64 := by omega
        have hki2 : ¬ (k : Int) < 16 := by omega
        clear hkn
        have r1 : R a1 / (8 : Int) = R (a1 >>> 3) := R_shr _ 3
        have r2 : R a3 / (1024 : Int) = R (a3 >>> 10) := R_shr _ 10
        have x1 := R_xor (Sh.rr a1 7) (Sh.rr a1 18)
        have x2 : bits BinOp.xor IntKind.u32 (R (Sh.rr a1 7 ^^^ Sh.rr a1 18)) (R (a1 >>> 3)) = R (Sh.s0 a1) := R_xor _ _
        have x3 := R_xor (Sh.rr a3 17) (Sh.rr a3 19)
        have x4 : bits BinOp.xor IntKind.u32 (R (Sh.rr a3 17 ^^^ Sh.rr a3 19)) (R (a3 >>> 10)) = R (Sh.s1 a3) := R_xor _ _
        clear HF H0 H1 H2 H3 HB hre hlen
        go_wp2_with fail
        go_still_tail 29, (by kernel_rfl)
        still_call (turn_7 a1 _)
        repeat still_step
        still_call (turn_18 a1 _)
        repeat still_step
        still_call (turn_17 a3 _)
        repeat still_step
        still_call (turn_19 a3 _)
        repeat still_step
        refine wpStill_nil ?_
        change wpList _ _ _ _ _ wr.drew
        have d1' : wr.drew.cell? ⟨w.heap.size + 1 + 1 + 1, k, none⟩ = some (.int .u32 (R x0)) := d1
        have d2' : wr.drew.frozen? ⟨w.heap.size + 1 + 1 + 1, k, none⟩ = false := d2
        go_wp2_with fail
        have HV : Hid ((R a0 + R a2 + R (Sh.s0 a1) + R (Sh.s1 a3)) % 4294967296 = R ((W64 s.data.toList).getD k 0)) := by
          refine Lib.hid ?_
          rw [HRE.out, R_add4]
          congr 1
          rw [BitVec.add_assoc a0, BitVec.add_comm a2, ← BitVec.add_assoc a0]
        rw [HV.out]
        go_roundw
        case rel => exact ⟨k + 1, l.set k ((W64 s.data.toList).getD k 0), by go_num, by omega, hHF.out.next (by rw [W64_length]; omega) rfl, ((hH0.out.far (by simp; omega) _)).drew, ((hH1.out.far (by simp) _)).drew, ((hH2.out.far (by simp) _)).drew, (hH3.out.ruSet k _).drew, (hHB.out.setCell (by simp; omega) _).drew, by simpa [World.setCell] using hsz⟩
        case measure => simp [intOf]; omega
    · obtain rfl : k = 64 := by omega
      have hl := hHF.out.done (by rw [W64_length]; exact Nat.le_refl 64)
      subst hl
      have hsh := sz8_of hh
      clear HF H0 H1 H2 H3 HB hlen
      rw [show ((64 : Nat) : Int) = 64 from rfl]
      go_wp2_with (first | (refine wpList_load_row rfl 116 _ rfl w.heap.size rfl 116 (ru h) (0, 0) _ hH0.out Tryz.underlying116 rfl hsh ?_) | (refine wpList_store_row rfl 116 _ _ rfl wr.heap.size (ru h) rfl rfl 116 _ (Blk.new wr _ _) hsh (by rw [ru_size, hh]; rfl) (ru_one _) (Hid.out ?_)))
      have C0 := Lib.hid ((hH0.out.alloc (.cells #[.int .u32 0, .int .u32 0, .int .u32 0, .int .u32 0, .int .u32 0, .int .u32 0, .int .u32 0, .int .u32 0] 116)).rowFar (g' := wr.heap.size) (by omega) (ru h))
      have C1 := Lib.hid ((hH1.out.alloc (.cells #[.int .u32 0, .int .u32 0, .int .u32 0, .int .u32 0, .int .u32 0, .int .u32 0, .int .u32 0, .int .u32 0] 116)).rowFar (g' := wr.heap.size) (by omega) (ru h))
      have C2 := Lib.hid ((hH2.out.alloc (.cells #[.int .u32 0, .int .u32 0, .int .u32 0, .int .u32 0, .int .u32 0, .int .u32 0, .int .u32 0, .int .u32 0] 116)).rowFar (g' := wr.heap.size) (by omega) (ru h))
      have C3 := Lib.hid ((hH3.out.alloc (.cells #[.int .u32 0, .int .u32 0, .int .u32 0, .int .u32 0, .int .u32 0, .int .u32 0, .int .u32 0, .int .u32 0] 116)).rowFar (g' := wr.heap.size) (by omega) (ru h))
      have C4 := Lib.hid ((Blk.new wr 116 #[.int .u32 0, .int .u32 0, .int .u32 0, .int .u32 0, .int .u32 0, .int .u32 0, .int .u32 0, .int .u32 0]).row (ru h))
      have CB := Lib.hid (Kept.below hHB.out (Kept.setRow (S := fun b => b = wr.heap.size) (Kept.alloc (Kept.refl _ wr) (.cells #[.int .u32 0, .int .u32 0, .int .u32 0, .int .u32 0, .int .u32 0, .int .u32 0, .int .u32 0, .int .u32 0] 116)) (.inl rfl) (ru h)) (fun x hx => by omega) (by omega))
      obtain ⟨g, hg⟩ : ∃ g, wr.heap.size = g := ⟨_, rfl⟩
      rw [hg] at C0 C1 C2 C3 C4 CB ⊢
      have hgl : w.heap.size + 4 ≤ g := by omega
      generalize (wr.alloc (.cells #[.int .u32 0, .int .u32 0, .int .u32 0, .int .u32 0, .int .u32 0, .int .u32 0, .int .u32 0, .int .u32 0] 116)).setRow g (ru h) = w2 at C0 C1 C2 C3 C4 CB ⊢
      clear hg hsz hHF hH0 hH1 hH2 hH3 hHB hsh
      obtain ⟨h0, h1, h2, h3, h4, h5, h6, h7, rfl⟩ := eight hh
      refine Lib.hid ?_
      go_wp2_with fail
      go_loopw [12, 13, 14, 15, 16] (fun i _ _ _ _ wr => ∃ (k : Nat) (x0 x1 x2 x3 x4 x5 x6 x7 : BitVec 32), i = .int .i64 (k : Int) ∧ k ≤ 64 ∧ Sh.rounds (W64 s.data.toList) [h0, h1, h2, h3, h4, h5, h6, h7] k = [x0, x1, x2, x3, x4, x5, x6, x7] ∧ Blk wr w.heap.size 116 (ru [h0, h1, h2, h3, h4, h5, h6, h7]) ∧ Blk wr (w.heap.size + 1) 117 (ru KK) ∧ Blk wr (w.heap.size + 1 + 1) 116 (ru (List.replicate 8 0)) ∧ Blk wr (w.heap.size + 1 + 1 + 1) 117 (ru (W64 s.data.toList)) ∧ Blk wr g 116 (ru [x0, x1, x2, x3, x4, x5, x6, x7]) ∧ Below w.heap.size w wr)
        (fun i _ _ _ _ _ => 64 - (intOf i).toNat)
      case atStart => exact ⟨0, h0, h1, h2, h3, h4, h5, h6, h7, rfl, by omega, rfl, C0.out, C1.out, C2.out, C3.out, C4.out, CB.out⟩
      case round =>
        clear C0 C1 C2 C3 C4 CB
        obtain ⟨k, x0, x1, x2, x3, x4, x5, x6, x7, rfl, hk, hro, C0, C1, C2, C3, C4, CB⟩ := hrel
        have D0 := Lib.hid C0
        have D1 := Lib.hid C1
        have D2 := Lib.hid C2
        have D3 := Lib.hid C3
        have D4 := Lib.hid C4
        have DB := Lib.hid CB
        have HRO := Lib.hid hro
        by_cases hlt : k < 64
        · have cK := Blk.ru C1 k (by omega)
          have cW := Blk.ru C3 k (by rw [W64_length]; omega)
          have HNX := Lib.hid (rounds_next _ _ k hro)
          rw [HKK.out] at HNX
          generalize KK.getD k 0 = kk at cK HNX
          generalize (W64 s.data.toList).getD k 0 = ww at cW HNX
          have c0 : wr.cell? ⟨g, 0, none⟩ = some (.int .u32 (R x0)) := Blk.ru C4 0 (by simp)
          have c1 : wr.cell? ⟨g, 1, none⟩ = some (.int .u32 (R x1)) := Blk.ru C4 1 (by simp)
          have c2 : wr.cell? ⟨g, 2, none⟩ = some (.int .u32 (R x2)) := Blk.ru C4 2 (by simp)
          have c3 : wr.cell? ⟨g, 3, none⟩ = some (.int .u32 (R x3)) := Blk.ru C4 3 (by simp)
          have c4 : wr.cell? ⟨g, 4, none⟩ = some (.int .u32 (R x4)) := Blk.ru C4 4 (by simp)
          have c5 : wr.cell? ⟨g, 5, none⟩ = some (.int .u32 (R x5)) := Blk.ru C4 5 (by simp)
          have c6 : wr.cell? ⟨g, 6, none⟩ = some (.int .u32 (R x6)) := Blk.ru C4 6 (by simp)
          have c7 : wr.cell? ⟨g, 7, none⟩ = some (.int .u32 (R x7)) := Blk.ru C4 7 (by simp)
          have ki : (k : Int) < 64 := by omega
          have n4 : bits BinOp.xor IntKind.u32 IntKind.u32.max (R x4) = R (~~~ x4) := R_com x4
          have a1 := R_and x4 x5
          have a2 := R_and (~~~ x4) x6
          have a3 : bits BinOp.or IntKind.u32 (R (x4 &&& x5)) (R (~~~ x4 &&& x6)) = R (Sh.ch x4 x5 x6) := R_or _ _
          have m1 := R_and x0 x1
          have m2 := R_and x0 x2
          have m3 := R_and x1 x2
          have m4 := R_or (x0 &&& x1) (x0 &&& x2)
          have m5 : bits BinOp.or IntKind.u32 (R (x0 &&& x1 ||| x0 &&& x2)) (R (x1 &&& x2)) = R (Sh.maj x0 x1 x2) := R_or _ _
          have t1 := R_xor (Sh.rr x4 6) (Sh.rr x4 11)
          have t2 : bits BinOp.xor IntKind.u32 (R (Sh.rr x4 6 ^^^ Sh.rr x4 11)) (R (Sh.rr x4 25)) = R (Sh.S1 x4) := R_xor _ _
          have u1 := R_xor (Sh.rr x0 2) (Sh.rr x0 13)
          have u2 : bits BinOp.xor IntKind.u32 (R (Sh.rr x0 2 ^^^ Sh.rr x0 13)) (R (Sh.rr x0 22)) = R (Sh.S0 x0) := R_xor _ _
          clear hro C0 C1 C2 C3 C4 CB
          go_wp2_with fail
          go_big_quiet (exact Calls.quiet_of_same (turn_all _ _ (by decide) _))
          go_wp2_with fail
          generalize hq : wr.drewN _ = w3
          have b0 : w3.cell? ⟨g, 0, none⟩ = some (.int .u32 (R x0)) := by rw [← hq]; exact c0
          have b1 : w3.cell? ⟨g, 1, none⟩ = some (.int .u32 (R x1)) := by rw [← hq]; exact c1
          have b2 : w3.cell? ⟨g, 2, none⟩ = some (.int .u32 (R x2)) := by rw [← hq]; exact c2
          have b3 : w3.cell? ⟨g, 3, none⟩ = some (.int .u32 (R x3)) := by rw [← hq]; exact c3
          have b4 : w3.cell? ⟨g, 4, none⟩ = some (.int .u32 (R x4)) := by rw [← hq]; exact c4
          have b5 : w3.cell? ⟨g, 5, none⟩ = some (.int .u32 (R x5)) := by rw [← hq]; exact c5
          have b6 : w3.cell? ⟨g, 6, none⟩ = some (.int .u32 (R x6)) := by rw [← hq]; exact c6
          have b7 : w3.cell? ⟨g, 7, none⟩ = some (.int .u32 (R x7)) := by rw [← hq]; exact c7
          have F0 := Lib.hid (show Blk w3 w.heap.size 116 (ru [h0, h1, h2, h3, h4, h5, h6, h7]) by rw [← hq]; exact D0.out)
          have F1 := Lib.hid (show Blk w3 (w.heap.size + 1) 117 (ru KK) by rw [← hq]; exact D1.out)
          have F2 := Lib.hid (show Blk w3 (w.heap.size + 1 + 1) 116 (ru (List.replicate 8 0)) by rw [← hq]; exact D2.out)
          have F3 := Lib.hid (show Blk w3 (w.heap.size + 1 + 1 + 1) 117 (ru (W64 s.data.toList)) by rw [← hq]; exact D3.out)
          have F4 := Lib.hid (show Blk w3 g 116 (ru [x0, x1, x2, x3, x4, x5, x6, x7]) by rw [← hq]; exact D4.out)
          have FB := Lib.hid (show Below w.heap.size w w3 by rw [← hq]; exact below_drewN DB.out _)
          clear D0 D1 D2 D3 D4 DB c0 c1 c2 c3 c4 c5 c6 c7 cK cW hq
          go_big_quiet (exact Calls.quiet_of_same (turn_all _ _ (by decide) _))
          generalize hq : w3.drewN _ = w4
          have c0 : w4.cell? ⟨g, 0, none⟩ = some (.int .u32 (R x0)) := by rw [← hq]; exact b0
          have c1 : w4.cell? ⟨g, 1, none⟩ = some (.int .u32 (R x1)) := by rw [← hq]; exact b1
          have c2 : w4.cell? ⟨g, 2, none⟩ = some (.int .u32 (R x2)) := by rw [← hq]; exact b2
          have c3 : w4.cell? ⟨g, 3, none⟩ = some (.int .u32 (R x3)) := by rw [← hq]; exact b3
          have c4 : w4.cell? ⟨g, 4, none⟩ = some (.int .u32 (R x4)) := by rw [← hq]; exact b4
          have c5 : w4.cell? ⟨g, 5, none⟩ = some (.int .u32 (R x5)) := by rw [← hq]; exact b5
          have c6 : w4.cell? ⟨g, 6, none⟩ = some (.int .u32 (R x6)) := by rw [← hq]; exact b6
          have c7 : w4.cell? ⟨g, 7, none⟩ = some (.int .u32 (R x7)) := by rw [← hq]; exact b7
          have G0 := Lib.hid (show Blk w4 w.heap.size 116 (ru [h0, h1, h2, h3, h4, h5, h6, h7]) by rw [← hq]; exact F0.out)
          have G1 := Lib.hid (show Blk w4 (w.heap.size + 1) 117 (ru KK) by rw [← hq]; exact F1.out)
          have G2 := Lib.hid (show Blk w4 (w.heap.size + 1 + 1) 116 (ru (List.replicate 8 0)) by rw [← hq]; exact F2.out)
          have G3 := Lib.hid (show Blk w4 (w.heap.size + 1 + 1 + 1) 117 (ru (W64 s.data.toList)) by rw [← hq]; exact F3.out)
          have G4 := Lib.hid (show Blk w4 g 116 (ru [x0, x1, x2, x3, x4, x5, x6, x7]) by rw [← hq]; exact F4.out)
          have GB := Lib.hid (show Below w.heap.size w w4 by rw [← hq]; exact below_drewN FB.out _)
          clear F0 F1 F2 F3 F4 FB b0 b1 b2 b3 b4 b5 b6 b7 hq
          go_wp2_with (refine wpList_store_row rfl 116 _ _ rfl g _ rfl rfl 116 _ G4.out sz8 rfl (by simp [Value.oneCell']) (Hid.out ?_))
          have V0 : Hid ((R x7 + R (Sh.S1 x4) + R (Sh.ch x4 x5 x6) + R kk + R ww + (R (Sh.S0 x0) + R (Sh.maj x0 x1 x2))) % 4294967296 = R ((x7 + Sh.S1 x4 + Sh.ch x4 x5 x6 + kk + ww) + (Sh.S0 x0 + Sh.maj x0 x1 x2))) := by
            refine Lib.hid ?_
            unfold R
            simp only [BitVec.toNat_add]
            omega
          have V4 : Hid ((R x3 + (R x7 + R (Sh.S1 x4) + R (Sh.ch x4 x5 x6) + R kk + R ww)) % 4294967296 = R (x3 + (x7 + Sh.S1 x4 + Sh.ch x4 x5 x6 + kk + ww))) := by
            refine Lib.hid ?_
            unfold R
            simp only [BitVec.toNat_add]
            omega
          rw [V0.out, V4.out]
          have HE := Lib.hid (Kept.below GB.out (Kept.setRow (S := fun b => b = g) (Kept.refl _ w4) (.inl rfl) (ru [(x7 + Sh.S1 x4 + Sh.ch x4 x5 x6 + kk + ww) + (Sh.S0 x0 + Sh.maj x0 x1 x2), x0, x1, x2, x3 + (x7 + Sh.S1 x4 + Sh.ch x4 x5 x6 + kk + ww), x4, x5, x6])) (fun x hx => by omega) GB.out.size)
          refine Lib.hid ?_
          clear n4 a1 a2 a3 m1 m2 m3 m4 m5 t1 t2 u1 u2 c0 c1 c2 c3 c4 c5 c6 c7
          go_wp2_with fail
          go_roundw
          case rel => exact ⟨k + 1, _, x0, x1, x2, _, x4, x5, x6, by go_num, by omega, HNX.out, G0.out.rowFar (by omega) _, G1.out.rowFar (by omega) _, G2.out.rowFar (by omega) _, G3.out.rowFar (by omega) _, G4.out.row _, HE.out⟩
          case measure => simp [intOf]; omega
        · obtain rfl : k = 64 := by omega
          clear C0 C1 C2 C3 C4 CB
          rw [show ((64 : Nat) : Int) = 64 from rfl]
          have hX := hro
          have HW := Lib.hid (fun i (hi : i < 8) => blk_at [h0, h1, h2, h3, h4, h5, h6, h7] s.data.toList [x0, x1, x2, x3, x4, x5, x6, x7] hX rfl rfl i hi)
          have hwl := Lib.hid (blk_length [h0, h1, h2, h3, h4, h5, h6, h7] s.data.toList rfl)
          clear hX HRO hro
          go_wp2_with fail
          go_loopw [17] (fun i wr => ∃ (k : Nat) (l : Sh.V), i = .int .i64 (k : Int) ∧ k ≤ 8 ∧ Turn [h0, h1, h2, h3, h4, h5, h6, h7] (blk [h0, h1, h2, h3, h4, h5, h6, h7] s.data.toList) k l ∧ Blk wr w.heap.size 116 (ru l) ∧ Blk wr (w.heap.size + 1 + 1) 116 (ru (List.replicate 8 0)) ∧ Blk wr g 116 (ru [x0, x1, x2, x3, x4, x5, x6, x7]) ∧ Below w.heap.size w wr)
            (fun i _ => 8 - (intOf i).toNat)
          case atStart => exact ⟨0, _, rfl, by omega, ⟨by rw [hwl.out]; rfl, fun j hj => by omega, fun j _ => rfl⟩, D0.out, D2.out, D4.out, DB.out⟩
          case round =>
            clear D0 D1 D2 D3 D4 DB
            obtain ⟨k, l, rfl, hk, ht, E0, E2, E4, EB⟩ := hrel
            have HT := Lib.hid ht
            have hE0 := Lib.hid E0
            have hE2 := Lib.hid E2
            have hE4 := Lib.hid E4
            have hEB := Lib.hid EB
            have hll : l.length = 8 := by rw [ht.len, hwl.out]
            by_cases hlt : k < 8
            · have c0 := Blk.ru E0 k (by omega)
              have c1 := Blk.frozen E0 k
              have c2 := Blk.ru E4 k hlt
              have hv := HW.out k hlt
              rw [← ht.high k (Nat.le_refl _)] at hv
              generalize ([x0, x1, x2, x3, x4, x5, x6, x7] : Sh.V).getD k 0 = y at c2 hv
              generalize l.getD k 0 = z at c0 hv
              have ha := R_add z y
              have HV := Lib.hid hv
              have ki : (k : Int) < 8 := by omega
              clear ht E0 E2 E4 EB hv hll
              go_wp2_with fail
              go_region
              go_wp2_with fail
              go_roundw
              case rel => exact ⟨k + 1, l.set k (z + y), by go_num, by omega, HT.out.next (by rw [hwl.out]; omega) HV.out.symm, (hE0.out.ruSet k _).drew, (hE2.out.far (by simp; omega) _).drew, (hE4.out.far (by simp; omega) _).drew, (hEB.out.setCell (by simp) _).drew⟩
              case measure => simp [intOf]; omega
            · obtain rfl : k = 8 := by omega
              have hl := ht.done (by rw [hwl.out]; exact Nat.le_refl 8)
              rw [hl] at hE0
              have hs8 := sz8_of hwl.out
              clear ht E0 E2 E4 EB hll
              go_wp2_with (first | (refine wpList_load_row rfl 116 _ rfl w.heap.size rfl 116 (ru (blk [h0, h1, h2, h3, h4, h5, h6, h7] s.data.toList)) (0, 0) _ hE0.out Tryz.underlying116 rfl hs8 ?_) | (refine wpList_store_row rfl 116 _ _ rfl (w.heap.size + 1 + 1) (ru (blk [h0, h1, h2, h3, h4, h5, h6, h7] s.data.toList)) rfl rfl 116 (ru (List.replicate 8 0)) hE2.out hs8 (by rw [ru_size, ru_size, hwl.out]; rfl) (ru_one _) ?_))
              refine bodyPost_ret (results_cell_row rfl _ _ (w.heap.size + 1 + 1) 116 (ru (blk [h0, h1, h2, h3, h4, h5, h6, h7] s.data.toList)) (0, 0) _ rfl (hE2.out.row _) Tryz.underlying116 rfl hs8) rfl ?_
              exact ⟨rfl, Kept.below hEB.out (Kept.setRow (S := fun x => x = w.heap.size + 1 + 1) (Kept.refl _ _) (.inl rfl) _) (fun x hx => by omega) hEB.out.size⟩
end Go.Proofs.YtfjdcopndkdbmaaGreatDoor

namespace Go.Proofs.YtfjdcopndkdbmaaGreatDoor
open Go.RowKit

def strSz : Value → Nat
  | .string s => s.size
  | _ => 0
/-- A conversion whose run is known, at the list of operations. -/
theorem wpList_convert_run {P : Program} {w : World} {ops : Array Oper} {rest : List Oper} {o : Oper} {a : Act} {Q : Exit → Act → World → Prop} (hgd : o.guard = none) (x : Operand) (t u : TypeId)
    (ho : o.op = .convert t u x) (v v' : Value) (hx : a.eval x = v) (hr : (convert t u v).run P w = .ok v' w) (h : wpList P ops Q rest (a.put o.dst v') w) : wpList P ops Q (o :: rest) a w := by
  refine wpList_plain hgd fun K hK => ?_
  unfold Oper.wp execOp
  simp only [ho, Sem.run_bind, Sem.run_pure, Result.andThen_ok, hx, hr]
  exact hK _ _ h
theorem run_cut (T : ByteArray) (F : List UInt8) (hT : T = ba F) (a : Nat) (h : a + 64 ≤ F.length) (W : World) :
    (Instr.slice 9 (.string T) (some (.int .i64 (a : Int))) (some (.int .i64 ((a : Int) + 64))) none).run Tryz.prog W = .ok (.string (ba ((F.drop a).take 64))) W := by
  subst hT
  have hz := ba_size F
  rw [run_slice_string W _ (ba F) _ _ _ _ Tryz.underlying9 (by omega) (by omega) (by omega)]
  have e : (ba F).extract (a : Int).toNat ((a : Int) + 64).toNat = ba ((F.drop a).take 64) := by
    rw [show ((a : Int) + 64).toNat = a + 64 by omega, Int.toNat_natCast]
    apply ByteArray.ext
    simp [ba, List.extract_eq_take_drop]
  rw [e]
/-- A whole row loaded, in a region that is quiet. -/
theorem wpStill_load {P : Program} {ops : Array Oper} {w : World} {Q : Act → Prop} {a : Act} {o : Oper} {rest : List Oper} (hgd : o.guard = none) (ty : TypeId) (x : Operand) (ho : o.op = .load ty x)
    (g : Nat) (hx : a.eval x = .pointer (some ⟨g, 0, none⟩)) (v : Value) (hr : (loadVar ty ⟨g, 0, none⟩).run P w = .ok v w) (h : wpStill P ops w Q rest (a.put o.dst v)) : wpStill P ops w Q (o :: rest) a := by
  refine wpStill_step (fun K hK => ?_)
  have hwant : Region.wanted o (yielded ops a.tmps) = true := by simp [Region.wanted, hgd]
  rw [if_pos hwant]
  unfold Oper.still execOp
  simp only [ho, hx, Instr.loadAt, Instr.sureAddr, Sem.run_bind, Sem.run_pure, Result.andThen_ok, hr]
  rw [Oper.stillUpon_value]
  exact hK _ h
theorem own4 (wd : World) (t : TypeId) (v0 v1 v2 v3 : Value) : ∀ j u, ([v0, v1, v2, v3] : List Value)[j]? = some u → (wd.alloc (.cells #[v0, v1, v2, v3] t)).cell? ((⟨wd.heap.size, 0, none⟩ : Addr).add j) = some u := by
  intro j u hj
  have hadd : (⟨wd.heap.size, 0, none⟩ : Addr).add j = ⟨wd.heap.size, j, none⟩ := by unfold Addr.add; split <;> simp_all
  rw [hadd, (Blk.new wd _ _).cell]
  simpa using hj
theorem primes_length : Sh.primes.length = 64 := by decide
theorem K_at (k : Nat) (h : k < 64) : BitVec.ofNat 32 (Sh.root (Sh.primes.getD k 0) true) = Sh.K.getD k 0 := by
  rw [← Sh.roots_K]
  have hl : k < Sh.primes.length := h
  simp only [List.getD_eq_getElem?_getD, List.getElem?_map, List.getElem?_eq_getElem hl, Option.map_some, Option.getD_some]
theorem H_at (k : Nat) (h : k < 8) : BitVec.ofNat 32 (Sh.root (Sh.primes.getD k 0) false) = Sh.H0.getD k 0 := by
  rw [← Sh.roots_H]
  have hl : k < Sh.primes.length := by rw [primes_length]; omega
  simp only [List.getD_eq_getElem?_getD, List.getElem?_map, List.getElem?_take, if_pos h, List.getElem?_eq_getElem hl, Option.map_some, Option.getD_some]
theorem primes_at (k : Nat) (h : k < 64) : (cn Sh.primes)[k]? = some (.int .u64 ((Sh.primes.getD k 0 : Nat) : Int)) := by
  have hl : k < Sh.primes.length := h
  rw [cn_get _ k hl, List.getD_eq_getElem?_getD, List.getElem?_eq_getElem hl]
  rfl
set_option maxRecDepth 100000 in
set_option maxHeartbeats 8000000 in
theorem ref_sum (L : List UInt8) (hs : L.length ≤ 100000) (w : World) :
    Calls Tryz.prog 47 #[.string (ba L)] w fun e w' => e = .returned (.string (ba (dig L))) ∧ Below w.heap.size w w' := by
  have hsz : (ba L).size = L.length := ba_size L
  obtain ⟨n, hl⟩ : ∃ n, L.length = n := ⟨_, rfl⟩
  rw [hl] at hsz hs
  have HL := Lib.hid hl
  have hps : ba L ++ ⟨#[128]⟩ = ba (L ++ 128 :: List.replicate 0 0) := ba_append L [128]
  obtain ⟨s, hSL⟩ : ∃ s, ba L = s := ⟨_, rfl⟩
  rw [hSL] at hsz hps ⊢
  obtain ⟨T0, hT0⟩ : ∃ T, ba (L ++ 128 :: List.replicate 0 0) = T := ⟨_, rfl⟩
  rw [hT0] at hps
  have HT0 := Lib.hid hT0
  have HPS := Lib.hid hps
  clear hps hl hSL hT0
  obtain ⟨i0, hi, hz0, hz1, hz2⟩ := info_u8
  go_enter Tryz.func47, Tryz.ntmps47
  go_wp2_with fail
  refine (primes_any w).mono ?_
  rintro e w1 ⟨A, c, rfl, hA, hb⟩
  obtain ⟨a, hAa, -, -, -⟩ := hA 0 _ (primes_at 0 (by decide))
  subst hAa
  have HA := Lib.hid (hA.mono (T := fun b => b = w1.heap.size ∨ b = w1.heap.size + 1) (fun k hk h => by omega))
  have HB := Lib.hid hb
  clear hA hb
  go_wp2_with fail
  go_loopw [6] (fun i wr => ∃ (k : Nat) (lH lK : Sh.V), i = .int .i64 (k : Int) ∧ k ≤ 64 ∧ Fill Sh.H0 (min k 8) lH ∧ Fill Sh.K k lK ∧ Blk wr w1.heap.size 116 (ru lH) ∧ Blk wr (w1.heap.size + 1) 117 (ru lK) ∧ Kept (fun b => b = w1.heap.size ∨ b = w1.heap.size + 1) w1 wr)
    (fun i _ => 64 - (intOf i).toNat)
  case atStart =>
    refine ⟨0, List.replicate 8 0, List.replicate 64 0, rfl, by omega, Fill.zero Sh.H0, Fill.zero Sh.K, ?_, ?_, ?_⟩
    · exact (Blk.new w1 _ _).alloc _
    · rw [ru_zeros]
      exact Blk.new2 _ _ _ _
    · exact Kept.alloc (Kept.alloc (Kept.refl _ _) _) _
  case round =>
    obtain ⟨k, lH, lK, rfl, hk, hH, hK, b0, b1, hkp⟩ := hrel
    have HH := Lib.hid hH
    have HK := Lib.hid hK
    have B0 := Lib.hid b0
    have B1 := Lib.hid b1
    have HKP := Lib.hid hkp
    have hlH : lH.length = 8 := hH.len
    have hlK : lK.length = 64 := hK.len
    have hz1 := hkp.size
    have hz2 := b1.lt
    clear hH hK b0 b1 hkp
    by_cases hlt : k < 64
    · obtain ⟨a', ha1, -, -, ha3⟩ := (HA.out.kept HKP.out) k _ (primes_at k hlt)
      injection ha1 with ha1
      subst ha1
      have HKV := Lib.hid (K_at k hlt)
      have HHV := Lib.hid (H_at k)
      have HP := Lib.hid (Lies.kept HA.out HKP.out)
      obtain ⟨p, hp⟩ : ∃ p, Sh.primes.getD k 0 = p := ⟨_, rfl⟩
      have hpl : p < 18446744073709551616 := by
        have : ∀ j, j < 64 → Sh.primes.getD j 0 < 18446744073709551616 := by decide
        rw [← hp]; exact this k hlt
      rw [hp] at ha3 HKV HHV
      have HPE := Lib.hid hp
      clear hp
      have ki : (k : Int) < 64 := by omega
      go_wp2_with fail
      refine (root_cb p wr).mono ?_
      rintro e w2 ⟨rfl, hb2⟩
      have hk2 : Kept (fun b => b = w1.heap.size ∨ b = w1.heap.size + 1) w1 w2 := HKP.out.trans (Kept.of_below hb2) (fun x hx => .inl hx)
      have e0 : Blk w2 w1.heap.size 116 (ru lH) := B0.out.of (hb2.block _ B0.out.lt)
      have e1 : Blk w2 (w1.heap.size + 1) 117 (ru lK) := B1.out.of (hb2.block _ B1.out.lt)
      rw [HKV.out]
      have HP2 := Lib.hid (HP.out.below hb2)
      have d1 := Blk.ru e1 k (by omega)
      have d2 := Blk.frozen e1 k
      have HK2 := Lib.hid (hk2.setCell (p := ⟨w1.heap.size + 1, k, none⟩) (.inl (.inr rfl)) (.int .u32 (R (Sh.K.getD k 0))))
      have F0 := Lib.hid (e0.far (p := ⟨w1.heap.size + 1, k, none⟩) (by simp) (.int .u32 (R (Sh.K.getD k 0))))
      have F1 := Lib.hid (e1.ruSet k (Sh.K.getD k 0))
      generalize lK.getD k 0 = z1 at d1
      obtain ⟨KV, hKV⟩ : ∃ v, Sh.K.getD k 0 = v := ⟨_, rfl⟩
      rw [hKV] at HK2 F0 F1 ⊢
      have HKV2 := Lib.hid hKV
      clear e0 e1 hk2 hb2 hKV HKV B0 B1 HKP HP
      by_cases hk8 : k < 8
      · have k8 : (k : Int) < 8 := by omega
        have HV := Lib.hid (HHV.out hk8)
        have hm1 : min k 8 = k := by omega
        have hm2 : min (k + 1) 8 = k + 1 := by omega
        rw [hm1] at HH
        have hP3 := (Lies.kept HA.out HK2.out)
        obtain ⟨a', ha1, -, -, ha4⟩ := hP3 k _ (primes_at k hlt)
        injection ha1 with ha1
        subst ha1
        rw [HPE.out] at ha4
        clear hP3
        go_wp2_with fail
        refine (root_sq p _).mono ?_
        rintro e w3 ⟨rfl, hb3⟩
        rw [HV.out]
        have hk3 : Kept (fun b => b = w1.heap.size ∨ b = w1.heap.size + 1) w1 w3 := HK2.out.trans (Kept.of_below hb3) (fun x hx => .inl hx)
        have e0 : Blk w3 w1.heap.size 116 (ru lH) := F0.out.of (hb3.block _ F0.out.lt)
        have e1 : Blk w3 (w1.heap.size + 1) 117 (ru (lK.set k KV)) := F1.out.of (hb3.block _ F1.out.lt)
        have d3 := Blk.ru e0 k (by omega)
        have d4 := Blk.frozen e0 k
        have HK3 := Lib.hid (hk3.setCell (p := ⟨w1.heap.size, k, none⟩) (.inl (.inl rfl)) (.int .u32 (R (Sh.H0.getD k 0))))
        have G0 := Lib.hid (e0.ruSet k (Sh.H0.getD k 0))
        have G1 := Lib.hid (e1.far (p := ⟨w1.heap.size, k, none⟩) (by simp) (.int .u32 (R (Sh.H0.getD k 0))))
        generalize lH.getD k 0 = z2 at d3
        have HN := Lib.hid (HH.out.next (by show k < 8; exact hk8) (rfl : Sh.H0.getD k 0 = Sh.H0.getD k 0))
        have HN2 := Lib.hid (HK.out.next hlt HKV2.out.symm)
        rw [← hm2] at HN
        generalize Sh.H0.getD k 0 = HV0 at HK3 G0 G1 HN HV ⊢
        clear e0 e1 hk3 hb3 d1 d2 ha4 hm1 hm2
        go_wp2_with fail
        go_roundw
        case rel => exact ⟨k + 1, _, _, by go_num, by omega, HN.out, HN2.out, G0.out, G1.out, HK3.out⟩
        case measure => simp [intOf]; omega
      · have k8 : ¬ (k : Int) < 8 := by omega
        have HN2 := Lib.hid (HK.out.next hlt HKV2.out.symm)
        have hm2 : min (k + 1) 8 = min k 8 := by omega
        rw [← hm2] at HH
        clear hm2
        go_wp2_with fail
        go_roundw
        case rel => exact ⟨k + 1, _, _, by go_num, by omega, HH.out, HN2.out, F0.out, F1.out, HK2.out⟩
        case measure => simp [intOf]; omega
    · obtain rfl : k = 64 := by omega
      have h1 := HH.out.done (by decide)
      have h2 := HK.out.done (by decide)
      rw [h1] at B0
      rw [h2] at B1
      have HW := Lib.hid (Kept.below HB.out HKP.out (fun x hx => by have := HB.out.size; omega) HB.out.size)
      obtain ⟨g, hg⟩ : ∃ g, w1.heap.size = g := ⟨_, rfl⟩
      have hgw : w.heap.size ≤ g := by have := HB.out.size; omega
      rw [hg] at B0 B1
      rw [show ((64 : Nat) : Int) = 64 from rfl, hg]
      clear HH HK HKP h1 h2 hlH hlK hz1 hz2 hg HA HB hk hlt
      go_wp2_with fail
      rw [HPS.out]
      go_loopw [7] (fun t wr' => ∃ j : Nat, wr' = wr ∧ j ≤ Sh.zeros n ∧ t = .string (ba (L ++ 128 :: List.replicate j 0)))
        (fun t _ => Sh.zeros n + n + 1 - strSz t)
      case atStart => exact ⟨0, rfl, Nat.zero_le _, by rw [← HT0.out]⟩
      case round =>
        obtain ⟨j, rfl, hj, rfl⟩ := hrel
        have hT : (ba (L ++ 128 :: List.replicate j 0)).size = n + 1 + j := by
          rw [ba_size, List.length_append, HL.out, List.length_cons, List.length_replicate]
          omega
        have hnx : ba (L ++ 128 :: List.replicate j 0) ++ ⟨#[0]⟩ = ba (L ++ 128 :: List.replicate (j + 1) 0) := by
          rw [show (⟨#[0]⟩ : ByteArray) = ba [0] from rfl, ba_append, List.append_assoc, List.replicate_succ']
          rfl
        have hz : Sh.zeros n = (119 - n % 64) % 64 := rfl
        have HNX := Lib.hid hnx
        by_cases hjl : j < Sh.zeros n
        · have hm1 : ¬ (((n + 1 + j : Nat) : Int) % 64 = 56) := by omega
          have HZ := Lib.hid hjl
          obtain ⟨T, hTT⟩ : ∃ T, ba (L ++ 128 :: List.replicate j 0) = T := ⟨_, rfl⟩
          obtain ⟨m, hm⟩ : ∃ m, n + 1 + j = m := ⟨_, rfl⟩
          have hmm : m ≤ 100100 := by omega
          rw [hTT] at hT HNX ⊢
          rw [hm] at hT hm1
          have HT := Lib.hid hT
          have HM := Lib.hid hm
          clear hz hjl hnx hj hTT hm
          go_wp2_with fail
          have hT1 : (T ++ (⟨#[0]⟩ : ByteArray)).size = m + 1 := by rw [ByteArray.size_append, HT.out]; rfl
          go_roundw
          case rel => exact ⟨j + 1, by first | trivial | rfl, HZ.out, by rw [HNX.out]⟩
          case measure => simp only [strSz, hT1, HT.out]; have := HZ.out; have := HM.out; omega
        · obtain rfl : j = Sh.zeros n := by omega
          have hm1 : (((n + 1 + Sh.zeros n : Nat) : Int) % 64 = 56) := by omega
          obtain ⟨P, hP⟩ : ∃ P, L ++ 128 :: List.replicate (Sh.zeros n) 0 = P := ⟨_, rfl⟩
          have HPL := Lib.hid hP
          obtain ⟨m, hm⟩ : ∃ m, n + 1 + Sh.zeros n = m := ⟨_, rfl⟩
          rw [hP] at hT ⊢
          rw [hm] at hT hm1
          have HPS : Hid (P.length = m) := Lib.hid (by rw [← hT, ba_size])
          have hmm : m ≤ 100100 := by omega
          have hm8 : Hid ((m + 8) % 64 = 0) := Lib.hid (by omega)
          have h00 : Hid (ba P = ba (P ++ (Sh.be8 (8 * n)).take 0)) := Lib.hid (by simp)
          obtain ⟨T, hTT⟩ : ∃ T, ba P = T := ⟨_, rfl⟩
          have HTT := Lib.hid hTT
          rw [hTT] at hT ⊢
          have wu1 := IntWalk.u64_in (n : Int) (by omega)
          obtain ⟨N, hN⟩ : ∃ N, 8 * n = N := ⟨_, rfl⟩
          have wu2 : IntKind.u64.wrap ((n : Int) * 8) = (N : Int) := by rw [IntWalk.u64_in _ (by omega)]; omega
          have hNl : N ≤ 800000 := by omega
          clear hz hjl hnx hj HNX hP hm hTT
          go_wp2_with fail
          clear hm1
          rw [hN] at h00
          have HN8 := Lib.hid hN
          clear hN
          go_loopw [7, 9] (fun t i wr' => ∃ (k : Nat), i = .int .i64 ((7 : Int) - k) ∧ k ≤ 8 ∧ t = .string (ba (P ++ (Sh.be8 N).take k)) ∧ Below wr.heap.size wr wr')
            (fun _ i _ => (intOf i + 1).toNat)
          case atStart => exact ⟨0, rfl, by omega, by rw [← HTT.out, h00.out], Below.refl _ _⟩
          case round =>
            obtain ⟨k, rfl, hk, rfl, hb⟩ := hrel
            have HWB := Lib.hid hb
            clear hb
            by_cases hk8 : k < 8
            · rcases (by omega : k = 0 ∨ k = 1 ∨ k = 2 ∨ k = 3 ∨ k = 4 ∨ k = 5 ∨ k = 6 ∨ k = 7) with rfl | rfl | rfl | rfl | rfl | rfl | rfl | rfl
              · have hnx : ba (P ++ (Sh.be8 N).take 0) ++ ba [UInt8.ofNat (N / 72057594037927936)] = ba (P ++ (Sh.be8 N).take 1) := by
                  rw [ba_append, List.append_assoc]
                  rfl
                have hbv : ((UInt8.ofNat (N / 72057594037927936)).toNat : Int) = (N : Int) / 72057594037927936 % 256 := by rw [UInt8.toNat_ofNat']; omega
                have hts : (ba (P ++ (Sh.be8 N).take 0)).size = m + 0 := by rw [ba_size, List.length_append, HPS.out]; rfl
                generalize UInt8.ofNat (N / 72057594037927936) = b at hnx hbv
                have hb1 : (ba [b]).size = 1 := rfl
                have HNX := Lib.hid hnx
                have HBV := Lib.hid hbv
                obtain ⟨T', hTT'⟩ : ∃ T, ba (P ++ (Sh.be8 N).take 0) = T := ⟨_, rfl⟩
                rw [hTT'] at HNX hts ⊢
                clear hnx hTT' hbv
                go_wp2_with (refine wpList_convert_run rfl _ 98 9 rfl _ _ rfl (run_one _ wr.heap.size _ b (by have h1 := HBV.out; omega) (((Blk.new wr _ _).cell 0).trans rfl)) ?_)
                rw [HNX.out]
                go_roundw
                case rel => exact ⟨1, by go_num, by omega, rfl, HWB.out.alloc HWB.out.size _⟩
                case measure => simp [intOf]
              · have hnx : ba (P ++ (Sh.be8 N).take 1) ++ ba [UInt8.ofNat (N / 281474976710656)] = ba (P ++ (Sh.be8 N).take 2) := by
                  rw [ba_append, List.append_assoc]
                  rfl
                have hbv : ((UInt8.ofNat (N / 281474976710656)).toNat : Int) = (N : Int) / 281474976710656 % 256 := by rw [UInt8.toNat_ofNat']; omega
                have hts : (ba (P ++ (Sh.be8 N).take 1)).size = m + 1 := by rw [ba_size, List.length_append, HPS.out]; rfl
                generalize UInt8.ofNat (N / 281474976710656) = b at hnx hbv
                have hb1 : (ba [b]).size = 1 := rfl
                have HNX := Lib.hid hnx
                have HBV := Lib.hid hbv
                obtain ⟨T', hTT'⟩ : ∃ T, ba (P ++ (Sh.be8 N).take 1) = T := ⟨_, rfl⟩
                rw [hTT'] at HNX hts ⊢
                clear hnx hTT' hbv
                go_wp2_with (refine wpList_convert_run rfl _ 98 9 rfl _ _ rfl (run_one _ wr.heap.size _ b (by have h1 := HBV.out; omega) (((Blk.new wr _ _).cell 0).trans rfl)) ?_)
                rw [HNX.out]
                go_roundw
                case rel => exact ⟨2, by go_num, by omega, rfl, HWB.out.alloc HWB.out.size _⟩
                case measure => simp [intOf]
              · have hnx : ba (P ++ (Sh.be8 N).take 2) ++ ba [UInt8.ofNat (N / 1099511627776)] = ba (P ++ (Sh.be8 N).take 3) := by
                  rw [ba_append, List.append_assoc]
                  rfl
                have hbv : ((UInt8.ofNat (N / 1099511627776)).toNat : Int) = (N : Int) / 1099511627776 % 256 := by rw [UInt8.toNat_ofNat']; omega
                have hts : (ba (P ++ (Sh.be8 N).take 2)).size = m + 2 := by rw [ba_size, List.length_append, HPS.out]; rfl
                generalize UInt8.ofNat (N / 1099511627776) = b at hnx hbv
                have hb1 : (ba [b]).size = 1 := rfl
                have HNX := Lib.hid hnx
                have HBV := Lib.hid hbv
                obtain ⟨T', hTT'⟩ : ∃ T, ba (P ++ (Sh.be8 N).take 2) = T := ⟨_, rfl⟩
                rw [hTT'] at HNX hts ⊢
                clear hnx hTT' hbv
                go_wp2_with (refine wpList_convert_run rfl _ 98 9 rfl _ _ rfl (run_one _ wr.heap.size _ b (by have h1 := HBV.out; omega) (((Blk.new wr _ _).cell 0).trans rfl)) ?_)
                rw [HNX.out]
                go_roundw
                case rel => exact ⟨3, by go_num, by omega, rfl, HWB.out.alloc HWB.out.size _⟩
                case measure => simp [intOf]
              · have hnx : ba (P ++ (Sh.be8 N).take 3) ++ ba [UInt8.ofNat (N / 4294967296)] = ba (P ++ (Sh.be8 N).take 4) := by
                  rw [ba_append, List.append_assoc]
                  rfl
                have hbv : ((UInt8.ofNat (N / 4294967296)).toNat : Int) = (N : Int) / 4294967296 % 256 := by rw [UInt8.toNat_ofNat']; omega
                have hts : (ba (P ++ (Sh.be8 N).take 3)).size = m + 3 := by rw [ba_size, List.length_append, HPS.out]; rfl
                generalize UInt8.ofNat (N / 4294967296) = b at hnx hbv
                have hb1 : (ba [b]).size = 1 := rfl
                have HNX := Lib.hid hnx
                have HBV := Lib.hid hbv
                obtain ⟨T', hTT'⟩ : ∃ T, ba (P ++ (Sh.be8 N).take 3) = T := ⟨_, rfl⟩
                rw [hTT'] at HNX hts ⊢
                clear hnx hTT' hbv
                go_wp2_with (refine wpList_convert_run rfl _ 98 9 rfl _ _ rfl (run_one _ wr.heap.size _ b (by have h1 := HBV.out; omega) (((Blk.new wr _ _).cell 0).trans rfl)) ?_)
                rw [HNX.out]
                go_roundw
                case rel => exact ⟨4, by go_num, by omega, rfl, HWB.out.alloc HWB.out.size _⟩
                case measure => simp [intOf]
              · have hnx : ba (P ++ (Sh.be8 N).take 4) ++ ba [UInt8.ofNat (N / 16777216)] = ba (P ++ (Sh.be8 N).take 5) := by
                  rw [ba_append, List.append_assoc]
                  rfl
                have hbv : ((UInt8.ofNat (N / 16777216)).toNat : Int) = (N : Int) / 16777216 % 256 := by rw [UInt8.toNat_ofNat']; omega
                have hts : (ba (P ++ (Sh.be8 N).take 4)).size = m + 4 := by rw [ba_size, List.length_append, HPS.out]; rfl
                generalize UInt8.ofNat (N / 16777216) = b at hnx hbv
                have hb1 : (ba [b]).size = 1 := rfl
                have HNX := Lib.hid hnx
                have HBV := Lib.hid hbv
                obtain ⟨T', hTT'⟩ : ∃ T, ba (P ++ (Sh.be8 N).take 4) = T := ⟨_, rfl⟩
                rw [hTT'] at HNX hts ⊢
                clear hnx hTT' hbv
                go_wp2_with (refine wpList_convert_run rfl _ 98 9 rfl _ _ rfl (run_one _ wr.heap.size _ b (by have h1 := HBV.out; omega) (((Blk.new wr _ _).cell 0).trans rfl)) ?_)
                rw [HNX.out]
                go_roundw
                case rel => exact ⟨5, by go_num, by omega, rfl, HWB.out.alloc HWB.out.size _⟩
                case measure => simp [intOf]
              · have hnx : ba (P ++ (Sh.be8 N).take 5) ++ ba [UInt8.ofNat (N / 65536)] = ba (P ++ (Sh.be8 N).take 6) := by
                  rw [ba_append, List.append_assoc]
                  rfl
                have hbv : ((UInt8.ofNat (N / 65536)).toNat : Int) = (N : Int) / 65536 % 256 := by rw [UInt8.toNat_ofNat']; omega
                have hts : (ba (P ++ (Sh.be8 N).take 5)).size = m + 5 := by rw [ba_size, List.length_append, HPS.out]; rfl
                generalize UInt8.ofNat (N / 65536) = b at hnx hbv
                have hb1 : (ba [b]).size = 1 := rfl
                have HNX := Lib.hid hnx
                have HBV := Lib.hid hbv
                obtain ⟨T', hTT'⟩ : ∃ T, ba (P ++ (Sh.be8 N).take 5) = T := ⟨_, rfl⟩
                rw [hTT'] at HNX hts ⊢
                clear hnx hTT' hbv
                go_wp2_with (refine wpList_convert_run rfl _ 98 9 rfl _ _ rfl (run_one _ wr.heap.size _ b (by have h1 := HBV.out; omega) (((Blk.new wr _ _).cell 0).trans rfl)) ?_)
                rw [HNX.out]
                go_roundw
                case rel => exact ⟨6, by go_num, by omega, rfl, HWB.out.alloc HWB.out.size _⟩
                case measure => simp [intOf]
              · have hnx : ba (P ++ (Sh.be8 N).take 6) ++ ba [UInt8.ofNat (N / 256)] = ba (P ++ (Sh.be8 N).take 7) := by
                  rw [ba_append, List.append_assoc]
                  rfl
                have hbv : ((UInt8.ofNat (N / 256)).toNat : Int) = (N : Int) / 256 % 256 := by rw [UInt8.toNat_ofNat']; omega
                have hts : (ba (P ++ (Sh.be8 N).take 6)).size = m + 6 := by rw [ba_size, List.length_append, HPS.out]; rfl
                generalize UInt8.ofNat (N / 256) = b at hnx hbv
                have hb1 : (ba [b]).size = 1 := rfl
                have HNX := Lib.hid hnx
                have HBV := Lib.hid hbv
                obtain ⟨T', hTT'⟩ : ∃ T, ba (P ++ (Sh.be8 N).take 6) = T := ⟨_, rfl⟩
                rw [hTT'] at HNX hts ⊢
                clear hnx hTT' hbv
                go_wp2_with (refine wpList_convert_run rfl _ 98 9 rfl _ _ rfl (run_one _ wr.heap.size _ b (by have h1 := HBV.out; omega) (((Blk.new wr _ _).cell 0).trans rfl)) ?_)
                rw [HNX.out]
                go_roundw
                case rel => exact ⟨7, by go_num, by omega, rfl, HWB.out.alloc HWB.out.size _⟩
                case measure => simp [intOf]
              · have hnx : ba (P ++ (Sh.be8 N).take 7) ++ ba [UInt8.ofNat N] = ba (P ++ (Sh.be8 N).take 8) := by
                  rw [ba_append, List.append_assoc]
                  rfl
                have hbv : ((UInt8.ofNat N).toNat : Int) = (N : Int) / 1 % 256 := by rw [UInt8.toNat_ofNat']; omega
                have hts : (ba (P ++ (Sh.be8 N).take 7)).size = m + 7 := by rw [ba_size, List.length_append, HPS.out]; rfl
                generalize UInt8.ofNat N = b at hnx hbv
                have hb1 : (ba [b]).size = 1 := rfl
                have HNX := Lib.hid hnx
                have HBV := Lib.hid hbv
                obtain ⟨T', hTT'⟩ : ∃ T, ba (P ++ (Sh.be8 N).take 7) = T := ⟨_, rfl⟩
                rw [hTT'] at HNX hts ⊢
                clear hnx hTT' hbv
                go_wp2_with (refine wpList_convert_run rfl _ 98 9 rfl _ _ rfl (run_one _ wr.heap.size _ b (by have h1 := HBV.out; omega) (((Blk.new wr _ _).cell 0).trans rfl)) ?_)
                rw [HNX.out]
                go_roundw
                case rel => exact ⟨8, by go_num, by omega, rfl, HWB.out.alloc HWB.out.size _⟩
                case measure => simp [intOf]
            · obtain rfl : k = 8 := by omega
              obtain ⟨F, hF⟩ : ∃ F, P ++ Sh.be8 N = F := ⟨_, rfl⟩
              have hFP : F = Sh.pad L := by
                rw [← hF, ← HPL.out, ← HN8.out, Sh.pad, HL.out]
                simp
              have hFl : F.length = m + 8 := by rw [← hF, List.length_append, HPS.out]; rfl
              have hFs : (ba F).size = m + 8 := by rw [ba_size, hFl]
              rw [show P ++ (Sh.be8 N).take 8 = F from hF, show (7 : Int) - ((8 : Nat) : Int) = -1 from rfl]
              obtain ⟨TF, hTF⟩ : ∃ T, ba F = T := ⟨_, rfl⟩
              have HTF := Lib.hid hTF
              rw [hTF] at hFs ⊢
              have HFP := Lib.hid hFP
              have C0 := Lib.hid (B0.out.of (HWB.out.block _ B0.out.lt))
              have C1 := Lib.hid (B1.out.of (HWB.out.block _ B1.out.lt))
              have CB := Lib.hid (HW.out.trans (HWB.out.mono HW.out.size))
              have HFL := Lib.hid hFl
              clear hTF hF hFP hFl B0 B1 HWB HW h00 HPL
              obtain ⟨M, hM⟩ : ∃ M, m + 8 = 64 * M := ⟨(m + 8) / 64, by have := hm8.out; omega⟩
              go_wp2_with fail
              go_loopw [10] (fun i wr' => ∃ (q : Nat) (hv : Sh.V), i = .int .i64 (64 * (q : Int)) ∧ q ≤ M ∧ hv.length = 8 ∧ Blk wr' g 116 (ru hv) ∧ Blk wr' (g + 1) 117 (ru Sh.K) ∧ Below w.heap.size w wr' ∧ Sh.blocks hv (F.drop (64 * q)) = Sh.blocks Sh.H0 F)
                (fun i _ => (64 * M - (intOf i)).toNat)
              case atStart => exact ⟨0, Sh.H0, rfl, Nat.zero_le _, rfl, C0.out, C1.out, CB.out, rfl⟩
              case round =>
                obtain ⟨q, hv, rfl, hq, hvl, b0, b1, hb, hbl⟩ := hrel
                clear C0 C1 CB
                have C0 := Lib.hid b0
                have C1 := Lib.hid b1
                have CB := Lib.hid hb
                have HBL := Lib.hid hbl
                have HVL := Lib.hid hvl
                by_cases hqM : q < M
                · have hsp := (List.take_append_drop 64 (F.drop (64 * q))).symm
                  rw [List.drop_drop, show 64 * q + 64 = 64 * (q + 1) by omega] at hsp
                  have hxl : ((F.drop (64 * q)).take 64).length = 64 := by rw [List.length_take, List.length_drop, HFL.out]; omega
                  have hcut := fun W => run_cut TF F HTF.out.symm (64 * q) (by rw [HFL.out]; omega) W
                  rw [show ((64 * q : Nat) : Int) = 64 * (q : Int) by omega] at hcut
                  generalize (F.drop (64 * q)).take 64 = x at hsp hxl hcut
                  rw [hsp, Sh.blocks_step _ _ _ hxl, ← blk_eq] at hbl
                  have HC := Lib.hid (fun W => ref_block hv hvl (ba x) (by rw [ba_size]; exact hxl) W)
                  rw [ba_list] at HC
                  have HBL2 := Lib.hid hbl
                  have HWL := Lib.hid (blk_length hv x hvl)
                  obtain ⟨KK, hKK⟩ : ∃ K, Sh.K = K := ⟨_, rfl⟩
                  have hKl : KK.length = 64 := by rw [← hKK]; rfl
                  rw [hKK] at b1 HC
                  have HKK := Lib.hid hKK
                  have l0 : (loadVar 116 ⟨g, 0, none⟩).run Tryz.prog wr.drew = .ok (.agg (ru hv)) wr.drew := run_loadVar_row wr.drew g 116 116 (ru hv) (0, 0) _ b0.drew Tryz.underlying116 rfl (sz8_of hvl)
                  have l1 : (loadVar 117 ⟨g + 1, 0, none⟩).run Tryz.prog wr.drew = .ok (.agg (ru KK)) wr.drew := run_loadVar_row wr.drew (g + 1) 117 117 (ru KK) (0, 0) _ b1.drew Tryz.underlying117 rfl (by rw [ru_size, hKl]; exact words_size)
                  have qi : 64 * (q : Int) < (m : Int) + 8 := by omega
                  have qw : (m : Int) + 8 ≤ 100200 := by omega
                  have qw2 := IntWalk.i64_in (64 * (q : Int) + 64) (by omega)
                  clear hKK hsp hbl b0 b1 hb hvl hKl
                  go_wp2_with fail
                  refine wp_region_still_tail 7 (by kernel_rfl) (by kernel_rfl) ?_
                  simp only [List.take_succ_cons, List.take_zero, List.drop_succ_cons, List.drop_zero]
                  refine wpStill_load rfl 116 _ rfl g rfl _ l0 ?_
                  refine wpStill_load rfl 117 _ rfl (g + 1) rfl _ l1 ?_
                  clear l0 l1
                  repeat still_step
                  refine wpStill_nil ?_
                  change wpList _ _ _ _ _ wr.drew
                  go_wp2_with fail
                  refine (HC.out _).mono ?_
                  rintro e w4 ⟨rfl, hb4⟩
                  have e0 : Blk w4 g 116 (ru hv) := C0.out.drew.of (hb4.block _ C0.out.lt)
                  have E0 := Lib.hid e0
                  have E1 := Lib.hid (C1.out.drew.of (hb4.block _ C1.out.lt))
                  have EB := Lib.hid (Kept.below (CB.out.drew.trans (hb4.mono CB.out.size)) (Kept.setRow (S := fun b => b = g) (Kept.refl _ w4) (.inl rfl) (ru (blk hv x))) (fun y hy => by omega) (CB.out.drew.trans (hb4.mono CB.out.size)).size)
                  clear e0 hb4
                  go_wp2_with (refine wpList_store_row rfl 116 _ _ rfl g (ru (blk hv x)) rfl rfl 116 (ru hv) E0.out (sz8_of HWL.out) (by rw [ru_size, ru_size, HWL.out, HVL.out]) (ru_one _) (Hid.out ?_))
                  refine Lib.hid ?_
                  go_wp2_with fail
                  go_roundw
                  case rel => exact ⟨q + 1, blk hv x, by go_num, by omega, HWL.out, E0.out.row _, E1.out.rowFar (by omega) _, EB.out, HBL2.out⟩
                  case measure => simp [intOf]; omega
                · obtain rfl : q = M := by omega
                  rw [List.drop_eq_nil_of_le (by rw [HFL.out]; omega), Sh.blocks_low hv [] (by simp)] at hbl
                  have HD : Hid (dig L = Sh.out hv) := Lib.hid (by rw [dig_eq, hbl, HFP.out]; rfl)
                  obtain ⟨wB, hwB⟩ : ∃ x, x = wr := ⟨_, rfl⟩
                  have hgB : g + 1 < wB.heap.size := by rw [hwB]; exact C1.out.lt
                  subst hwB
                  have qi : ¬ (64 * (q : Int) < (m : Int) + 8) := by omega
                  clear b0 b1 hb hbl HBL
                  go_wp2_with fail
                  clear qi
                  go_loopw [11, 12] (fun v i wr => ∃ (k : Nat) (A' : Option Addr) (c' : Nat), i = .int .i64 (k : Int) ∧ k ≤ 8 ∧ v = .slice A' (Sh.out (hv.take k)).length c' ∧ wr.ownsRow wB.heap.size 5 1 v (Sh.out (hv.take k)).length (cb (Sh.out (hv.take k))) ∧ Below wB.heap.size wB wr)
                    (fun _ i _ => 8 - (intOf i).toNat)
                  case atStart => exact ⟨0, none, 0, rfl, by omega, rfl, World.ownsRow_nil _ _ _ _, Below.refl _ _⟩
                  case round =>
                    obtain ⟨k, A', c', rfl, hk, rfl, hown, hb⟩ := hrel
                    by_cases hlt : k < 8
                    · have hcg := (Blk.ru C0.out k (by rw [HVL.out]; exact hlt))
                      have ca : wr.cell? ⟨g, k, none⟩ = some (.int .u32 (R (hv.getD k 0))) := by rw [← hcg]; exact hb.cell (p := ⟨g, k, none⟩) (by show g < wB.heap.size; omega)
                      have HE := Lib.hid (out_take hv k (by rw [HVL.out]; exact hlt))
                      have HO := Lib.hid (cb_out4 (hv.getD k 0))
                      have hlen : (Sh.out (hv.take k)).length = 4 * k := by rw [Sh.out_length, List.length_take, HVL.out]; omega
                      have hlen2 : Hid (4 * k + 4 = (Sh.out (hv.take (k + 1))).length) := Lib.hid (by rw [Sh.out_length, List.length_take, HVL.out]; omega)
                      generalize hv.getD k 0 = x at ca HE HO
                      rw [hlen] at hown ⊢
                      have ag : (Value.slice A' (4 * k) c').ownBlock ≠ some g := fun h => by have := own_base hown h; omega
                      have hn63 : 4 * k + 4 ≤ maxLen := by unfold maxLen; omega
                      have hnb : (4 * k + 4) * 1 ≤ 140737488355328 := by omega
                      have hgw2 := hb.size
                      have Hown := Lib.hid (show wr.ownsRow wB.heap.size 5 1 (.slice A' (4 * k) c') (4 * k) (cb (Sh.out (hv.take k))) from hown)
                      have Hb := Lib.hid hb
                      have ki : (k : Int) < 8 := by omega
                      clear hlen
                      generalize Sh.out (hv.take k) = o at Hown HE
                      clear hown hb hcg
                      go_wp2_with fail
                      go_region_held3 (fun w' => w'.cell? ⟨g, k, none⟩ = some (.int .u32 (R x)))
                        (first | go_keep | (rw [hgrow.cell_far _ (by simp; omega) (Ne.symm ag)]; assumption))
                        ((refine step_append_lies _ (by rfl) _ _ _ (by rfl) wB.heap.size 5 i0 _ 1 1 Tryz.underlying98 hi hz0 hz1 hz2 rfl (by omega) (.slice A' (4 * k) c') (4 * k) (cb o) (by rfl) ((Hown.out.alloc _).drew) ⟨wr.heap.size, 0, none⟩ 4 4 [.int .u8 (R x / 16777216 % 256), .int .u8 (R x / 65536 % 256), .int .u8 (R x / 256 % 256), .int .u8 (R x % 256)] (by rfl) (by rfl) (World.news_of_block (cs := #[.int .u8 (R x / 16777216 % 256), .int .u8 (R x / 65536 % 256), .int .u8 (R x / 256 % 256), .int .u8 (R x % 256)]) (t := 5) (fr := (0, 0)) (heap_alloc_new wr _)) (by simp [Value.oneCell']) (by omega) hn63 hnb (by simp; omega) (wr.heap.size + 1) (by simp) ?_; intro g' cap w2 hown' hgrow hgo hlt'))
                      rw [← HO.out] at hown'
                      rw [← show cb (o ++ Sh.out4 x) = cb o ++ cb (Sh.out4 x) by simp [cb], ← HE.out] at hown'
                      have hown2 := Lib.hid hown'
                      have hK2 := Lib.hid (Kept.grown (S := fun b => wB.heap.size ≤ b) (Kept.drew (Kept.alloc (Kept.refl _ wr) _)) hgrow (fun b hb => .inl (own_base Hown.out (b := b) hb)))
                      have hHb := Lib.hid (Kept.below Hb.out hK2.out (fun _ h => h) Hb.out.size)
                      clear hown' hgrow
                      go_wp2_with fail
                      go_roundw
                      case rel => exact ⟨k + 1, _, _, by go_num, by omega, by rw [← hlen2.out], by rw [← hlen2.out]; exact hown2.out, hHb.out⟩
                      case measure => simp [intOf]; omega
                    · obtain rfl : k = 8 := by omega
                      rw [List.take_of_length_le (by rw [HVL.out]; exact Nat.le_refl 8)] at hown
                      have HCV := run_own_text hown
                      rw [List.take_of_length_le (by rw [HVL.out]; exact Nat.le_refl 8)]
                      have HBE := Lib.hid (CB.out.trans (hb.mono CB.out.size))
                      clear hown hb
                      go_wp2_with fail
                      go_ret
                      exact ⟨by rw [HD.out]; rfl, HBE.out⟩
end Go.Proofs.YtfjdcopndkdbmaaGreatDoor
