/-
  Contracts of the document's own Same (of two rows that are the same) and Find (layer 11). Condition: rows of at most 1000000 secrets.
-/
import Derived.Test.YtfjdcopndkdbmaaGreatDoorVra
import Derived.BigQuiet
namespace Go.Proofs.YtfjdcopndkdbmaaGreatDoor
open Go.RowKit

set_option maxRecDepth 100000 in
set_option maxHeartbeats 2000000 in
theorem rsame_any {S T : Nat → Prop} (A B : Option Addr) (cp cq : Nat) (l : List Va.Sec) (_hl : l.length ≤ 1000000) (w : World) (hA : Lies S w A (secs l)) (hB : Lies T w B (secs l)) :
    Calls Tryz.prog 31 #[.slice A l.length cp, .slice B l.length cq] w fun e w' => e = .returned (.bool true) ∧ Below w.heap.size w w' := by
  have HA := Lib.hid hA
  have HB := Lib.hid hB
  clear hA hB
  go_enter Tryz.func31, Tryz.ntmps31
  go_wp2_with fail
  go_loopw [5] (fun i wr => ∃ k : Nat, i = .int .i64 (k : Int) ∧ k ≤ l.length ∧ Below w.heap.size w wr) (fun i _ => l.length - (intOf i).toNat)
  case atStart => exact ⟨0, rfl, by omega, Below.refl _ w⟩
  case round =>
    obtain ⟨k, rfl, hk, hbw⟩ := hrel
    have HBW := Lib.hid hbw
    clear hbw
    by_cases hlt : k < l.length
    · have hki : (k : Int) < (l.length : Int) := by omega
      obtain ⟨ad, hAe, sa⟩ := lies_sec (HA.out.below HBW.out) k hlt
      subst hAe
      obtain ⟨bd, hBe, sb⟩ := lies_sec (HB.out.below HBW.out) k hlt
      subst hBe
      obtain ⟨q, hq⟩ : ∃ q, ad.add (k * 6) = q := ⟨_, rfl⟩
      obtain ⟨r, hr⟩ : ∃ r, bd.add (k * 6) = r := ⟨_, rfl⟩
      rw [hq] at sa
      rw [hr] at sb
      generalize l[k] = s at sa sb
      obtain ⟨a0, a1, a2, a3, a4, a5, _⟩ := sa
      obtain ⟨b0, b1, b2, b3, b4, b5, _⟩ := sb
      have n1 : (s.digest.toList != s.digest.toList) = false := by simp
      have n2 : (s.channel.toList != s.channel.toList) = false := by simp
      have n3 : (s.digest.toList == s.digest.toList) = true := by simp
      have n4 : (s.channel.toList == s.channel.toList) = true := by simp
      go_wp2_with fail
      go_big_quiet (fail)
      go_wp2_with fail
      go_roundw
      case rel => exact ⟨k + 1, by go_num, by omega, below_drewN HBW.out _⟩
      case measure => simp [intOf]; omega
    · obtain rfl : k = l.length := by omega
      go_wp2_with fail
      go_ret
      exact ⟨rfl, HBW.out⟩
theorem results_cs {P : Program} {fn : Func} {p q : Tmp} {ty : TypeId} (h : fn.results = #[.cell p ty, .tmp q]) (tmps : Array Value) (w : World) (g : Nat) (t : TypeId) (cs : Array Value) (fr : Nat × Nat) (d : TypeDesc) (v : Value)
    (hp : tmps.getD p undef = .pointer (some ⟨g, 0, none⟩)) (hv : tmps.getD q undef = v) (hg : w.heap[g]? = some (.cells cs t fr))
    (hu : P.underlying ty = some d) (hd : (match d with | .struct _ | .array _ _ => true | _ => false) = true) (hi : (P.info? ty).map (·.size) = some cs.size) :
    (results fn tmps).run P w = .ok (.tuple #[.agg cs, v]) w := by
  have hp' : tmps[p]?.getD undef = .pointer (some ⟨g, 0, none⟩) := by simpa using hp
  have hv' : tmps[q]?.getD undef = v := by simpa using hv
  simp [results, h, hp', hv', asAddr, run_loadVar_row w g t ty cs fr d hg hu hd hi]
def secOf (o : Option Va.Sec) : Array Value := match o with | some s => (secC s).toArray | none => zeroV
theorem secOf_some (s : Va.Sec) : secOf (some s) = #[.string s.digest, .int .i64 s.account, .int .i64 s.purpose, .string s.channel, .int .i64 s.expires, .int .i64 s.tries] := rfl
theorem find_place {l : List Va.Sec} {k : Va.Key} {i : Nat} (h : Rw.place Va.Sec.key l k = some i) : ∃ hi : i < l.length, Rw.find Va.Sec.key l k = some l[i] := by
  obtain ⟨hi, h1, _⟩ := Rw.place_some h
  exact ⟨hi, h1⟩
set_option maxRecDepth 100000 in
set_option maxHeartbeats 2000000 in
theorem rfind_any {S : Nat → Prop} (A : Option Addr) (cp : Nat) (l : List Va.Sec) (hl : l.length ≤ 1000000) (a p : Int) (c : ByteArray) (w : World) (hA : Lies S w A (secs l)) :
    Calls Tryz.prog 32 #[.slice A l.length cp, .int .i64 a, .int .i64 p, .string c] w fun e w' => e = .returned (.tuple #[.agg (secOf (Rw.find Va.Sec.key l (a, p, c))), .bool (Rw.find Va.Sec.key l (a, p, c)).isSome]) ∧ Below w.heap.size w w' := by
  have hb1 : Below w.heap.size w (w.alloc (.cells zeroV 26)) := (Below.refl _ w).alloc (Nat.le_refl _) _
  have HAT := Lib.hid (rat_any A cp l hl a p c _ (hA.below hb1))
  cases hp : Rw.place Va.Sec.key l (a, p, c) with
  | none =>
    rw [Rw.place_none.1 hp]
    unfold atI at HAT
    rw [hp] at HAT
    unfold secOf zeroV secV at *
    clear hA hb1 hp
    go_enter Tryz.func32, Tryz.ntmps32
    go_wp2_with fail
    refine HAT.out.mono ?_
    rintro e wq ⟨rfl, rfl⟩
    go_wp2_with fail
    (try simp only [Exit.inBlock, Exit.then])
    refine bodyPost_ret (results_cs (P := Tryz.prog) rfl _ _ w.heap.size 26 _ (0, 0) _ _ rfl rfl (Blk.new w _ _) Tryz.underlying26 rfl sec_size) rfl ?_
    exact ⟨rfl, (Below.refl _ w).alloc (Nat.le_refl _) _⟩
  | some i =>
    obtain ⟨hi, hf⟩ := find_place hp
    rw [hf]
    unfold atI at HAT
    rw [hp] at HAT
    obtain ⟨ad, hAe, sa⟩ := lies_sec (hA.below hb1) i hi
    subst hAe
    obtain ⟨q, hq⟩ : ∃ q, ad.add (i * 6) = q := ⟨_, rfl⟩
    rw [hq] at sa
    generalize l[i] = s at sa
    have hili : (i : Int) < (l.length : Int) := by omega
    have hi0 : ¬ ((i : Int) < 0) := by omega
    rw [secOf_some, Option.isSome_some]
    unfold zeroV secV at *
    obtain ⟨a0, a1, a2, a3, a4, a5, _⟩ := sa
    clear hA hb1 hp hf
    go_enter Tryz.func32, Tryz.ntmps32
    go_wp2_with fail
    refine HAT.out.mono ?_
    rintro e wq ⟨rfl, rfl⟩
    go_wp2_with fail
    (try simp only [Exit.inBlock, Exit.then])
    refine bodyPost_ret (results_cs (P := Tryz.prog) rfl _ _ w.heap.size 26 _ (0, 0) _ _ rfl rfl (Blk.new w _ _) Tryz.underlying26 rfl sec_size) rfl ?_
    exact ⟨rfl, (Below.refl _ w).alloc (Nat.le_refl _) _⟩
end Go.Proofs.YtfjdcopndkdbmaaGreatDoor
