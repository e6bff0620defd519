/-
  Contracts of the law's helpers: awake, short, few, Same. Condition: their arguments lie in memory.
-/
import Derived.Test.YtggecdgomgmhmaaDoorPakC
namespace Go.Proofs.YtggecdgomgmhmaaDoor
open Go.RowKit

theorem WrAt.new (w : World) : WrAt (w.alloc (.cells #[.slice none 0 0] 83)) w.heap.size (.slice none 0 0) [] :=
  ⟨Blk.new w _ _, World.ownsRow_nil _ _ _ _⟩
theorem foot_new {d k : Nat} (h : foot d (.slice none 0 0) k) : k = d := by
  rcases h with h | h
  · exact h
  · cases h
/-- A writer of the law's own. -/
structure Wr (B : Nat) (W w : World) (d : Nat) (v : Value) (l : List UInt8) : Prop where
  at_ : WrAt w d v l
  bel : Below B W w
  low : B ≤ w.heap.size
  foot : ∀ k, foot d v k → B ≤ k
section
variable {B d : Nat} {W w w' : World} {v : Value} {l : List UInt8}
theorem Wr.alloc (h : Wr B W w d v l) (o : Obj) : Wr B W (w.alloc o) d v l :=
  ⟨h.at_.below ((Below.refl _ w).alloc (Nat.le_refl _) o), h.bel.alloc h.low o, by have := h.low; simp; omega, h.foot⟩
theorem Wr.new (hb : Below B W w) (hl : B ≤ w.heap.size) : Wr B W (w.alloc (.cells #[.slice none 0 0] 83)) w.heap.size (.slice none 0 0) [] :=
  ⟨WrAt.new w, hb.alloc hl _, by simp; omega, fun k hk => by rw [foot_new hk]; exact hl⟩
theorem Wr.after (h : Wr B W w d v l) (hb : Below w.heap.size w w') : Wr B W w' d v l :=
  ⟨h.at_.below hb, h.bel.trans ⟨hb.os, hb.tape, hb.output, hb.size, fun k hk => hb.block k (by have := h.low; omega)⟩, Nat.le_trans h.low hb.size, h.foot⟩
theorem Wr.kept {S : Nat → Prop} (h : Wr B W w d v l) (hk : Kept S w w') (hS : ∀ k, S k → B ≤ k) (hf : ∀ k, Go.Proofs.YtggecdgomgmhmaaDoor.foot d v k → ¬ S k) : Wr B W w' d v l :=
  ⟨h.at_.kept hk hf, Kept.below h.bel hk hS h.low, Nat.le_trans h.low hk.size, h.foot⟩
theorem Wr.wrote {l' : List UInt8} (h : Wr B W w d v l) (hw : Wrote w d v l' w') : ∃ v', Wr B W w' d v' l' ∧ Kept (Go.Proofs.YtggecdgomgmhmaaDoor.foot d v) w w' ∧ ∀ k, Go.Proofs.YtggecdgomgmhmaaDoor.foot d v' k → Go.Proofs.YtggecdgomgmhmaaDoor.foot d v k ∨ w.heap.size ≤ k := by
  obtain ⟨v', h1, h2, h3⟩ := hw
  refine ⟨v', ⟨h1, Kept.below h.bel h2 h.foot h.low, Nat.le_trans h.low h2.size, fun k hk => ?_⟩, h2, h3⟩
  rcases h3 k hk with e | e
  · exact h.foot k e
  · exact Nat.le_trans h.low e
theorem wnum_on (h : Wr B W w d v l) (A : Option Addr) (c : Nat) (ns : List Nat) (hns : ∀ n ∈ ns, n ≤ 18446744073709551615) (hA : Lies (Go.Proofs.YtggecdgomgmhmaaDoor.foot d v) w A (cn ns)) (hl : l.length + 10 * ns.length ≤ 1000000) :
    Calls Tryd.prog 39 #[.pointer (some ⟨d, 0, none⟩), .slice A ns.length c] w fun e w' => e = .returned (.pointer (some ⟨d, 0, none⟩)) ∧ ∃ v', Wr B W w' d v' (l ++ numsB ns) ∧ Kept (Go.Proofs.YtggecdgomgmhmaaDoor.foot d v) w w' ∧ ∀ k, Go.Proofs.YtggecdgomgmhmaaDoor.foot d v' k → Go.Proofs.YtggecdgomgmhmaaDoor.foot d v k ∨ w.heap.size ≤ k :=
  (wnum_any w d v l h.at_ A c ns hns hA hl).mono fun _ _ ⟨he, hw⟩ => ⟨he, h.wrote hw⟩
theorem wtext_on (h : Wr B W w d v l) (A : Option Addr) (c : Nat) (ss : List ByteArray) (hA : Lies (Go.Proofs.YtggecdgomgmhmaaDoor.foot d v) w A (cs ss)) (hl : l.length + (Pk.texts (tx ss)).length ≤ 900000) :
    Calls Tryd.prog 40 #[.pointer (some ⟨d, 0, none⟩), .slice A ss.length c] w fun e w' => e = .returned (.pointer (some ⟨d, 0, none⟩)) ∧ ∃ v', Wr B W w' d v' (l ++ Pk.texts (tx ss)) ∧ Kept (Go.Proofs.YtggecdgomgmhmaaDoor.foot d v) w w' ∧ ∀ k, Go.Proofs.YtggecdgomgmhmaaDoor.foot d v' k → Go.Proofs.YtggecdgomgmhmaaDoor.foot d v k ∨ w.heap.size ≤ k :=
  (wtext_any w d v l h.at_ A c ss hA hl).mono fun _ _ ⟨he, hw⟩ => ⟨he, h.wrote hw⟩
/-- One number. -/
theorem wnum_one (h : Wr B W w d v l) (n : Nat) (z : Int) (hz : z = (n : Int)) (H : Nat) (hH : w.heap.size = H) (hn : n ≤ 18446744073709551615) (hl : l.length + 10 ≤ 1000000) :
    Calls Tryd.prog 39 #[.pointer (some ⟨d, 0, none⟩), .slice (some ⟨H, 0, none⟩) 1 1] (w.alloc (.cells #[.int .u64 z] 37)) fun e w' => e = .returned (.pointer (some ⟨d, 0, none⟩)) ∧ ∃ v', Wr B W w' d v' (l ++ Pk.num n) ∧ Kept (Go.Proofs.YtggecdgomgmhmaaDoor.foot d v) w w' ∧ ∀ k, Go.Proofs.YtggecdgomgmhmaaDoor.foot d v' k → Go.Proofs.YtggecdgomgmhmaaDoor.foot d v k ∨ w.heap.size ≤ k := by
  subst hz
  subst hH
  refine (wnum_on (h.alloc _) _ 1 [n] (by simpa using hn) (Lies.one w 37 (.int .u64 (n : Int)) (fun k hk => h.at_.lt k hk)) (by simpa using hl)).mono ?_
  rintro e w' ⟨he, v', h1, h2, h3⟩
  refine ⟨he, v', by simpa [numsB] using h1, ?_, fun k hk => ?_⟩
  · exact ((Kept.refl _ w).alloc _).trans h2 (fun x hx => .inl hx)
  · rcases h3 k hk with e | e
    · exact .inl e
    · simp at e; exact .inr (by omega)
/-- One text. -/
theorem wtext_one (h : Wr B W w d v l) (s : ByteArray) (H : Nat) (hH : w.heap.size = H) (hl : l.length + (Pk.text s.data.toList).length ≤ 900000) :
    Calls Tryd.prog 40 #[.pointer (some ⟨d, 0, none⟩), .slice (some ⟨H, 0, none⟩) 1 1] (w.alloc (.cells #[.string s] 9)) fun e w' => e = .returned (.pointer (some ⟨d, 0, none⟩)) ∧ ∃ v', Wr B W w' d v' (l ++ Pk.text s.data.toList) ∧ Kept (Go.Proofs.YtggecdgomgmhmaaDoor.foot d v) w w' ∧ ∀ k, Go.Proofs.YtggecdgomgmhmaaDoor.foot d v' k → Go.Proofs.YtggecdgomgmhmaaDoor.foot d v k ∨ w.heap.size ≤ k := by
  subst hH
  refine (wtext_on (h.alloc _) _ 1 [s] (Lies.one w 9 (.string s) (fun k hk => h.at_.lt k hk)) (by simpa [tx, Pk.texts] using hl)).mono ?_
  rintro e w' ⟨he, v', h1, h2, h3⟩
  refine ⟨he, v', by simpa [tx, Pk.texts] using h1, ?_, fun k hk => ?_⟩
  · exact ((Kept.refl _ w).alloc _).trans h2 (fun x hx => .inl hx)
  · rcases h3 k hk with e | e
    · exact .inl e
    · simp at e; exact .inr (by omega)
theorem str_on (h : Wr B W w d v l) :
    Calls Tryd.prog 41 #[.pointer (some ⟨d, 0, none⟩)] w fun e w' => e = .returned (.string (ba l)) ∧ w = w' := str_any w d v l h.at_
end

end Go.Proofs.YtggecdgomgmhmaaDoor
