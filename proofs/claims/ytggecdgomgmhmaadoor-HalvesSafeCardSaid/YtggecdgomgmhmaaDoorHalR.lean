/-
  Contract of the document's Same of findings, at findings that are the same. Condition: their records lie in memory.
-/
import Derived.Test.YtggecdgomgmhmaaDoorHalQ
namespace Go.Proofs.YtggecdgomgmhmaaDoor
open Go.RowKit
set_option maxRecDepth 100000 in
theorem same_found (w : World) (e : Nat) (S : ByteArray) (A1 A2 : Option Addr) (n c1 c2 : Nat) (l : List ByteArray) (hn : l.length = n) (hl : n ≤ 1000000) (h1 : Lies (fun _ => False) w A1 (cs l)) (h2 : Lies (fun _ => False) w A2 (cs l)) :
    Calls Tryd.prog 17 #[.agg #[.int .u64 (e : Int), .string S, .slice A1 n c1], .agg #[.int .u64 (e : Int), .string S, .slice A2 n c2]] w fun x w' => x = .returned (.bool true) ∧ Below w.heap.size w w' := by
  have k1 := (Blk.new w 39 #[.int .u64 (e : Int), .string S, .slice A1 n c1]).alloc (.cells #[.int .u64 (e : Int), .string S, .slice A2 n c2] 39)
  have k2 := Blk.new (w.alloc (.cells #[.int .u64 (e : Int), .string S, .slice A1 n c1] 39)) 39 #[.int .u64 (e : Int), .string S, .slice A2 n c2]
  have hb : Below w.heap.size w ((w.alloc (.cells #[.int .u64 (e : Int), .string S, .slice A1 n c1] 39)).alloc (.cells #[.int .u64 (e : Int), .string S, .slice A2 n c2] 39)) := ((Below.refl _ w).alloc (Nat.le_refl _) _).alloc (by simp) _
  have hq : (w.alloc (.cells #[.int .u64 (e : Int), .string S, .slice A1 n c1] 39)).heap.size = w.heap.size + 1 := by simp
  rw [hq] at k2
  have h1' := h1.below hb
  have h2' := h2.below hb
  have HK1 := Lib.hid k1
  have HK2 := Lib.hid k2
  have HB := Lib.hid hb
  have HH := Lib.hid (And.intro h1' h2')
  clear k1 k2 hb h1 h2 h1' h2' hq
  subst hn
  go_enter Tryd.func17, Tryd.ntmps17
  go_wp2_with fail
  generalize (w.alloc (.cells #[.int .u64 (e : Int), .string S, .slice A1 l.length c1] 39)).alloc (.cells #[.int .u64 (e : Int), .string S, .slice A2 l.length c2] 39) = w1 at HK1 HK2 HB HH ⊢
  have HS := Lib.hid (same_any w1 A1 A2 c1 c2 l l hl hl HH.out.1 HH.out.2)
  rw [decide_eq_true rfl] at HS
  refine HS.out.mono ?_
  rintro x w2 ⟨rfl, hb2⟩
  have k1 := HK1.out.of (hb2.block _ HK1.out.lt)
  have k2 := HK2.out.of (hb2.block _ HK2.out.lt)
  have a0 := k1.cell 0
  have a1 := k1.cell 1
  have b0 := k2.cell 0
  have b1 := k2.cell 1
  simp only [List.getElem?_toArray, List.getElem?_cons_zero, List.getElem?_cons_succ] at a0 a1 b0 b1
  have HBB := Lib.hid (HB.out.trans (hb2.mono HB.out.size))
  clear k1 k2 hb2
  go_wp2_with fail
  go_ret
  exact ⟨rfl, HBB.out⟩
end Go.Proofs.YtggecdgomgmhmaaDoor
