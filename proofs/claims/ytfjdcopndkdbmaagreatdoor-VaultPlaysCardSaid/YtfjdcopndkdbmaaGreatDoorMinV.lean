/-
  What package mint's contracts speak of: plain texts, digests, a secret's cells, whether one is minted, whether it may be. No condition.
-/
import Derived.Test.YtfjdcopndkdbmaaGreatDoorMi
import Derived.Test.YtfjdcopndkdbmaaGreatDoorTkm
import Derived.Test.YtfjdcopndkdbmaaGreatDoorShb
import Derived.Test.YtfjdcopndkdbmaaGreatDoorAdm
namespace Go.Proofs.YtfjdcopndkdbmaaGreatDoor
open Go.RowKit

def plainB (p : Int) (d : List UInt8) : Bool := decide (1 ≤ p ∧ p ≤ 6) && decide (d.length = 10)
def plainL (p : Int) (d : List UInt8) : List UInt8 := if 1 ≤ p ∧ p ≤ 6 ∧ d.length = 10 then (if p = 4 then Tk.code (Mi.num (d.take 8) % 1000000) else Tk.enc d) else []
theorem plainL_length (p : Int) (d : List UInt8) : (plainL p d).length ≤ 16 := by
  unfold plainL
  split
  · split
    · rw [Tk.code_length]; decide
    · rw [Tk.enc_length]; omega
  · simp
/-- The byte of a purpose. -/
def pbyte (p : Int) : UInt8 := UInt8.ofNat (p % 256).toNat
theorem pbyte_wrap (p : Int) : IntKind.u8.wrap p = (((pbyte p).toNat : Nat) : Int) := by
  unfold pbyte
  rw [UInt8.toNat_ofNat']
  unfold IntKind.wrap
  simp [IntKind.bits, IntKind.signed]
  omega
noncomputable def digL (p : Int) (l : List UInt8) : List UInt8 := dig (pbyte p :: Tk.clean l)
/-- A secret's cells. -/
def secV (D : ByteArray) (a p : Int) (c : ByteArray) (e t : Int) : Array Value := #[.string D, .int .i64 a, .int .i64 p, .string c, .int .i64 e, .int .i64 t]
def zeroV : Array Value := secV ⟨#[]⟩ 0 0 ⟨#[]⟩ 0 0
def mintB (a p : Int) (c : ByteArray) (d : List UInt8) (n : Int) : Bool := plainB p d && decide (1 ≤ a ∧ a ≤ 99) && !(Ad.kind c.data.toList == 0) && decide (0 ≤ n ∧ n ≤ 1099511627776)
def mintL (a p : Int) (c : ByteArray) (d : List UInt8) (n : Int) : List UInt8 := if mintB a p c d n = true then plainL p d else []
noncomputable def mintV (a p : Int) (c : ByteArray) (d : List UInt8) (n : Int) : Array Value := if mintB a p c d n = true then secV (ba (digL p (plainL p d))) a p c (Mi.clock n (Mi.life p)) (Mi.tries p) else zeroV
theorem results_tct {P : Program} {fn : Func} {p q r : Tmp} {ty : TypeId} (h : fn.results = #[.tmp q, .cell p ty, .tmp r]) (tmps : Array Value) (w : World) (g : Nat) (t : TypeId) (cs : Array Value) (fr : Nat × Nat) (d : TypeDesc) (u v : Value)
    (hp : tmps.getD p undef = .pointer (some ⟨g, 0, none⟩)) (hq : tmps.getD q undef = u) (hv : tmps.getD r undef = v) (hg : w.heap[g]? = some (.cells cs t fr))
    (hu : P.underlying ty = some d) (hd : (match d with | .struct _ | .array _ _ => true | _ => false) = true) (hi : (P.info? ty).map (·.size) = some cs.size) :
    (results fn tmps).run P w = .ok (.tuple #[u, .agg cs, v]) w := by
  have hp' : tmps[p]?.getD undef = .pointer (some ⟨g, 0, none⟩) := by simpa using hp
  have hv' : tmps[r]?.getD undef = v := by simpa using hv
  have hq' : tmps[q]?.getD undef = u := by simpa using hq
  simp [results, h, hp', hv', hq', asAddr, run_loadVar_row w g t ty cs fr d hg hu hd hi]
theorem sec_size : (Tryz.prog.info? 26).map (·.size) = some 6 := by kernel_rfl

theorem Blk.six {w : World} {g : Nat} {t : TypeId} {a b c d e f : Value} (h : Blk w g t #[a, b, c, d, e, f]) (u v x y z q : Value) :
    Blk ((((((w.setCell ⟨g, 0, none⟩ u).setCell ⟨g, 1, none⟩ v).setCell ⟨g, 2, none⟩ x).setCell ⟨g, 3, none⟩ y).setCell ⟨g, 4, none⟩ z).setCell ⟨g, 5, none⟩ q) g t #[u, v, x, y, z, q] := by
  have := (((((h.set_ 0 u).set_ 1 v).set_ 2 x).set_ 3 y).set_ 4 z).set_ 5 q
  simpa using this
theorem below_six {B : Nat} {w0 w : World} {g : Nat} (h : Below B w0 w) (hg : B ≤ g) (u v x y z q : Value) :
    Below B w0 ((((((w.setCell ⟨g, 0, none⟩ u).setCell ⟨g, 1, none⟩ v).setCell ⟨g, 2, none⟩ x).setCell ⟨g, 3, none⟩ y).setCell ⟨g, 4, none⟩ z).setCell ⟨g, 5, none⟩ q) :=
  (((((h.setCell (p := ⟨g, 0, none⟩) hg _).setCell (p := ⟨g, 1, none⟩) hg _).setCell (p := ⟨g, 2, none⟩) hg _).setCell (p := ⟨g, 3, none⟩) hg _).setCell (p := ⟨g, 4, none⟩) hg _).setCell (p := ⟨g, 5, none⟩) hg _
theorem below_row {B : Nat} {w0 w : World} {g : Nat} (h : Below B w0 w) (hg : B ≤ g) (cs : Array Value) : Below B w0 (w.setRow g cs) :=
  ⟨h.os, h.tape, h.output, Nat.le_trans h.size (by simp), fun k hk => (setRow_other w g k cs (by omega)).trans (h.block k hk)⟩
def rightB (D : ByteArray) (a p : Int) (c : ByteArray) (e t : Int) : Bool := decide (D.size = 32) && decide (1 ≤ a ∧ a ≤ 99) && decide (1 ≤ p ∧ p ≤ 6) && !(Ad.kind c.data.toList == 0) && decide (0 ≤ e ∧ e ≤ 1099511627776) && decide (1 ≤ t ∧ t ≤ Mi.tries p)
end Go.Proofs.YtfjdcopndkdbmaaGreatDoor
