/-
  Contracts of package halves: the closures put and erase make, and perform over any row of such steps. Condition: the disk lies in memory as New lays it and is not broken; fewer than 1000 writes are pending.
-/
import Derived.Test.YtggecdgomgmhmaaDoorHalD
import Derived.Test.YtggecdgomgmhmaaDoorRepB
namespace Go.Proofs.YtggecdgomgmhmaaDoor
open Go.RowKit

inductive St where
  | write (k : Nat) (s : ByteArray)
  | wipe (k m : Nat)
  | sync
def Dsk.io (σ : St) (D : Dsk) : Dsk := match σ with
  | .write k s => D.write k s
  | .wipe k m => D.write k (ba (zb m))
  | .sync => if stepB D.left false then D.fail else D.sync
def St.fits (n : Nat) : St → Prop
  | .write k s => k + s.size ≤ n
  | .wipe k m => k + m ≤ n
  | .sync => True
theorem io_broken (σ : St) (D : Dsk) : (D.io σ).broken = stepB D.left false := by
  cases σ with
  | write k s => rfl
  | wipe k m => rfl
  | sync =>
    unfold Dsk.io
    cases h : stepB D.left false
    · rfl
    · rfl
theorem io_n (σ : St) (D : Dsk) : (D.io σ).n = D.n := by
  cases σ with
  | write k s => rfl
  | wipe k m => rfl
  | sync => simp only [Dsk.io]; split <;> rfl
theorem io_pend (σ : St) (D : Dsk) : (D.io σ).pend.length ≤ D.pend.length + 1 := by
  cases σ with
  | write k s => simp [Dsk.io, Dsk.write]
  | wipe k m => simp [Dsk.io, Dsk.write]
  | sync =>
    simp only [Dsk.io]
    split
    · show D.pend.length ≤ _; omega
    · show ([] : List (Nat × ByteArray)).length ≤ _; simp
/-- The steps, up to the first one that fails. -/
def runD : List St → Dsk → Dsk
  | [], D => D
  | σ :: r, D => if stepB D.left false then D.io σ else runD r (D.io σ)

/-- What a call on a disk leaves, by the disk. -/
def Nx (w : World) (F : Foot) (D : Dsk) (w' : World) : Prop := Next w F D.n D.dur D.lat D.pend D.left D.broken w'
theorem Nx.mk {w w' : World} {F F' : Foot} {D : Dsk} (h1 : F'.d = F.d) (h2 : DiskAt w' F' D) (h3 : Kept F.has w w') (h4 : ∀ x, F'.has x → F.has x ∨ w.heap.size ≤ x) : Nx w F D w' := ⟨F', h1, h2, h3, h4⟩
theorem Nx.out {w w' : World} {F : Foot} {D : Dsk} (h : Nx w F D w') : ∃ F' : Foot, F'.d = F.d ∧ DiskAt w' F' D ∧ Kept F.has w w' ∧ ∀ x, F'.has x → F.has x ∨ w.heap.size ≤ x := h
theorem Nx.after {w w1 w' : World} {F : Foot} {D : Dsk} (h : Nx w1 F D w') (hb : Below w.heap.size w w1) : Nx w F D w' := by
  obtain ⟨F', h1, h2, h3, h4⟩ := h.out
  refine Nx.mk h1 h2 ((Kept.of_below (S := F.has) hb).trans h3 (fun x hx => .inl hx)) (fun x hx => ?_)
  rcases h4 x hx with e | e
  · exact .inl e
  · have := hb.size; exact .inr (by omega)
theorem Nx.trans {w w1 w' : World} {F F' : Foot} {D : Dsk} (h1 : F'.d = F.d) (h3 : Kept F.has w w1) (h4 : ∀ x, F'.has x → F.has x ∨ w.heap.size ≤ x) (h : Nx w1 F' D w') : Nx w F D w' := by
  obtain ⟨F2, g1, g2, g3, g4⟩ := h.out
  refine Nx.mk (g1.trans h1) g2 (h3.trans g3 h4) (fun x hx => ?_)
  rcases g4 x hx with e | e
  · exact h4 x e
  · have := h3.size; exact .inr (by omega)
theorem Nx.same {w : World} {F : Foot} {D : Dsk} (h : DiskAt w F D) : Nx w F D w := Nx.mk rfl h (Kept.refl _ _) (fun _ hx => .inl hx)

/-- A box that lies off S. -/
def Box (S : Nat → Prop) (w : World) (b : Nat) (t : TypeId) (v : Value) : Prop := Blk w b t #[v] ∧ ¬ S b
theorem Box.go {S S' : Nat → Prop} {w w' : World} {b : Nat} {t : TypeId} {v : Value} (h : Box S w b t v) (hk : Kept S w w') (hS : ∀ x, S' x → S x ∨ w.heap.size ≤ x) : Box S' w' b t v :=
  ⟨h.1.of (hk.block _ h.1.lt h.2), fun hx => by
    rcases hS _ hx with e | e
    · exact h.2 e
    · have := h.1.lt; omega⟩
/-- A function value that performs a step on the disk at d. -/
def StepIs (S : Nat → Prop) (w : World) (d : Nat) (f : Value) : St → Prop
  | .write k s => ∃ a b c, f = .func (.func 48) #[] #[.pointer (some ⟨a, 0, none⟩), .pointer (some ⟨b, 0, none⟩), .pointer (some ⟨c, 0, none⟩)] ∧ Box S w a 24 (.pointer (some ⟨d, 0, none⟩)) ∧ Box S w b 3 (.int .i64 (k : Int)) ∧ Box S w c 9 (.string s)
  | .wipe k m => m ≤ 131072 ∧ ∃ a b c, f = .func (.func 42) #[] #[.pointer (some ⟨a, 0, none⟩), .pointer (some ⟨b, 0, none⟩), .pointer (some ⟨c, 0, none⟩)] ∧ Box S w a 24 (.pointer (some ⟨d, 0, none⟩)) ∧ Box S w b 3 (.int .i64 (k : Int)) ∧ Box S w c 3 (.int .i64 (m : Int))
  | .sync => f = .func (.func 29) #[.pointer (some ⟨d, 0, none⟩)] #[]
theorem StepIs.go {S S' : Nat → Prop} {w w' : World} {d : Nat} {f : Value} {σ : St} (h : StepIs S w d f σ) (hk : Kept S w w') (hS : ∀ x, S' x → S x ∨ w.heap.size ≤ x) : StepIs S' w' d f σ := by
  cases σ with
  | write k s =>
    obtain ⟨a, b, c, e, h1, h2, h3⟩ := h
    exact ⟨a, b, c, e, h1.go hk hS, h2.go hk hS, h3.go hk hS⟩
  | wipe k m =>
    obtain ⟨hm, a, b, c, e, h1, h2, h3⟩ := h
    exact ⟨hm, a, b, c, e, h1.go hk hS, h2.go hk hS, h3.go hk hS⟩
  | sync => exact h

section
variable {w : World} {F : Foot} {D : Dsk}
def IoPost (w : World) (F : Foot) (σ : St) (D : Dsk) (e : Ending) (w' : World) : Prop := e = .returned (.int .i64 (errOf (stepB D.left false))) ∧ Nx w F (D.io σ) w'

theorem put1_any (h : DiskAt w F D) (hbr : D.broken = false) (k : Nat) (s : ByteArray) (hk : k + s.size ≤ D.n) (hp : D.pend.length < 1000) (a b c : Nat) (ha : Blk w a 24 #[.pointer (some ⟨F.d, 0, none⟩)]) (hb : Blk w b 3 #[.int .i64 (k : Int)]) (hc : Blk w c 9 #[.string s]) :
    Calls Tryd.prog 48 #[.pointer (some ⟨a, 0, none⟩), .pointer (some ⟨b, 0, none⟩), .pointer (some ⟨c, 0, none⟩)] w (IoPost w F (.write k s) D) := by
  unfold DiskAt at h
  rw [hbr] at h
  have HW := Lib.hid (write_any h k s hk hp)
  have ea := ha.cell 0
  have eb := hb.cell 0
  have ec := hc.cell 0
  simp only [List.getElem?_toArray, List.getElem?_cons_zero] at ea eb ec
  go_enter Tryd.func48, Tryd.ntmps48
  go_wp2_with (go_at_call 43; refine HW.out.mono ?_; rintro e w' ⟨rfl, hn⟩)
  go_ret
  refine ⟨rfl, ?_⟩
  show Next w F D.n D.dur (D.write k s).lat (D.write k s).pend _ _ w'
  rw [Dsk.lat_write]
  exact hn

set_option maxHeartbeats 2000000 in
theorem erase1_any (h : DiskAt w F D) (hbr : D.broken = false) (k m : Nat) (hk : k + m ≤ D.n) (hm : m ≤ 131072) (hp : D.pend.length < 1000) (a b c : Nat) (ha : Blk w a 24 #[.pointer (some ⟨F.d, 0, none⟩)]) (hb : Blk w b 3 #[.int .i64 (k : Int)]) (hc : Blk w c 3 #[.int .i64 (m : Int)]) (hnf : ¬ F.has a ∧ ¬ F.has b ∧ ¬ F.has c) :
    Calls Tryd.prog 42 #[.pointer (some ⟨a, 0, none⟩), .pointer (some ⟨b, 0, none⟩), .pointer (some ⟨c, 0, none⟩)] w (IoPost w F (.wipe k m) D) := by
  unfold DiskAt at h
  rw [hbr] at h
  have HD := Lib.hid h
  have HR := Lib.hid (fun W => repeat_any m W hm)
  have HA := Lib.hid ha
  have HBb := Lib.hid hb
  have HCc := Lib.hid hc
  have HNF := Lib.hid hnf
  have ea := ha.cell 0
  have eb := hb.cell 0
  have ec := hc.cell 0
  simp only [List.getElem?_toArray, List.getElem?_cons_zero] at ea eb ec
  have hz : (ba (zb m)).size = m := by rw [ba_size, zb_len]
  generalize hZ : ba (zb m) = Z at HR hz
  have HZ := Lib.hid hZ
  clear h hZ ha hb hc hnf
  go_enter Tryd.func42, Tryd.ntmps42
  go_wp2_with fail
  go_region_held3 (fun w' => w'.cell? ⟨a, 0, none⟩ = some (.pointer (some ⟨F.d, 0, none⟩)) ∧ w'.cell? ⟨b, 0, none⟩ = some (.int .i64 (k : Int)) ∧ w'.cell? ⟨c, 0, none⟩ = some (.int .i64 (m : Int)))
    (first | go_keep | (exact S2) | (exact S3))
    (first
    | (go_at_call 44
       refine (HR.out _).mono ?_
       rintro e w1 ⟨rfl, hb1⟩
       have HB1 := Lib.hid (undrew hb1)
       have ea1 := (HA.out.of (HB1.out.block _ HA.out.lt)).cell 0
       have eb1 := (HBb.out.of (HB1.out.block _ HBb.out.lt)).cell 0
       have HW := Lib.hid (write_any (Raw.keep HD.out (S := fun _ => False) (Kept.of_below HB1.out) (fun _ _ hx => hx)) k Z (by omega) hp)
       have ec1 := (HCc.out.of (HB1.out.block _ HCc.out.lt)).cell 0
       simp only [List.getElem?_toArray, List.getElem?_cons_zero] at ea1 eb1 ec1
       have S2 : w1.cell? ⟨a, 0, none⟩ = some (.pointer (some ⟨F.d, 0, none⟩)) ∧ w1.cell? ⟨b, 0, none⟩ = some (.int .i64 (k : Int)) ∧ w1.cell? ⟨c, 0, none⟩ = some (.int .i64 (m : Int)) := ⟨ea1, eb1, ec1⟩
       clear hb1)
    | (go_at_call 43
       refine HW.out.mono ?_
       rintro e w' ⟨rfl, hn⟩
       have HN := Lib.hid hn
       obtain ⟨F2, g1, g2, g3, g4⟩ := hn
       have S3 : w'.cell? ⟨a, 0, none⟩ = some (.pointer (some ⟨F.d, 0, none⟩)) ∧ w'.cell? ⟨b, 0, none⟩ = some (.int .i64 (k : Int)) ∧ w'.cell? ⟨c, 0, none⟩ = some (.int .i64 (m : Int)) := by
         have hh := HNF.out
         exact ⟨(World.cell?_of_block (a := ⟨a, 0, none⟩) (g3.block _ (Nat.lt_of_lt_of_le HA.out.lt HB1.out.size) hh.1)).trans ea1, (World.cell?_of_block (a := ⟨b, 0, none⟩) (g3.block _ (Nat.lt_of_lt_of_le HBb.out.lt HB1.out.size) hh.2.1)).trans eb1, (World.cell?_of_block (a := ⟨c, 0, none⟩) (g3.block _ (Nat.lt_of_lt_of_le HCc.out.lt HB1.out.size) hh.2.2)).trans ec1⟩
       clear g1 g2 g3 g4))
  all_goals
    go_wp2_with fail
    go_ret
    refine ⟨rfl, ?_⟩
    have hx : Nx w1 F (D.write k (ba (zb m))) w' := by
      show Next w1 F D.n D.dur (D.write k (ba (zb m))).lat (D.write k (ba (zb m))).pend _ _ w'
      rw [Dsk.lat_write, HZ.out]
      exact HN.out
    exact hx.after HB1.out
end
end Go.Proofs.YtggecdgomgmhmaaDoor
