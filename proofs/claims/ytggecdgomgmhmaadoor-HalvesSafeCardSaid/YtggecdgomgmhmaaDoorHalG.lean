/-
  Contracts of package halves: put, erase, begin; Room, Epoch, Broken, Fits of a log. What a log is in memory. Condition: the disk lies in memory as New lays it.
-/
import Derived.Test.YtggecdgomgmhmaaDoorHalF
namespace Go.Proofs.YtggecdgomgmhmaaDoor
open Go.RowKit

def StepsL (S : Nat → Prop) (w : World) (d : Nat) (fs : List Value) (σs : List St) : Prop :=
  fs.length = σs.length ∧ (∀ u ∈ fs, u.oneCell' = true) ∧ ∀ (j : Nat) (f : Value) (σ : St), fs[j]? = some f → σs[j]? = some σ → StepIs S w d f σ
theorem StepsL.nil (S : Nat → Prop) (w : World) (d : Nat) : StepsL S w d [] [] := ⟨rfl, fun u hu => (by cases hu), fun j f σ h => (by simp at h)⟩
theorem StepsL.cons {S : Nat → Prop} {w : World} {d : Nat} {fs : List Value} {σs : List St} {f : Value} {σ : St} (hf : StepIs S w d f σ) (h1 : f.oneCell' = true) (h : StepsL S w d fs σs) : StepsL S w d (f :: fs) (σ :: σs) := by
  refine ⟨by simp [h.1], fun u hu => ?_, fun j g τ hg ht => ?_⟩
  · rcases List.mem_cons.1 hu with rfl | hu
    · exact h1
    · exact h.2.1 u hu
  · cases j with
    | zero =>
      simp at hg ht
      subst hg; subst ht
      exact hf
    | succ j => exact h.2.2 j g τ (by simpa using hg) (by simpa using ht)
theorem StepsL.go {S S' : Nat → Prop} {w w' : World} {d : Nat} {fs : List Value} {σs : List St} (h : StepsL S w d fs σs) (hk : Kept S w w') (hS : ∀ x, S' x → S x ∨ w.heap.size ≤ x) : StepsL S' w' d fs σs :=
  ⟨h.1, h.2.1, fun j f σ hf hσ => (h.2.2 j f σ hf hσ).go hk hS⟩
theorem StepsL.append {S : Nat → Prop} {w : World} {d : Nat} {fs gs : List Value} {σs τs : List St} (h : StepsL S w d fs σs) (k : StepsL S w d gs τs) : StepsL S w d (fs ++ gs) (σs ++ τs) := by
  refine ⟨by simp [h.1, k.1], fun u hu => ?_, fun j f σ hf hσ => ?_⟩
  · rcases List.mem_append.1 hu with hu | hu
    · exact h.2.1 u hu
    · exact k.2.1 u hu
  · have hl := h.1
    by_cases hj : j < fs.length
    · rw [List.getElem?_append_left hj] at hf
      rw [List.getElem?_append_left (by omega)] at hσ
      exact h.2.2 j f σ hf hσ
    · rw [List.getElem?_append_right (by omega)] at hf
      rw [List.getElem?_append_right (by omega), ← hl] at hσ
      exact k.2.2 _ f σ hf hσ
/-- A row of steps in one block. -/
theorem StepsL.lies {S : Nat → Prop} {w : World} {d g : Nat} {t : TypeId} {fs : List Value} {σs : List St} (h : StepsL S w d fs σs) (hb : Blk w g t fs.toArray) (hg : ¬ S g) : Steps S w d (some ⟨g, 0, none⟩) σs :=
  ⟨fs, h.1, fun i u hi => ⟨_, rfl, hb.lt, hg, by
    have e : (⟨g, 0, none⟩ : Addr).add i = ⟨g, i, none⟩ := by cases i <;> simp [Addr.add]
    rw [e, hb.cell]
    simpa using hi⟩, h.2.2⟩

section
variable {w : World}
theorem box3 (w : World) (t1 t2 t3 : TypeId) (x y z : Value) : Blk (((w.alloc (.cells #[x] t1)).alloc (.cells #[y] t2)).alloc (.cells #[z] t3)) w.heap.size t1 #[x] ∧ Blk (((w.alloc (.cells #[x] t1)).alloc (.cells #[y] t2)).alloc (.cells #[z] t3)) (w.heap.size + 1) t2 #[y] ∧ Blk (((w.alloc (.cells #[x] t1)).alloc (.cells #[y] t2)).alloc (.cells #[z] t3)) (w.heap.size + 1 + 1) t3 #[z] := by
  have a := ((Blk.new w t1 #[x]).alloc (.cells #[y] t2)).alloc (.cells #[z] t3)
  have b := (Blk.new (w.alloc (.cells #[x] t1)) t2 #[y]).alloc (.cells #[z] t3)
  have c := Blk.new ((w.alloc (.cells #[x] t1)).alloc (.cells #[y] t2)) t3 #[z]
  exact ⟨a, by simpa using b, by simpa using c⟩
theorem below3 (w : World) (o1 o2 o3 : Obj) : Below w.heap.size w (((w.alloc o1).alloc o2).alloc o3) := (((Below.refl _ w).alloc (Nat.le_refl _) _).alloc (by simp) _).alloc (by simp; omega) _

def EraseP (w : World) (d k m : Nat) (e : Ending) (w' : World) : Prop :=
  ∃ a b c : Nat, e = .returned (.func (.func 42) #[] #[.pointer (some ⟨a, 0, none⟩), .pointer (some ⟨b, 0, none⟩), .pointer (some ⟨c, 0, none⟩)]) ∧ StepIs (· < w.heap.size) w' d (.func (.func 42) #[] #[.pointer (some ⟨a, 0, none⟩), .pointer (some ⟨b, 0, none⟩), .pointer (some ⟨c, 0, none⟩)]) (.wipe k m) ∧ Below w.heap.size w w'
theorem erase_any (w : World) (d k m : Nat) (hm : m ≤ 131072) :
    Calls Tryd.prog 25 #[.pointer (some ⟨d, 0, none⟩), .int .i64 (k : Int), .int .i64 (m : Int)] w (EraseP w d k m) := by
  have hmf : ∀ (fn : Fn) (first cap : Array Value) (w : World), (Instr.makeFunc fn first cap).run Tryd.prog w = .ok (.func fn first cap) w := fun _ _ _ _ => rfl
  go_enter Tryd.func25, Tryd.ntmps25
  go_wp2_with fail
  go_ret
  obtain ⟨b1, b2, b3⟩ := box3 w 24 3 3 (.pointer (some ⟨d, 0, none⟩)) (.int .i64 (k : Int)) (.int .i64 (m : Int))
  exact ⟨_, _, _, rfl, ⟨hm, _, _, _, rfl, ⟨b1, by omega⟩, ⟨b2, by omega⟩, ⟨b3, by omega⟩⟩, below3 w _ _ _⟩
def PutP (w : World) (d k : Nat) (s : ByteArray) (e : Ending) (w' : World) : Prop :=
  ∃ a b c : Nat, e = .returned (.func (.func 48) #[] #[.pointer (some ⟨a, 0, none⟩), .pointer (some ⟨b, 0, none⟩), .pointer (some ⟨c, 0, none⟩)]) ∧ StepIs (· < w.heap.size) w' d (.func (.func 48) #[] #[.pointer (some ⟨a, 0, none⟩), .pointer (some ⟨b, 0, none⟩), .pointer (some ⟨c, 0, none⟩)]) (.write k s) ∧ Below w.heap.size w w'
theorem put_any (w : World) (d k : Nat) (s : ByteArray) :
    Calls Tryd.prog 32 #[.pointer (some ⟨d, 0, none⟩), .int .i64 (k : Int), .string s] w (PutP w d k s) := by
  have hmf : ∀ (fn : Fn) (first cap : Array Value) (w : World), (Instr.makeFunc fn first cap).run Tryd.prog w = .ok (.func fn first cap) w := fun _ _ _ _ => rfl
  go_enter Tryd.func32, Tryd.ntmps32
  go_wp2_with fail
  go_ret
  obtain ⟨b1, b2, b3⟩ := box3 w 24 3 9 (.pointer (some ⟨d, 0, none⟩)) (.int .i64 (k : Int)) (.string s)
  exact ⟨_, _, _, rfl, ⟨_, _, _, rfl, ⟨b1, by omega⟩, ⟨b2, by omega⟩, ⟨b3, by omega⟩⟩, below3 w _ _ _⟩
end

section
variable {w : World} {F : Foot} {n : Nat} {dur lat : List UInt8} {pend : List (Nat × ByteArray)} {left : Int} {broken : Bool}
/-- The four steps that begin a half. -/
def beg (st hf : Nat) (R : ByteArray) : List St := [.wipe st hf, .sync, .write st R, .sync]
def BeginP (w : World) (d st hf : Nat) (R : ByteArray) (e : Ending) (w' : World) : Prop :=
  ∃ (g : Nat) (fs : List Value), e = .returned (.slice (some ⟨g, 0, none⟩) 4 4) ∧ Blk w' g 61 fs.toArray ∧ fs.length = 4 ∧ w.heap.size ≤ g ∧ StepsL (fun x => x < w.heap.size ∨ g ≤ x) w' d fs (beg st hf R) ∧ Below w.heap.size w w'
theorem begin_any (h : Raw w F n dur lat pend left broken) {hf : Nat} (hhf : n / 2 = hf) (st : Nat) (R : ByteArray) :
    Calls Tryd.prog 28 #[.pointer (some ⟨F.d, 0, none⟩), .int .i64 (st : Int), .string R] w (BeginP w F.d st hf R) := by
  have hmf : ∀ (fn : Fn) (first cap : Array Value) (w : World), (Instr.makeFunc fn first cap).run Tryd.prog w = .ok (.func fn first cap) w := fun _ _ _ _ => rfl
  have hsm := h.small
  have HH := Lib.hid (half_any h hhf)
  have HE := Lib.hid (erase_any w F.d st hf (by omega))
  clear h
  go_enter Tryd.func28, Tryd.ntmps28
  go_wp2_with (first
    | (go_at_call 26; refine HH.out.mono ?_; rintro e w' ⟨rfl, rfl⟩)
    | (go_at_call 25; refine HE.out.mono ?_; rintro e w1 ⟨a1, b1, c1, rfl, hs1, hb1⟩; have HS1 := Lib.hid hs1; have HB1 := Lib.hid hb1; have HP := Lib.hid (put_any w1 F.d st R); clear hs1 hb1)
    | (go_at_call 32; refine HP.out.mono ?_; rintro e w2 ⟨a2, b2, c2, rfl, hs2, hb2⟩; have HS2 := Lib.hid hs2; have HB2 := Lib.hid hb2; clear hs2 hb2))
  go_ret
  have hsz := HB1.out.size
  have hsz2 := HB2.out.size
  have hall : Below w2.heap.size w2 (w2.alloc (.cells #[.func (.func 42) #[] #[.pointer (some ⟨a1, 0, none⟩), .pointer (some ⟨b1, 0, none⟩), .pointer (some ⟨c1, 0, none⟩)], .func (.func 29) #[.pointer (some ⟨F.d, 0, none⟩)] #[], .func (.func 48) #[] #[.pointer (some ⟨a2, 0, none⟩), .pointer (some ⟨b2, 0, none⟩), .pointer (some ⟨c2, 0, none⟩)], .func (.func 29) #[.pointer (some ⟨F.d, 0, none⟩)] #[]] 61)) := (Below.refl _ w2).alloc (Nat.le_refl _) _
  refine ⟨w2.heap.size, [.func (.func 42) #[] #[.pointer (some ⟨a1, 0, none⟩), .pointer (some ⟨b1, 0, none⟩), .pointer (some ⟨c1, 0, none⟩)], .func (.func 29) #[.pointer (some ⟨F.d, 0, none⟩)] #[], .func (.func 48) #[] #[.pointer (some ⟨a2, 0, none⟩), .pointer (some ⟨b2, 0, none⟩), .pointer (some ⟨c2, 0, none⟩)], .func (.func 29) #[.pointer (some ⟨F.d, 0, none⟩)] #[]], rfl, Blk.new w2 _ _, rfl, by omega, ?_, HB1.out.trans ((HB2.out.mono hsz).trans (hall.mono (by omega)))⟩
  refine StepsL.cons ?_ rfl (StepsL.cons rfl rfl (StepsL.cons ?_ rfl (StepsL.cons rfl rfl (StepsL.nil _ _ _))))
  · exact (HS1.out.go (S' := fun x => x < w.heap.size ∨ w2.heap.size ≤ x) ((Kept.of_below HB2.out).trans (Kept.of_below (S := (· < w.heap.size)) hall) (fun x hx => .inl hx)) (fun x hx => by
      rcases hx with hx | hx
      · exact .inl hx
      · exact .inr (by omega)))
  · exact HS2.out.go (S' := fun x => x < w.heap.size ∨ w2.heap.size ≤ x) (Kept.of_below hall) (fun x hx => by
      rcases hx with hx | hx
      · exact .inl (Nat.lt_of_lt_of_le hx hsz)
      · exact .inr hx)

/-- A log in memory. -/
def LogAt (w : World) (g d st u e : Nat) (br : Bool) : Prop := Blk w g 68 #[.pointer (some ⟨d, 0, none⟩), .int .i64 (st : Int), .int .i64 (u : Int), .int .u64 (e : Int), .bool br]
theorem LogAt.off {g d st u e : Nat} {br : Bool} (h : LogAt w g d st u e br) (hR : Raw w F n dur lat pend left broken) : ¬ F.has g := by
  rintro (rfl | rfl | rfl | hx)
  · exact (Blk.ne_ h hR.blk (by decide)) rfl
  · exact (Blk.ne_ h hR.g1 (by decide)) rfl
  · exact (Blk.ne_ h hR.g2 (by decide)) rfl
  · exact own_blk_ne hR.own h (by decide) hx
/-- The room of a log. -/
def roomN (hf u : Nat) (br : Bool) : Int := if br then 0 else (hf : Int) - (u : Int)
theorem room_any (h : Raw w F n dur lat pend left broken) {hf : Nat} (hhf : n / 2 = hf) {g st u e : Nat} {br : Bool} (hL : LogAt w g F.d st u e br) (hu : u ≤ 1000000) :
    Calls Tryd.prog 18 #[.pointer (some ⟨g, 0, none⟩)] w fun x w' => x = .returned (.int .i64 (roomN hf u br)) ∧ Below w.heap.size w w' := by
  have hsm := h.small
  have HH := Lib.hid (half_any (Raw.keep h (S := fun _ => False) ((Kept.refl (fun _ => False) w).drew) (fun _ _ hx => hx)) hhf)
  have e0 := Blk.cell hL 0
  have e2 := Blk.cell hL 2
  have e4 := Blk.cell hL 4
  simp only [List.getElem?_toArray, List.getElem?_cons_zero, List.getElem?_cons_succ] at e0 e2 e4
  cases br with
  | true =>
    go_enter Tryd.func18, Tryd.ntmps18
    go_wp2_with fail
    go_ret
    exact ⟨rfl, Below.refl _ _⟩
  | false =>
    go_enter Tryd.func18, Tryd.ntmps18
    go_wp2_with fail
    go_region_held3 (fun w' => w'.cell? ⟨g, 0, none⟩ = some (.pointer (some ⟨F.d, 0, none⟩)) ∧ w'.cell? ⟨g, 2, none⟩ = some (.int .i64 (u : Int)))
      (first | go_keep)
      (first
        | (go_at_call 26
           refine HH.out.mono ?_
           rintro e w' ⟨rfl, rfl⟩))
    go_wp2_with fail
    go_ret
    have HW : IntKind.i64.wrap ((hf : Int) - (u : Int)) = (hf : Int) - (u : Int) := by rw [IntKind.wrap_i64]; omega
    rw [HW]
    exact ⟨rfl, (Below.refl _ w).drew⟩
theorem room_nil (w : World) :
    Calls Tryd.prog 18 #[.pointer none] w fun x w' => x = .returned (.int .i64 0) ∧ w = w' := by
  go_enter Tryd.func18, Tryd.ntmps18
  go_wp2_with fail
  go_ret
  exact ⟨rfl, rfl⟩
theorem epoch_any {g d st u e : Nat} {br : Bool} (hL : LogAt w g d st u e br) :
    Calls Tryd.prog 19 #[.pointer (some ⟨g, 0, none⟩)] w fun x w' => x = .returned (.int .u64 (e : Int)) ∧ w = w' := by
  have e3 := Blk.cell hL 3
  simp only [List.getElem?_toArray, List.getElem?_cons_zero, List.getElem?_cons_succ] at e3
  go_enter Tryd.func19, Tryd.ntmps19
  go_wp2_with fail
  go_ret
  exact ⟨rfl, rfl⟩
theorem epoch_nil (w : World) :
    Calls Tryd.prog 19 #[.pointer none] w fun x w' => x = .returned (.int .u64 0) ∧ w = w' := by
  go_enter Tryd.func19, Tryd.ntmps19
  go_wp2_with fail
  go_ret
  exact ⟨rfl, rfl⟩
theorem lbroken_nil (w : World) :
    Calls Tryd.prog 22 #[.pointer none] w fun x w' => x = .returned (.bool false) ∧ w = w' := by
  go_enter Tryd.func22, Tryd.ntmps22
  go_wp2_with fail
  go_ret
  exact ⟨rfl, rfl⟩
theorem fits_nil (k : Int) (w : World) :
    Calls Tryd.prog 21 #[.pointer none, .int .i64 k] w fun x w' => x = .returned (.bool false) ∧ w = w' := by
  by_cases hk : 1 ≤ k ∧ k ≤ 32768
  · have HS := Lib.hid (sz_ok hk.1 hk.2)
    have hp : (0 : Int) < k + 8 := by omega
    have hn : ¬ (k + 8 ≤ 0) := by omega
    go_enter Tryd.func21, Tryd.ntmps21
    go_wp2_with first | (go_at_call 31; refine (size_any _ _).mono ?_; rintro e w' ⟨rfl, rfl⟩; rw [HS.out]) | (go_at_call 18; refine (room_nil _).mono ?_; rintro e w' ⟨rfl, rfl⟩)
    go_ret
    refine ⟨?_, rfl⟩
    rw [decide_eq_false (show ¬ (k + 8 ≤ 0) by omega)]
    rfl
  · have HS := Lib.hid (sz_no hk)
    go_enter Tryd.func21, Tryd.ntmps21
    go_wp2_with first | (go_at_call 31; refine (size_any _ _).mono ?_; rintro e w' ⟨rfl, rfl⟩; rw [HS.out])
    go_ret
    exact ⟨rfl, rfl⟩
/-- Is there room? -/
def fitsB (k room : Int) : Bool := decide (0 < sz k) && decide (sz k ≤ room)
theorem fits_any (h : Raw w F n dur lat pend left broken) {hf : Nat} (hhf : n / 2 = hf) {g st u e : Nat} {br : Bool} (hL : LogAt w g F.d st u e br) (hu : u ≤ 1000000) (k : Int) :
    Calls Tryd.prog 21 #[.pointer (some ⟨g, 0, none⟩), .int .i64 k] w fun x w' => x = .returned (.bool (fitsB k (roomN hf u br))) ∧ Below w.heap.size w w' := by
  have HR := Lib.hid (room_any h hhf hL hu)
  generalize roomN hf u br = R at HR
  unfold fitsB
  by_cases hk : 1 ≤ k ∧ k ≤ 32768
  · have HS := Lib.hid (sz_ok hk.1 hk.2)
    have hp : (0 : Int) < k + 8 := by omega
    go_enter Tryd.func21, Tryd.ntmps21
    go_wp2_with first | (go_at_call 31; refine (size_any _ _).mono ?_; rintro e w' ⟨rfl, rfl⟩; rw [HS.out]) | (go_at_call 18; refine HR.out.mono ?_; rintro e w1 ⟨rfl, hb⟩)
    go_ret
    refine ⟨?_, hb⟩
    rw [HS.out, decide_eq_true hp, Bool.true_and]
    rfl
  · have HS := Lib.hid (sz_no hk)
    go_enter Tryd.func21, Tryd.ntmps21
    go_wp2_with first | (go_at_call 31; refine (size_any _ _).mono ?_; rintro e w' ⟨rfl, rfl⟩; rw [HS.out])
    go_ret
    rw [HS.out]
    exact ⟨rfl, Below.refl _ _⟩
end
end Go.Proofs.YtggecdgomgmhmaaDoor
