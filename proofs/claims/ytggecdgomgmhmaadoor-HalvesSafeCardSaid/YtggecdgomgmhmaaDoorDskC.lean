/-
  Contract of disk.settle, whatever function is handed to it: what that function returns of each pending write is put over the durable bytes; then none is pending. Condition: the disk lies in memory as New lays it; the function writes memory of its own alone.
-/
import Derived.Test.YtggecdgomgmhmaaDoorDskB
import Derived.Deep.RegionHeld3
namespace Go.Proofs.YtggecdgomgmhmaaDoor
open Go.RowKit
section
variable {w : World} {F : Foot} {n : Nat} {dur lat : List UInt8} {pend : List (Nat × ByteArray)} {left : Int} {broken : Bool}

/-- Another's doing leaves a disk as it is. -/
theorem Raw.keep (h : Raw w F n dur lat pend left broken) {w' : World} {S : Nat → Prop} (hk : Kept S w w') (hS : ∀ x, F.has x → ¬ S x) : Raw w' F n dur lat pend left broken :=
  ⟨h.blk.of (hk.block _ h.blk.lt (hS _ (.inl rfl))), h.g1.of (hk.block _ h.g1.lt (hS _ (.inr (.inl rfl)))), h.g2.of (hk.block _ h.g2.lt (hS _ (.inr (.inr (.inl rfl))))), h.ne,
    own_of h.own (fun b e => hk.block b (own_lt h.own e) (hS _ (.inr (.inr (.inr e))))), h.ndur, h.nlat, h.within, h.few, h.small, h.low, h.high⟩

theorem wr_zero : ∀ w : World, (zeroValue 89).run Tryd.prog w = .ok (.agg #[.int .i64 0, .string ⟨#[]⟩]) w := by
  intro w
  obtain ⟨i0, hi0, hz0, _, _⟩ := info_parts wr_info
  simp [zeroValue, typeInfo, hi0, hz0]
theorem wr_size2 : (Tryd.prog.info? 89).map (·.size) = some 2 := by kernel_rfl
/-- A row of the call's own, cut to nothing. -/
theorem own_zero {P : Program} {w : World} {base size n : Nat} {t e : TypeId} {v : Value} {xs : List Value} (ht : P.underlying t = some (.slice e)) (hs : (P.info? e).map (·.size) = some size) (h : w.ownsRow base e size v n xs) :
    ∃ A c, (Value.slice A 0 c).ownBlock = v.ownBlock ∧ w.ownsRow base e size (.slice A 0 c) 0 [] ∧ ∀ W, (Instr.slice t v none (some (.int .i64 0)) none).run P W = .ok (.slice A 0 c) W := by
  cases hq : P.info? e with
  | none => simp [hq] at hs
  | some i =>
    rcases h.2 with ⟨rfl, rfl⟩ | ⟨g, cap, cur, rfl, hb, hh, hnc, hcm, hcs, ht'⟩
    · refine ⟨none, 0, rfl, ⟨by simp, .inl ⟨rfl, rfl⟩⟩, fun W => ?_⟩
      simp [Instr.slice, run_underlying ht, Instr.sliceBounds, Instr.sliceBound, asIntOf, sizeOf, typeInfo, hq]
    · refine ⟨some ⟨g, 0, none⟩, cap, rfl, ⟨by simp, .inr ⟨g, cap, cur, rfl, hb, hh, by omega, hcm, hcs, by simp⟩⟩, fun W => ?_⟩
      simp [Instr.slice, run_underlying ht, Instr.sliceBounds, Instr.sliceBound, asIntOf, sizeOf, typeInfo, hq, Addr.add]

/-- What is known of the function that settle is handed. -/
structure Keeper (w : World) (F : Foot) (pend : List (Nat × ByteArray)) (dur : List UInt8) (f : FuncId) (cp : Array Value) (C : Nat → Prop) (Cl : Nat → World → Prop) (kept : Nat → ByteArray) (durK : Nat → List UInt8) : Prop where
  enters : ∀ args W, (callFunc f args).run Tryd.prog W = .ok (.enter f args) W
  apart : ∀ x, C x → ¬ F.has x ∧ x < w.heap.size
  stays : ∀ k w w', Cl k w → (∀ x, C x → w'.heap[x]? = w.heap[x]?) → Cl k w'
  calls : ∀ k (hk : k < pend.length) W, Cl k W → Calls Tryd.prog f (#[.string pend[k].2] ++ cp) W (fun e W' => e = .returned (.string (kept k)) ∧ Cl (k + 1) W' ∧ Kept C W W')
  small : ∀ k (hk : k < pend.length), (kept k).size ≤ pend[k].2.size
  start : durK 0 = dur
  next : ∀ k (hk : k < pend.length), durK (k + 1) = Dk.put (durK k) pend[k].1 (kept k).data.toList

def SetRel (w : World) (F : Foot) (n : Nat) (lat : List UInt8) (pend : List (Nat × ByteArray)) (left : Int) (broken : Bool) (C : Nat → Prop) (Cl : Nat → World → Prop) (durK : Nat → List UInt8) (i : Value) (wr : World) : Prop :=
  ∃ k : Nat, k ≤ pend.length ∧ i = .int .i64 (k : Int) ∧ Raw wr F n (durK k) lat pend left broken ∧ Cl k wr ∧ Kept (fun x => x = F.g1 ∨ C x) w wr

def SettlePost (w : World) (F : Foot) (n : Nat) (dur lat : List UInt8) (left : Int) (broken : Bool) (C : Nat → Prop) (Cl : World → Prop) (e : Ending) (w' : World) : Prop :=
  e = .returned (.tuple #[]) ∧ ∃ pv, Raw w' ⟨F.d, F.g1, F.g2, pv⟩ n dur lat [] left broken ∧ (pv.ownBlock = F.pv.ownBlock) ∧ Cl w' ∧ Kept (fun x => F.has x ∨ C x) w w'

theorem settle_any (h : Raw w F n dur lat pend left broken) {f : FuncId} {cp : Array Value} {C : Nat → Prop} {Cl : Nat → World → Prop} {kept : Nat → ByteArray} {durK : Nat → List UInt8}
    (hK : Keeper w F pend dur f cp C Cl kept durK) (h0 : Cl 0 w) :
    Calls Tryd.prog 34 #[.pointer (some ⟨F.d, 0, none⟩), .func (.func f) #[] cp] w (SettlePost w F n (durK pend.length) lat left broken C (Cl pend.length)) := by
  have c2 := h.c2
  obtain ⟨A, cap, hpv⟩ := pv_form h
  rw [hpv] at c2
  have HP := Lib.hid hpv
  have hfew := h.few
  have hsm := h.small
  clear hpv
  go_enter Tryd.func34, Tryd.ntmps34
  go_wp2
  go_loopw [11] (SetRel w F n lat pend left broken C Cl durK) (fun i _ => pend.length - (intOf i).toNat)
  case atStart => exact ⟨0, by omega, rfl, by rw [hK.start]; exact h, h0, Kept.refl _ _⟩
  case round =>
    obtain ⟨k, hk, rfl, hr, hcl, hkp⟩ := hrel
    by_cases hlt : k < pend.length
    · obtain ⟨g, cap', hv, q1, q2, hob⟩ := hr.pcell k hlt
      have hA : A = some ⟨g, 0, none⟩ := by have := HP.out.symm.trans hv; injection this
      subst hA
      have HN := Lib.hid (hK.next k hlt)
      have HS := Lib.hid (hK.small k hlt)
      have HC := Lib.hid (hK.calls k hlt)
      have hw := hr.within pend[k] (List.getElem_mem hlt)
      generalize pend[k] = p at q1 q2 HN HS HC hw
      obtain ⟨at_, s⟩ := p
      simp only at q1 q2 HN HS HC hw
      have c0 := hr.c0
      clear c2
      have r1 : Raw (wr.alloc (.cells #[.int .i64 (at_ : Int), .string s] 89)) F n (durK k) lat pend left broken :=
        ⟨hr.blk.alloc _, hr.g1.alloc _, hr.g2.alloc _, hr.ne, own_of hr.own (fun b e => Below.heap_alloc _ _ _ (own_lt hr.own e)), hr.ndur, hr.nlat, hr.within, hr.few, hr.small, hr.low, hr.high⟩
      have b1 := Blk.new wr 89 #[.int .i64 (at_ : Int), .string s]
      have k1 := hkp.alloc (.cells #[.int .i64 (at_ : Int), .string s] 89)
      have l1 : Cl k (wr.alloc (.cells #[.int .i64 (at_ : Int), .string s] 89)) := hK.stays _ _ _ hcl (fun x hx => Below.heap_alloc _ _ _ (Nat.lt_of_lt_of_le (hK.apart x hx).2 hkp.size))
      have hL : w.heap.size ≤ wr.heap.size := hkp.size
      obtain ⟨A', hA', hsl⟩ := run_cut_from (P := Tryd.prog) 51 5 Tryd.underlying51 u8_size F.g1 n at_ (by omega)
      have HA := Lib.hid hA'
      clear hA'
      go_wp2
      generalize wr.alloc (.cells #[.int .i64 (at_ : Int), .string s] 89) = W1 at r1 b1 k1 l1 ⊢
      generalize wr.heap.size = L at b1 hL ⊢
      clear q1 q2 c0
      have c0 := r1.c0
      have a0 := b1.cell 0
      have a1 := b1.cell 1
      simp only [List.getElem?_toArray, List.getElem?_cons_zero, List.getElem?_cons_succ] at a0 a1
      have hent := hK.enters
      go_region_held3 (fun w' => w'.cell? ⟨F.d, 0, none⟩ = some (.slice (some ⟨F.g1, 0, none⟩) n n) ∧ w'.cell? ⟨L, 0, none⟩ = some (.int .i64 (at_ : Int)) ∧ w'.cell? ⟨L, 1, none⟩ = some (.string s))
        (first | go_keep | (exact S2) | (exact S3 _))
        (first
          | (refine (HC.out W1.drew (hK.stays _ _ W1.drew l1 (fun x hx => rfl))).mono ?_
             rintro e w' ⟨rfl, l2, k2'⟩
             have k2 : Kept C W1 w' := ⟨k2'.os, k2'.tape, k2'.output, k2'.size, k2'.block⟩
             have dd : ¬ C F.d := fun hc => (hK.apart _ hc).1 (.inl rfl)
             have dl : ¬ C L := fun hc => by have := (hK.apart _ hc).2; omega
             have S2 : w'.cell? ⟨F.d, 0, none⟩ = some (.slice (some ⟨F.g1, 0, none⟩) n n) ∧ w'.cell? ⟨L, 0, none⟩ = some (.int .i64 (at_ : Int)) ∧ w'.cell? ⟨L, 1, none⟩ = some (.string s) :=
               ⟨(World.cell?_of_block (a := ⟨F.d, 0, none⟩) (k2.block _ r1.blk.lt dd)).trans c0, (World.cell?_of_block (a := ⟨L, 0, none⟩) (k2.block _ b1.lt dl)).trans a0, (World.cell?_of_block (a := ⟨L, 1, none⟩) (k2.block _ b1.lt dl)).trans a1⟩
             have r2 : Raw w' F n (durK k) lat pend left broken := r1.keep k2 (fun x hx hc => (hK.apart x hc).1 hx)
             have nd : F.d ≠ F.g1 := r1.blk.ne_ r1.g1 (by decide)
             have nl : L ≠ F.g1 := b1.ne_ r1.g1 (by decide)
             have S3 : ∀ cs : Array Value, (w'.setRow F.g1 cs).cell? ⟨F.d, 0, none⟩ = some (.slice (some ⟨F.g1, 0, none⟩) n n) ∧ (w'.setRow F.g1 cs).cell? ⟨L, 0, none⟩ = some (.int .i64 (at_ : Int)) ∧ (w'.setRow F.g1 cs).cell? ⟨L, 1, none⟩ = some (.string s) := fun cs =>
               ⟨(cell_setRow_other w' F.g1 cs _ nd).trans S2.1, (cell_setRow_other w' F.g1 cs _ nl).trans S2.2.1, (cell_setRow_other w' F.g1 cs _ nl).trans S2.2.2⟩
             have HF := Lib.hid HS.out)
          | (refine step_copy_text rfl (.tmp 21) (.tmp 25) 51 9 rfl 5 Tryd.underlying51 u8_size A' (n - at_) (n - at_) (kept k) rfl rfl (by have := HF.out; omega) F.g1 at_ (durK k) 5 r2.g1 (fun h0 => HA.out (by have := HF.out; omega)) (by rw [r2.ndur]; have := HF.out; omega) ?_))
      have r3 := r2.redur (Dk.put (durK k) at_ (kept k).data.toList) (by rw [Dk.put_length _ _ _ (by rw [r2.ndur]; have := HF.out; simp; omega), r2.ndur])
      have l3 : Cl (k + 1) (w'.setRow F.g1 (cb (Dk.put (durK k) at_ (kept k).data.toList)).toArray) := hK.stays _ _ _ l2 (fun x hx => setRow_other _ _ _ _ (fun e => (hK.apart x hx).1 (.inr (.inl e))))
      have k3 : Kept (fun x => x = F.g1 ∨ C x) w (w'.setRow F.g1 (cb (Dk.put (durK k) at_ (kept k).data.toList)).toArray) := (k1.trans k2 (fun x hx => .inl (.inr hx))).setRow (.inl (.inl rfl)) _
      rw [← HN.out] at r3 l3 k3
      rw [← HN.out]
      clear S2 S3 r2 l2 k2 k2' r1 b1 k1 l1 c0 a0 a1 hent HC hsl HA
      go_wp2
      go_roundw
      case rel => exact ⟨k + 1, by omega, by go_num, r3, l3, k3⟩
      case measure => simp [intOf]; omega
    · obtain rfl : k = pend.length := by omega
      have c2' := hr.c2
      obtain ⟨w2, ys, hclr, hown2, hsz2, hg2⟩ := run_clear_own (P := Tryd.prog) wr 52 89 0 _ Tryd.underlying52 wr_zero (by intro u hu; simp [Value.cells] at hu; rcases hu with rfl | rfl <;> rfl) 2 rfl (by decide) F.pv pend.length (pc pend) 0 hr.own
      obtain ⟨A', c', hv', hown3, hsl⟩ := own_zero (P := Tryd.prog) Tryd.underlying52 wr_size2 hown2
      have k2 : Kept (fun x => F.pv.ownBlock = some x) wr w2 := (Kept.refl _ wr).grown hg2 (fun x hx => .inl hx)
      have old : ∀ {b : Nat} {t : TypeId} {cs : Array Value}, Blk wr b t cs → 89 ≠ t → Blk w2 b t cs := fun hb hne => hb.of (k2.block _ hb.lt (fun e => own_blk_ne hr.own hb hne e))
      have b2 := old hr.blk (by decide)
      have d2 := b2.cell 2
      have f2 := b2.frozen 2
      simp only [List.getElem?_toArray, List.getElem?_cons_zero, List.getElem?_cons_succ] at d2
      have nd1 : F.g1 ≠ F.d := hr.g1.ne_ hr.blk (by decide)
      have nd2 : F.g2 ≠ F.d := hr.g2.ne_ hr.blk (by decide)
      have hR : Raw (w2.setCell ⟨F.d, 2, none⟩ (.slice A' 0 c')) ⟨F.d, F.g1, F.g2, .slice A' 0 c'⟩ n (durK pend.length) lat [] left broken :=
        ⟨b2.set_ 2 _, (old hr.g1 (by decide)).far nd1 _, (old hr.g2 (by decide)).far nd2 _, hr.ne,
          own_of hown3 (fun b e => Below.heap_setCell _ _ _ _ (fun e' => own_blk_ne hown2 b2 (by decide) (by rw [← hv', e, e']))), hr.ndur, hr.nlat, (by intro p hp; simp at hp), by simp, hr.small, hr.low, hr.high⟩
      have hCl : Cl pend.length (w2.setCell ⟨F.d, 2, none⟩ (.slice A' 0 c')) := hK.stays _ _ _ hcl (fun x hx => by
        have hx' := hK.apart x hx
        refine (Below.heap_setCell _ _ _ _ (fun e => hx'.1 (.inl e))).trans ?_
        exact k2.block x (Nat.lt_of_lt_of_le hx'.2 hkp.size) (fun e => hx'.1 (.inr (.inr (.inr e)))))
      have hKp : Kept (fun x => F.has x ∨ C x) w (w2.setCell ⟨F.d, 2, none⟩ (.slice A' 0 c')) :=
        ((hkp.mono (T := fun x => F.has x ∨ C x) (fun x hx => by rcases hx with hx | hx; exact .inl (.inl (.inr (.inl hx))); exact .inl (.inr hx))).trans k2 (fun x hx => .inl (.inl (.inr (.inr (.inr hx)))))).setCell (p := ⟨F.d, 2, none⟩) (.inl (.inl (.inl rfl))) _
      clear c2
      have HR := Lib.hid hR
      clear hR b2 hown3 hown2 hg2 k2 hcl hr
      go_wp2
      go_end0
      exact ⟨rfl, _, HR.out, hv', hCl, hKp⟩
end
end Go.Proofs.YtggecdgomgmhmaaDoor
