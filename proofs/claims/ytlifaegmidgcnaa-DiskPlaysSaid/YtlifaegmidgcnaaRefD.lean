/-
  Contract of the document's own disk (package homecomingref02): Crash. Condition: the disk lies in memory as New lays it; fewer than 1000 writes wait.
-/
import Derived.Test.YtlifaegmidgcnaaRefC
namespace Go.Proofs.Ytlifaegmidgcnaa
open Go.RowKit

theorem extract_take (s : ByteArray) (m : Nat) : (s.extract 0 m).data.toList = s.data.toList.take m := by
  simp [ByteArray.data_extract, Array.toList_extract, List.extract]
theorem put_next (l : List UInt8) (k j : Nat) (s : ByteArray) (h : k + s.size ≤ l.length) (hj : j < s.size) :
    Dk.put (Dk.put l k (s.data.toList.take j)) (k + j) (s.extract j (j + 1)).data.toList = Dk.put l k (s.data.toList.take (j + 1)) := by
  have hs : s.data.toList.length = s.size := by simp
  have hx : (s.extract j (j + 1)).data.toList.length = 1 := by simp; omega
  have e : ∀ m, m ≤ s.size → k + (s.data.toList.take m).length ≤ l.length := fun m hm => by rw [List.length_take]; omega
  apply List.ext_getElem?
  intro i
  rw [Dk.put_getElem? _ _ _ (by rw [Dk.put_length _ _ _ (e j (by omega)), hx]; omega), Dk.put_getElem? _ _ _ (e (j + 1) (by omega)), Dk.put_getElem? _ _ _ (e j (by omega)), hx, List.length_take, List.length_take, List.getElem?_take, List.getElem?_take]
  by_cases hi : k + j = i
  · subst hi
    rw [if_pos (by omega), if_pos (by omega), if_pos (by omega)]
    have h1 : k + j - (k + j) = 0 := by omega
    have h2 : k + j - k = j := by omega
    rw [h1, h2, bytes_get s j hj, bytes_get _ 0 (by simp; omega), ByteArray.getElem_extract]
    rfl
  · rw [if_neg (by omega)]
    by_cases hc : k ≤ i ∧ i < k + min j s.data.toList.length
    · rw [if_pos hc, if_pos (by omega), if_pos (by omega), if_pos (by omega)]
    · rw [if_neg hc, if_neg (by omega)]

/-- One byte of a text, as a text. -/
theorem run_one_byte (s : ByteArray) (j : Nat) (hj : j < s.size) (W : World) : (Instr.slice 9 (.string s) (some (.int .i64 (j : Int))) (some (.int .i64 ((j : Int) + 1))) none).run Try.prog W = .ok (.string (s.extract j (j + 1))) W := by
  have h1 : (0 : Int) ≤ (j : Int) + 1 ∧ (j : Int) + 1 ≤ (s.size : Int) := by omega
  have h2 : ((j : Int) + 1).toNat = j + 1 := by omega
  have h3 : (0 : Int) ≤ (j : Int) ∧ (j : Int) ≤ ((j + 1 : Nat) : Int) := by omega
  simp [Instr.slice, run_underlying Try.underlying9, Instr.sliceBounds, Instr.sliceBound, asIntOf, h1, h2, h3]

section
variable {w : World} {F : RFoot} {n : Nat} {st : List UInt8} {wait : List (Nat × ByteArray)} {left : Int} {broke : Bool}

/-- A row of bytes told anew in the disk. -/
theorem Ref.restay (h : Ref w F n st wait left broke) {w1 : World} (hbel : Below w.heap.size w w1) {g cap : Nat} {l : List UInt8} (hb : Bts w1 g n cap l) (hg : w.heap.size ≤ g) :
    Ref (w1.setCell ⟨F.d, 0, none⟩ (.slice (some ⟨g, 0, none⟩) n cap)) ⟨F.d, g, cap, F.wv⟩ n l wait left broke := by
  have h1 := h.below hbel
  have hgd : g ≠ F.d := by have := h.blk.lt; omega
  exact ⟨h1.blk.set_ 0 _, hb.of (Below.heap_setCell _ _ _ _ hgd), own_of h1.own (fun b e => Below.heap_setCell _ _ _ _ (fun e' => own_blk_ne h1.own h1.blk (by decide) (by rw [e, e']))), h.within, h.few, h.pos, h.small, h.low, h.high⟩

/-- How many of the first j bytes are kept. -/
def kc (K : Int) (j : Nat) : Nat := min j K.toNat
theorem kc_all (K : Int) (s : ByteArray) : kc K s.size = Dk.keepN K s := by unfold kc Dk.keepN; omega

/-- The inner loop: j bytes of a write are done. -/
def InRel (w : World) (F : RFoot) (n : Nat) (st : List UInt8) (wait : List (Nat × ByteArray)) (left : Int) (broke : Bool) (b at_ : Nat) (s : ByteArray) (K L : Int) (keep lost k : Value) (wr : World) : Prop :=
  ∃ j : Nat, j ≤ s.size ∧ k = .int .i64 (j : Int) ∧ keep = .int .i64 (K - (kc K j : Int)) ∧ lost = .int .i64 (L + ((j : Int) - (kc K j : Int))) ∧
    ∃ g cap, Ref wr ⟨F.d, g, cap, F.wv⟩ n (Dk.put st at_ (s.data.toList.take (kc K j))) wait left broke ∧ Blk wr b 63 #[.int .i64 (at_ : Int), .string s] ∧
      Kept F.has w wr ∧ (g = F.g ∨ w.heap.size ≤ g) ∧ w.heap.size ≤ b

/-- The outer loop: i writes are done. -/
def OutRel (w : World) (F : RFoot) (n : Nat) (st : List UInt8) (wait : List (Nat × ByteArray)) (left : Int) (broke : Bool) (keep0 : Int) (keep lost i : Value) (wr : World) : Prop :=
  ∃ k : Nat, k ≤ wait.length ∧ i = .int .i64 (k : Int) ∧ keep = .int .i64 (Dk.rest (wait.take k) keep0) ∧ lost = .int .i64 (Dk.lost (wait.take k) keep0) ∧
    ∃ g cap, Ref wr ⟨F.d, g, cap, F.wv⟩ n (Dk.puts st (Dk.cuts (wait.take k) keep0)) wait left broke ∧ Kept F.has w wr ∧ (g = F.g ∨ w.heap.size ≤ g)

def RCrashPost (w : World) (F : RFoot) (n : Nat) (st : List UInt8) (wait : List (Nat × ByteArray)) (keep : Int) (e : Ending) (w' : World) : Prop :=
  e = .returned (.int .i64 (Dk.lost wait keep)) ∧ RNext w F n (Dk.puts st (Dk.cuts wait keep)) [] 0 false w'

set_option maxHeartbeats 4000000 in
theorem rcrash_any (h : Ref w F n st wait left broke) (keep : Int) (h1 : -9223372036854775808 ≤ keep) (h2 : keep ≤ 9223372036854775807) :
    Calls Try.prog 18 #[.pointer (some ⟨F.d, 0, none⟩), .int .i64 keep] w (RCrashPost w F n st wait keep) := by
  obtain ⟨A, cap, hwv⟩ := rwv_form h
  have HP := Lib.hid hwv
  have hfew := h.few
  have hsm := h.small
  have hpos := h.pos
  have hbd := Dk.bytes_le n wait h.within
  have hbd2 : Dk.bytes wait ≤ 1000 * 131072 := Nat.le_trans hbd (Nat.mul_le_mul hfew hsm)
  clear hwv hbd
  go_enter Try.func18, Try.ntmps18
  go_wp2_with fail
  go_loopw [1, 5, 6] (OutRel w F n st wait left broke keep) (fun _ _ i _ => wait.length - (intOf i).toNat)
  case atStart => exact ⟨0, by omega, rfl, rfl, rfl, F.g, F.cap, h, Kept.refl _ _, .inl rfl⟩
  case round =>
    obtain ⟨i, hi, rfl, rfl, rfl, g, cap', hr, hk, hg⟩ := hrel
    have c1 := hr.c1
    simp only [HP.out] at c1
    have hrb := Dk.rest_bd (wait.take i) keep
    have hlb := Dk.lost_bd (wait.take i) keep
    have hle := Dk.bytes_take_le wait i
    by_cases hlt : i < wait.length
    · obtain ⟨gw, cw, hv, q1, q2, hob⟩ := hr.pcell i hlt
      have hA : A = some ⟨gw, 0, none⟩ := by have := HP.out.symm.trans hv; injection this
      subst hA
      have hw := h.within wait[i] (List.getElem_mem hlt)
      have HT1 := Lib.hid (show Dk.puts st (Dk.cuts (wait.take (i + 1)) keep) = Dk.put (Dk.puts st (Dk.cuts (wait.take i) keep)) wait[i].1 (wait[i].2.data.toList.take (Dk.keepN (Dk.rest (wait.take i) keep) wait[i].2)) by
        rw [Dk.take_snoc' wait i hlt, Dk.cuts_snoc, Dk.puts_snoc, extract_take])
      have HT2 := Lib.hid (show Dk.rest (wait.take (i + 1)) keep = Dk.rest (wait.take i) keep - (Dk.keepN (Dk.rest (wait.take i) keep) wait[i].2 : Int) by rw [Dk.take_snoc' wait i hlt, Dk.rest_snoc])
      have HT3 := Lib.hid (show Dk.lost (wait.take (i + 1)) keep = Dk.lost (wait.take i) keep + ((wait[i].2.size : Int) - (Dk.keepN (Dk.rest (wait.take i) keep) wait[i].2 : Int)) by rw [Dk.take_snoc' wait i hlt, Dk.lost_snoc])
      have hbt : (Dk.bytes (wait.take i) : Int) + (wait[i].2.size : Int) ≤ 1000 * 131072 := by
        have e1 : Dk.bytes (wait.take (i + 1)) = Dk.bytes (wait.take i) + wait[i].2.size := by rw [Dk.take_snoc' wait i hlt, Dk.bytes_snoc]
        have e2 := Dk.bytes_take_le wait (i + 1)
        omega
      clear hv
      generalize wait[i] = p at q1 q2 HT1 HT2 HT3 hw hbt
      obtain ⟨at_, s⟩ := p
      simp only at q1 q2 HT1 HT2 HT3 hw hbt
      generalize Dk.puts st (Dk.cuts (wait.take i) keep) = ST at hr HT1
      have hK1 : -9223372036854775808 ≤ Dk.rest (wait.take i) keep := by
        rcases Int.lt_or_le keep 0 with h0 | h0
        · rw [hrb.2.1 (by omega)]; exact h1
        · have := hrb.2.2 h0; omega
      have hK2 : Dk.rest (wait.take i) keep ≤ 9223372036854775807 := by have := hrb.1; omega
      have hL1 : 0 ≤ Dk.lost (wait.take i) keep := hlb.1
      have hL2 : Dk.lost (wait.take i) keep + (s.size : Int) ≤ 1000 * 131072 := by have := hlb.2; omega
      generalize Dk.rest (wait.take i) keep = K at HT1 HT2 HT3 hK1 hK2 ⊢
      generalize Dk.lost (wait.take i) keep = L at HT3 hL1 hL2 ⊢
      clear hrb hlb
      go_wp2_with fail
      have b1 : Blk (wr.alloc (.cells #[.int .i64 (at_ : Int), .string s] 63)) wr.heap.size 63 #[.int .i64 (at_ : Int), .string s] := Blk.new wr _ _
      have r1 : Ref (wr.alloc (.cells #[.int .i64 (at_ : Int), .string s] 63)) ⟨F.d, g, cap', F.wv⟩ n ST wait left broke := hr.below ((Below.refl _ _).alloc (Nat.le_refl _) _)
      have k1 : Kept F.has w (wr.alloc (.cells #[.int .i64 (at_ : Int), .string s] 63)) := hk.alloc _
      have hb : w.heap.size ≤ wr.heap.size := hk.size
      generalize wr.alloc (.cells #[.int .i64 (at_ : Int), .string s] 63) = W1 at b1 r1 k1 ⊢
      generalize wr.heap.size = b at b1 hb ⊢
      have hST : ST.length = n := r1.bts.len
      have HST := Lib.hid hST
      clear hr hk c1 q1 q2 hST
      go_loopw [1, 5, 8] (InRel w F n ST wait left broke b at_ s K L) (fun _ _ k _ => s.size - (intOf k).toNat)
      case atStart =>
        have e0 : kc K 0 = 0 := by simp [kc]
        exact ⟨0, by omega, rfl, by rw [e0]; simp, by rw [e0]; simp, g, cap', by rw [e0, List.take_zero, Dk.put_nil]; exact r1, b1, k1, hg, hb⟩
      case round =>
        clear b1 r1 k1 hg hb
        obtain ⟨j, hj, rfl, rfl, rfl, g1, cap1, r2, b2, k2, hg2, hb2⟩ := hrel
        have a0 := b2.cell 0
        have a1 := b2.cell 1
        simp only [List.getElem?_toArray, List.getElem?_cons_zero, List.getElem?_cons_succ] at a0 a1
        by_cases hjt : j < s.size
        · by_cases hjk : j < K.toNat
          · have e1 : kc K j = j := by unfold kc; omega
            have e2 : kc K (j + 1) = j + 1 := by unfold kc; omega
            rw [e1] at r2 ⊢
            have c0 := r2.c0
            have f0 := r2.fr 0
            simp only at c0 f0
            have hs1 : (s.extract j (j + 1)).size = 1 := by simp; omega
            have HC := Lib.hid (fun (W : World) (hW : Bts W g1 n cap1 (Dk.put ST at_ (s.data.toList.take j))) => put_any W g1 n cap1 (at_ + j) _ (s.extract j (j + 1)) hW (by omega) hsm hpos)
            rw [put_next ST at_ j s (by rw [HST.out]; omega) hjt, Int.natCast_add] at HC
            have E2 := Lib.hid e2
            have hKj : 0 < K - (j : Int) := by omega
            have RW := Lib.hid r2.bts
            clear e1 e2 hs1
            go_wp2_with fail
            have hw1 := IntWalk.i64_in ((at_ : Int) + (j : Int)) (by omega)
            have hw2 := IntWalk.i64_in ((j : Int) + 1) (by omega)
            have hw3 := run_one_byte s j hjt
            have RB := Lib.hid r2.blk.lt
            simp only at RB
            go_region_law (go_simp
                           go_at_call 35
                           refine (HC.out wr.drew (RW.out.of rfl)).mono ?_
                           rintro e w3 ⟨g3, cap3, rfl, t3, hg3, bel3⟩
                           have hb3 : Below wr.heap.size wr w3 := ⟨bel3.os, bel3.tape, bel3.output, bel3.size, bel3.block⟩
                           have d0 := (hb3.cell (p := ⟨F.d, 0, none⟩) RB.out).trans c0
                           have d1 := (hb3.frozen (p := ⟨F.d, 0, none⟩) RB.out).trans f0)
            all_goals
              have hg3' : wr.heap.size ≤ g3 := hg3
              have r3 := r2.restay hb3 t3 hg3'
              have b3 := (b2.of (hb3.block b b2.lt)).far (p := ⟨F.d, 0, none⟩) (b2.ne_ r2.blk (by decide)) (.slice (some ⟨g3, 0, none⟩) n cap3)
              have k3 : Kept F.has w (w3.setCell ⟨F.d, 0, none⟩ (.slice (some ⟨g3, 0, none⟩) n cap3)) := (k2.trans (Kept.of_below (S := fun _ => False) hb3) (fun x hx => hx.elim)).setCell (p := ⟨F.d, 0, none⟩) (.inl (.inl rfl)) _
              have hg4 : w.heap.size ≤ g3 := Nat.le_trans k2.size hg3'
              clear hw1 hw2 hw3 c0 f0 a0 a1 d0 d1 HC RW
              go_wp2_with fail
              go_roundw
              case rel => exact ⟨j + 1, by omega, by go_num, by rw [E2.out]; go_num, by rw [E2.out, Int.sub_self, Int.add_zero], g3, cap3, by rw [E2.out]; exact r3, b3, k3, .inr hg4, hb2⟩
              case measure => simp [intOf]; omega
          · have e1 : kc K j = K.toNat := by unfold kc; omega
            have e2 : kc K (j + 1) = K.toNat := by unfold kc; omega
            rw [e1] at r2 ⊢
            have E2 := Lib.hid e2
            have hKj : ¬ 0 < K - (K.toNat : Int) := by omega
            have hKb : (K.toNat : Int) ≤ (j : Int) := by omega
            clear e1 e2
            go_wp2_with fail
            go_roundw
            case rel => exact ⟨j + 1, by omega, by go_num, by rw [E2.out], by rw [E2.out]; go_num, g1, cap1, by rw [E2.out]; exact r2, b2, k2, hg2, hb2⟩
            case measure => simp [intOf]; omega
        · obtain rfl : j = s.size := by omega
          rw [kc_all] at r2 ⊢
          rw [← HT1.out] at r2
          have hx1 := HT2.out
          have hx2 := HT3.out
          rw [← hx1, ← hx2]
          clear hx1 hx2
          go_wp2_with fail
          go_roundw
          case rel => exact ⟨i + 1, by omega, by go_num, rfl, rfl, g1, cap1, r2, k2, hg2⟩
          case measure => simp [intOf]; omega
    · obtain rfl : i = wait.length := by omega
      rw [List.take_length] at hr ⊢
      have c1' := hr.c1
      have c2 := hr.c2
      have c3 := hr.c3
      have f1 := hr.fr 1
      have f2 := hr.fr 2
      have f3 := hr.fr 3
      simp only at c1' c2 c3 f1 f2 f3
      have k3 : Kept (· = F.d) wr (((wr.setCell ⟨F.d, 1, none⟩ (.slice none 0 0)).setCell ⟨F.d, 2, none⟩ (.int .i64 0)).setCell ⟨F.d, 3, none⟩ (.bool false)) := (((Kept.refl _ wr).here 1 _).here 2 _).here 3 _
      have hN := Lib.hid (hr.fresh (Below.refl _ _) hr.bts (.inl rfl) 0 false (by omega) (by omega) k3 (((hr.blk.set_ 1 _).set_ 2 _).set_ 3 _))
      clear k3 hrb hlb
      go_wp2_with fail
      go_ret
      obtain ⟨F', e1, e2, e3, e4⟩ := hN.out
      refine ⟨rfl, F', e1, e2, hk.trans e3 ?_, fun x hx => ?_⟩
      · rintro x (rfl | rfl | hx)
        · exact .inl (.inl rfl)
        · rcases hg with e | e
          · exact .inl (.inr (.inl e))
          · exact .inr e
        · exact .inl (.inr (.inr hx))
      · rcases e4 x hx with (rfl | rfl | hx) | h1
        · exact .inl (.inl rfl)
        · rcases hg with e | e
          · exact .inl (.inr (.inl e))
          · exact .inr e
        · exact .inl (.inr (.inr hx))
        · exact .inr (Nat.le_trans hk.size h1)
end
end Go.Proofs.Ytlifaegmidgcnaa
