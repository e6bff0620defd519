/-
  Contracts of the document's own records (homecomingref04): All, Empty, Scan. Condition: the texts have at most 1000 bytes.
-/
import Derived.Test.YtgbopohbhnpceaaDoorFrameR
namespace Go.Proofs.YtgbopohbhnpceaaDoor
open Go.RowKit

def RAllRel (w : World) (l : List ByteArray) (x y : Value) (wr : World) : Prop :=
  ∃ j : Nat, j ≤ l.length ∧ y = .int .i64 (j : Int) ∧ x = .string (ba (Fr.all (tx (l.take j)))) ∧ Below w.heap.size w wr
theorem refAll_any (w : World) (A : Option Addr) (c : Nat) (l : List ByteArray) (hl : l.length ≤ 1000) (hs : ∀ s ∈ l, s.size ≤ 1000) (hA : Lies (fun _ => False) w A (cs l)) :
    Calls Tryd.prog 11 #[.slice A l.length c] w fun e w' => e = .returned (.string (ba (Fr.all (tx l)))) ∧ Below w.heap.size w w' := by
  have HA := Lib.hid hA
  have HS := Lib.hid hs
  clear hA hs
  go_enter Tryd.func11, Tryd.ntmps11
  go_wp2_with fail
  go_loopw [3, 4] (RAllRel w l) (fun _ i _ => l.length - (intOf i).toNat)
  case atStart => exact ⟨0, by omega, rfl, rfl, Below.refl _ _⟩
  case round =>
    obtain ⟨j, hj, rfl, rfl, hb⟩ := hrel
    by_cases hlt : j < l.length
    · obtain ⟨a, rfl, _, _, hc⟩ := HA.out.below hb j _ (cs_get l j hlt)
      have HC := Lib.hid (refWrap_any l[j] wr (HS.out _ (List.getElem_mem hlt)))
      have hln : (ba (Fr.all (tx (l.take j)))).size + (ba (Fr.wrap (l[j]).data.toList)).size ≤ 1000000000 := by
        have h1 := allT_length (l.take (j + 1)) (fun s hs => by have := HS.out s (List.mem_of_mem_take hs); omega)
        rw [take_more l j hlt, tx_snoc, Fr.all_snoc, List.length_append, List.length_append, List.length_take, List.length_singleton] at h1
        rw [ba_size, ba_size]
        omega
      have HSN : Hid (ba (Fr.all (tx (l.take (j + 1)))) = ba (Fr.all (tx (l.take j))) ++ ba (Fr.wrap (l[j]).data.toList)) := by
        show ba (Fr.all (tx (l.take (j + 1)))) = ba (Fr.all (tx (l.take j))) ++ ba (Fr.wrap (l[j]).data.toList)
        rw [take_more l j hlt, tx_snoc, Fr.all_snoc, ba_append]
      generalize ba (Fr.wrap (l[j]).data.toList) = q at HC hln HSN
      generalize ba (Fr.all (tx (l.take j))) = p at hln HSN ⊢
      go_wp2_with fail
      refine HC.out.mono ?_
      rintro e w1 ⟨rfl, hb1⟩
      have HB1 := Lib.hid (hb.trans (hb1.mono hb.size))
      clear hb1
      go_wp2_with fail
      go_roundw
      case rel => exact ⟨j + 1, by omega, by go_num, by rw [HSN.out], HB1.out⟩
      case measure => simp [intOf]; omega
    · obtain rfl : j = l.length := by omega
      rw [List.take_length]
      go_wp2_with fail
      go_ret
      exact ⟨rfl, hb⟩

def REmptyRel (w : World) (s : ByteArray) (z : Int) (r : Bool) (y : Value) (wr : World) : Prop := ∃ j : Nat, j ≤ s.size ∧ y = .int .i64 (j : Int) ∧ (s.data.toList.drop (max j z.toNat)).all (· == 0) = r ∧ w = wr
theorem refEmpty_any (s : ByteArray) (z : Int) (_h1 : -9223372036854775808 ≤ z) (_h2 : z ≤ 9223372036854775807) (_hs : s.size ≤ maxLen) (w : World) :
    Calls Tryd.prog 25 #[.string s, .int .i64 z] w fun e w' => e = .returned (.bool (Fr.empty s.data.toList z)) ∧ w = w' := by
  obtain ⟨r, hr⟩ : ∃ r, Fr.empty s.data.toList z = r := ⟨_, rfl⟩
  rw [hr]
  unfold Fr.empty at hr
  have HR := Lib.hid hr
  unfold maxLen at _hs
  clear hr
  go_enter Tryd.func25, Tryd.ntmps25
  go_wp2_with fail
  go_loopw [5] (REmptyRel w s z r) (fun i _ => s.size - (intOf i).toNat)
  case atStart => exact ⟨0, by omega, rfl, by rw [Nat.zero_max]; exact HR.out, rfl⟩
  case round =>
    obtain ⟨j, hj, rfl, hr, rfl⟩ := hrel
    by_cases hlt : j < s.size
    · have hlt' : (j : Int) < (s.size : Int) := by omega
      by_cases hz : (j : Int) < z
      · have hz' : ¬ z ≤ (j : Int) := by omega
        have HE : Hid ((s.data.toList.drop (max (j + 1) z.toNat)).all (· == 0) = r) := by
          show (s.data.toList.drop (max (j + 1) z.toNat)).all (· == 0) = r
          rw [← hr]
          congr 2
          omega
        clear hr
        go_wp2_with fail
        go_roundw
        case rel => exact ⟨j + 1, by omega, by go_num, HE.out, rfl⟩
        case measure => simp [intOf]; omega
      · have hz' : z ≤ (j : Int) := by omega
        have hL : j < s.data.toList.length := by rw [size_list]; exact hlt
        rw [show max j z.toNat = j by omega, empty_step hL] at hr
        have e : s.data.toList[j] = s[j] := rfl
        rw [e] at hr
        have HE := Lib.hid hr
        clear hr e
        by_cases h0 : s[j] = 0
        · have h0' : s[j].toNat = 0 := by rw [h0]; rfl
          go_wp2_with fail
          go_roundw
          case rel => exact ⟨j + 1, by omega, by go_num, by have := HE.out; rw [h0] at this; rw [show max (j + 1) z.toNat = j + 1 by omega]; simpa using this, rfl⟩
          case measure => simp [intOf]; omega
        · have h0' : ¬ s[j].toNat = 0 := by
            intro h
            apply h0
            apply UInt8.toNat_inj.1
            rw [h]; rfl
          go_wp2_with fail
          go_ret
          refine ⟨?_, rfl⟩
          have := HE.out
          rw [beq_false_of_ne h0] at this
          rw [← this]
          rfl
    · have hlt' : ¬ (j : Int) < (s.size : Int) := by omega
      rw [empty_end (by rw [size_list]; omega)] at hr
      subst hr
      go_wp2_with fail
      go_ret
      exact ⟨rfl, rfl⟩

def RScanRel (w : World) (L : List UInt8) (x y _z : Value) (wr : World) : Prop :=
  ∃ (q : List (List UInt8)) (k : Nat) (A : Option Addr) (c : Nat), k ≤ L.length ∧ q.length ≤ k ∧ y = .int .i64 (k : Int) ∧ x = .slice A q.length c ∧ wr.ownsRow w.heap.size 9 1 (.slice A q.length c) q.length (cs (q.map ba)) ∧ Below w.heap.size w wr ∧ Fr.scan L = (q ++ (Fr.scan (L.drop k)).1, k + (Fr.scan (L.drop k)).2)
set_option maxHeartbeats 2000000 in
theorem refScan_any (s : ByteArray) (hs : s.size ≤ 1000) (w : World) :
    Calls Tryd.prog 24 #[.string s] w fun e w' => ∃ A c, e = .returned (.tuple #[.slice A (Fr.scan s.data.toList).1.length c, .int .i64 ((Fr.scan s.data.toList).2 : Int)]) ∧ Lies (fun _ => False) w' A (cs ((Fr.scan s.data.toList).1.map ba)) ∧ Below w.heap.size w w' := by
  obtain ⟨i0, hi0, hz0, hz1, hz2⟩ := info_str
  have HI := Lib.hid hi0
  have HZ := Lib.hid hz0
  have HZ1 := Lib.hid hz1
  have HZ2 := Lib.hid hz2
  clear hi0 hz0 hz1 hz2
  go_enter Tryd.func24, Tryd.ntmps24
  go_wp2_with fail
  go_loopw [4, 5, 6] (RScanRel w s.data.toList) (fun _ i _ _ => s.size - (intOf i).toNat)
  case atStart => exact ⟨[], 0, none, 0, by omega, Nat.le_refl _, rfl, rfl, World.ownsRow_nil _ _ _ _, Below.refl _ _, by simp⟩
  case round =>
    obtain ⟨q, k, A1, c1, hk, hqk, rfl, rfl, hown, hb, hsc⟩ := hrel
    rw [size_list] at hk
    have hfr := run_from s (k : Int) k rfl hk
    have HC := Lib.hid (refNext_any (ba (s.data.toList.drop k)) wr (by rw [ba_size, List.length_drop, size_list]; omega))
    rw [ba_list] at HC
    cases hn : Fr.next (s.data.toList.drop k) with
    | none =>
      rw [gotV_none hn] at HC
      rw [Fr.scan_none hn, List.append_nil, Nat.add_zero] at hsc
      go_wp2_with fail
      refine HC.out.mono ?_
      rintro e w1 ⟨rfl, hb1⟩
      have HB1 := Lib.hid (hb.trans (hb1.mono hb.size))
      have HO := Lib.hid (own_of hown (fun b e => hb1.block b (own_lt hown e)))
      have HSc := Lib.hid hsc
      clear hb1 hsc hown hfr
      go_wp2_with fail
      go_ret2
      refine ⟨A1, c1, by rw [HSc.out]; rfl, ?_, HB1.out.alloc HB1.out.size _⟩
      rw [HSc.out]
      exact (Lies.own (S := fun _ => False) HO.out (fun _ _ _ h => h)).below ((Below.refl _ w1).alloc (Nat.le_refl _) _)
    | some t =>
      rw [gotV_some hn] at HC
      rw [Fr.scan_some hn] at hsc
      have hle := next_le hn
      rw [List.length_drop, size_list] at hle
      rw [List.drop_drop] at hsc
      have hne : ((t.length : Int) + 8 == 0) = false := by rw [beq_eq_false_iff_ne]; omega
      have hne' : ¬ ((t.length : Int) + 8 = 0) := by omega
      clear hn
      go_wp2_with fail
      refine HC.out.mono ?_
      rintro e w1 ⟨rfl, hb1⟩
      have hB1 := hb.trans (hb1.mono hb.size)
      have hz := hB1.size
      have hown1 := own_of hown (fun b e => hb1.block b (own_lt hown e))
      have hown2 := own_of hown1 (fun b e => Below.heap_alloc w1 (.cells #[.string (ba t), .int .i64 ((t.length : Int) + 8)] 43) b (own_lt hown1 e))
      have hown0 := own_of hown2 (fun b e => Below.heap_alloc (w1.alloc (.cells #[.string (ba t), .int .i64 ((t.length : Int) + 8)] 43)) (.cells #[.string (ba t)] 9) b (own_lt hown2 e))
      have hblk0 := Blk.new (w1.alloc (.cells #[.string (ba t), .int .i64 ((t.length : Int) + 8)] 43)) 9 #[.string (ba t)]
      rw [World.size_alloc] at hblk0
      have hgot := (Blk.new w1 43 #[.string (ba t), .int .i64 ((t.length : Int) + 8)]).alloc (.cells #[.string (ba t)] 9)
      have hbb := (hB1.alloc hz (.cells #[.string (ba t), .int .i64 ((t.length : Int) + 8)] 43)).alloc (by simp; omega) (.cells #[.string (ba t)] 9)
      have HSc := Lib.hid hsc
      clear hb1 hsc hfr HC
      go_wp2_with
        (at_builtin
         refine wpList_append_lies _ rfl (.tmp 16) (.tmp 19) 22 rfl w.heap.size 9 i0 _ 1 16 Tryd.underlying22 HI.out HZ.out HZ1.out HZ2.out rfl (by decide) (.slice A1 q.length c1) q.length _ rfl hown0 ⟨w1.heap.size + 1, 0, none⟩ 1 1 [.string (ba t)] rfl rfl (World.news_of_block hblk0) (by intro u hu; simp at hu; subst hu; rfl) (by omega) (by unfold maxLen; omega) (by omega) (by simp; omega) (w1.heap.size + 1 + 1) (by simp) ?_
         intro g cap w2 hown3 hgrow hat hlt1
         have HB := Lib.hid (Kept.below (B := w.heap.size) hbb ((Kept.refl (fun k => (Value.slice A1 q.length c1).ownBlock = some k) _).grown hgrow (fun x hx => .inl hx)) (fun k hk => own_base hown hk) (by simp; omega))
         have HO := Lib.hid hown3
         have hg2 := hgot.of (hgrow.block w1.heap.size (by simp; omega) (fun e => own_blk_ne hown0 hgot (by decide) e.symm))
         have hc2 := hg2.cell 1
         simp only [List.getElem?_toArray, List.getElem?_cons_zero, List.getElem?_cons_succ] at hc2
         clear hown3 hgrow hat hown0 hown1 hown2 hblk0 hbb hgot hg2 hB1)
      go_roundw
      case rel =>
        refine ⟨q ++ [t], k + (t.length + 8), _, _, by rw [size_list]; omega, by rw [List.length_append, List.length_singleton]; omega, by go_num, by rw [List.length_append, List.length_singleton], ?_, HB.out, ?_⟩
        · rw [List.length_append, List.length_singleton, List.map_append, cs_append]
          exact HO.out
        · rw [HSc.out, List.append_assoc]
          show (_, _) = (_, _)
          rw [Nat.add_assoc k]
          rfl
      case measure => simp [intOf]; omega
end Go.Proofs.YtgbopohbhnpceaaDoor
