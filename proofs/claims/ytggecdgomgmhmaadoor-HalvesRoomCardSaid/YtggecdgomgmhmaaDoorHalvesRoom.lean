/-
  Proves the statement of HalvesRoom: for every row of texts the law returns true (a log takes just what has room, and loses nothing), and its argument reads as it did. Condition: the package-level table halfBytes holds what its text lays.
-/
import Derived.Test.YtggecdgomgmhmaaDoorHalQ
import Derived.Test.YtggecdgomgmhmaaDoorApp
import Derived.Test.YtggecdgomgmhmaaDoorCrcTable
import Derived.Test.YtggecdgomgmhmaaDoorCards
import Derived.Test.YtggecdgomgmhmaaDoorTie
namespace Go.Proofs.YtggecdgomgmhmaaDoor.halvesRoom
open Go.ChangeShapes Go.WideShapes Go.ChangeAt Go.RowKit
open Go.ChangeMaps (open_string shut_string)

def RoomRel (B : Nat) (W : World) (F2 : Foot) (g nl : Nat) (l : List ByteArray) (x7 x8 : Value) (wr : World) : Prop :=
  ∃ (j : Nat) (F : Foot) (D : Dsk) (had : List ByteArray) (u : Nat), j ≤ nl ∧ j ≤ 20 ∧ l.length = nl ∧ x8 = .int .i64 (j : Int) ∧ had.length ≤ j ∧ wr.ownsRow B 9 1 x7 had.length (cs had) ∧ Base B W wr F g ∧ F.d = F2.d ∧ D.left = 0 ∧ Run wr F g D 200 100 0 100 1 tS.data.toList (tx had) u

theorem fits_no {t r : Int} (h : ¬ (1 ≤ t ∧ t ≤ 32768) ∨ r < t + 8) : fitsB t r = false := by
  unfold fitsB
  by_cases hk : 1 ≤ t ∧ t ≤ 32768
  · rw [sz_ok hk.1 hk.2]
    have : ¬ (t + 8 ≤ r) := by omega
    simp [this]
  · rw [sz_no hk]
    rfl
set_option maxRecDepth 100000 in
set_option maxHeartbeats 8000000 in
theorem walk (A0 : Option Addr) (c0 : Nat) (l : List ByteArray) (hl : l.length ≤ maxLen) (hs : ∀ s ∈ l, s.size ≤ maxLen) (w : World) (hA : Lies (fun _ => False) w A0 (cs l)) (hT : Tab w) :
    Calls Tryd.prog 4 #[.slice A0 l.length c0] w fun e w' => e = .returned (.bool true) ∧ Below w.heap.size w w' := by
  have HT := Lib.hid hT
  have HS := Lib.hid hs
  have HA := Lib.hid hA
  obtain ⟨nl, hnl⟩ : ∃ nl, l.length = nl := ⟨_, rfl⟩
  rw [hnl] at hl ⊢
  unfold maxLen at hl
  clear hT hs hA
  go_enter Tryd.func4, Tryd.ntmps4
  go_wp2_with fail
  refine (awake_any _ HT.out).mono ?_
  rintro x w0 ⟨rfl, hb0⟩
  have hT0 := HT.out.below hb0 HT.out.lt
  have HB0 := Lib.hid hb0
  clear hb0
  go_wp2_with fail
  refine (new_any 200 w0 (by omega) (by omega)).mono ?_
  rintro x w1 ⟨F, rfl, hD, hb1, hF⟩
  have HFm := Lib.hid (fmt0 (hT0.below hb1 hT0.lt) (fresh_cr hD (hf := 100) rfl (by omega)) (by rw [zb_len]) (eOf_fresh 200 100) (by omega) tS (by decide) (by decide))
  have HB1 := Lib.hid hb1
  have HFo := Lib.hid hF
  have HT0 := Lib.hid hT0
  clear hD hb1 hF hT0
  go_wp2_with fail
  refine HFm.out.mono ?_
  rintro x w2 ⟨g, F2, D2, rfl, q1, q2, q3, q4, l2, r2⟩
  rw [head_small 1 _ (by omega) (by decide)] at r2
  have b2 := base_fmt (g' := g) HB1.out HB1.out.size HFo.out HT0.out HT0.out.lt q3 q4 q1
  obtain ⟨i0, hi0, hz0, hz1, hz2⟩ := info_str
  have HI0 := Lib.hid hi0
  have HZ0 := Lib.hid hz0
  have HZ1 := Lib.hid hz1
  have HZ2 := Lib.hid hz2
  clear hi0 hz0 hz1 hz2
  have HI := Lib.hid (show RoomRel w0.heap.size w0 F2 g nl l (.slice none 0 0) (.int .i64 0) w2 from ⟨0, F2, D2, [], _, by omega, by omega, hnl, rfl, Nat.le_refl _, World.ownsRow_nil _ _ _ _, b2, rfl, l2, r2⟩)
  have HQ2 := Lib.hid q2
  clear q1 q2 q3 q4 HFm r2 l2 HFo b2 HB1
  go_wp2_with fail
  go_loopw [7, 8] (RoomRel w0.heap.size w0 F2 g nl l) (fun _ i _ => 20 - (intOf i).toNat)
  case atStart => exact HI.out
  case round =>
    clear HI
    obtain ⟨j, F3, D3, had, u, hj, hj2, hll, rfl, hhad, hown, hb, hm, hl0, hr⟩ := hrel
    have hfit := hr.ld.fit
    obtain ⟨r, hur⟩ : ∃ r : Nat, u + r = 100 := ⟨100 - u, by omega⟩
    have hroom : ∀ (W' : World) (F' : Foot) (D' : Dsk) (u' r' : Nat) (ts' : List (List UInt8)), u' + r' = 100 → Run W' F' g D' 200 100 0 100 1 tS.data.toList ts' u' → Calls Tryd.prog 18 #[.pointer (some ⟨g, 0, none⟩)] W' fun x w' => x = .returned (.int .i64 (r' : Int)) ∧ Below W'.heap.size W' w' := by
      intro W' F' D' u' r' ts' h1 h2
      have := room_any h2.disk (hf := 100) (by rw [h2.n_]) h2.log (by omega)
      rw [show roomN 100 u' false = (r' : Int) from (by show (100 : Int) - (u' : Int) = (r' : Int); omega)] at this
      exact this
    have HRm := Lib.hid hroom
    clear hroom
    by_cases hlt : j < nl ∧ j < 20
    · obtain ⟨hlt1, hlt2⟩ := hlt
      have hjl : j < l.length := by omega
      obtain ⟨a, rfl, hab, _, hc⟩ := HA.out j _ (cs_get l j hjl)
      have hc' : wr.cell? (a.add j) = some (.string l[j]) := by
        rw [← hc]
        have h1 : a.block < w0.heap.size := Nat.lt_of_lt_of_le hab HB0.out.size
        exact ((hb.bel.cell (p := a.add j) (by rw [add_block]; exact h1))).trans (HB0.out.cell (p := a.add j) (by rw [add_block]; exact hab))
      have HSh := Lib.hid (short_any l[j] 30 (HS.out _ (List.getElem_mem hjl)) wr)
      have htz := cut_size l[j] 30
      generalize cut l[j] 30 = t at HSh htz
      have HR1 := Lib.hid (HRm.out wr F3 D3 u r _ hur hr)
      have HRun := Lib.hid hr
      have HBs := Lib.hid hb
      have HMv := Lib.hid hm
      have HOw := Lib.hid hown
      clear hr hb hm hown
      go_wp2_with fail
      refine HSh.out.mono ?_
      rintro x w' ⟨rfl, rfl⟩
      go_wp2_with fail
      refine HR1.out.mono ?_
      rintro x w3 ⟨rfl, hb3⟩
      have hm3 := Mv.below hb3 F3 g
      have b3 := HBs.out.mv hm3
      have HM3 : Hid (F3.d = F2.d) := HMv
      have HOw3 := Lib.hid (own_mv HRun.out HOw.out hm3)
      have HA3 := Lib.hid (app0 b3 (HRun.out.mv_below hb3) hl0 t (by omega))
      have HRun3 := Lib.hid (HRun.out.mv_below hb3)
      have HB3 := Lib.hid b3
      clear hb3 hm3 b3
      go_wp2_with fail
      refine HA3.out.mono ?_
      rintro x w4 ⟨F4, D4, m4, l4, h4⟩
      have HB4 := Lib.hid (HB3.out.mv m4)
      have HM4 : Hid (F4.d = F2.d) := m4.1.trans HM3.out
      have HOw4 := Lib.hid (own_mv HRun3.out HOw3.out m4)
      rcases h4 with ⟨rfl, hz, hr4, r4⟩ | ⟨⟨E, rfl, hE⟩, hno, r4⟩
      · obtain ⟨r', hur'⟩ : ∃ r' : Nat, (u + (t.size + 8)) + r' = 100 := ⟨100 - (u + (t.size + 8)), by omega⟩
        have HR4 := Lib.hid (HRm.out w4 F4 D4 _ r' _ hur' r4)
        have HSz := Lib.hid (sz_ok (n := (t.size : Int)) (by omega) (by omega))
        have hsub : (r : Int) - ((t.size : Int) + 8) = (r' : Int) := by omega
        have hnle : ¬ ((r : Int) < (t.size : Int) + 8) := by omega
        have hpos : (0 : Int) < (t.size : Int) + 8 := by omega
        have hfi := fits_any r4.disk (hf := 100) (by rw [r4.n_]) r4.log (by omega) (t.size : Int)
        rw [show roomN 100 (u + (t.size + 8)) false = (r' : Int) from (by show (100 : Int) - ((u + (t.size + 8) : Nat) : Int) = (r' : Int); omega)] at hfi
        have hfb : fitsB (t.size : Int) (r' : Int) = true → ¬ ((r' : Int) < (t.size : Int) + 8) := fun hc => by
          unfold fitsB at hc
          rw [HSz.out] at hc
          simp at hc
          omega
        go_wp2_with fail
        refine (refSize_any _ _).mono ?_
        rintro x w' ⟨rfl, rfl⟩
        rw [HSz.out]
        have HFi := Lib.hid hfi
        have HFb := Lib.hid hfb
        clear hfi hfb
        generalize fitsB (t.size : Int) (r' : Int) = bb at HFi HFb
        cases bb with
        | false =>
          go_wp2_with fail
          refine HFi.out.mono ?_
          rintro x w5 ⟨rfl, hb5⟩
          have HB5 := Lib.hid hb5
          have HR5 := Lib.hid (HRm.out w5 F4 D4 _ r' _ hur' (r4.mv_below hb5))
          clear hb5
          go_wp2_with fail
          refine HR5.out.mono ?_
          rintro x w6 ⟨rfl, hb6⟩
          have HBl := Lib.hid (HB5.out.trans (hb6.mono HB5.out.size))
          clear hb6
          have hb47 : Below w4.heap.size w4 w6 := HBl.out
          have HR7 := Lib.hid (r4.mv_below hb47)
          have HB7 := Lib.hid (HB4.out.mv (Mv.below hb47 F4 g))
          have HO7 := Lib.hid (own_mv r4 HOw4.out (Mv.below hb47 F4 g))
          have hlo7 := HB7.out.lo
          obtain ⟨Ah, ch, rfl⟩ := own_form HO7.out
          have hnews := Blk.new w6 9 #[.string t]
          have hal : Below w6.heap.size w6 (w6.alloc (.cells #[.string t] 9)) := (Below.refl _ w6).alloc (Nat.le_refl _) _
          have HOw8 := Lib.hid (own_mv HR7.out HO7.out (Mv.below hal F4 g))
          have HNews := Lib.hid hnews
          clear hnews hb47 hal
          go_wp2_with
            (at_builtin
             refine wpList_append_lies _ rfl (.tmp 100) (.tmp 102) 30 rfl w0.heap.size 9 i0 _ 1 16 Tryd.underlying30 HI0.out HZ0.out HZ1.out HZ2.out rfl (by decide) (.slice Ah had.length ch) had.length (cs had) rfl HOw8.out ⟨w6.heap.size, 0, none⟩ 1 1 [.string t] rfl rfl (World.news_of_block HNews.out) (by intro v hv; simp at hv; subst hv; rfl) (by omega) (by unfold maxLen; omega) (by omega) (by simp; omega) (w6.heap.size + 1) (by simp) ?_
             intro g8 cap8 w8 hown8 hgrow hat hlt8
             have HOwn9 := Lib.hid hown8
             have HG9 := Lib.hid hgrow
             clear hown8 hgrow hat)
          go_roundw
          case rel =>
            have hk8 : Kept (fun x => (Value.slice Ah had.length ch).ownBlock = some x) w6 w8 := ((Kept.refl _ w6).alloc _).grown HG9.out (fun k hk => .inl hk)
            have r8 := HR7.out.kept hk8 (fun x hx he => own_off HR7.out HO7.out he hx)
            have b8 := HB7.out.kept hk8 (fun k hk => own_base HO7.out hk)
            have hcs : (had ++ [t]).length = had.length + 1 := by simp
            have htx : tx (had ++ [t]) = tx had ++ [t.data.toList] := by simp [tx]
            refine ⟨j + 1, F4, D4, had ++ [t], u + (t.size + 8), by omega, by omega, hll, by go_num, by omega, ?_, b8, HM4.out, l4, by rw [htx]; exact r8⟩
            rw [hcs, cs_append]
            exact HOwn9.out
          case measure => simp [intOf]; omega
        | true =>
          have hnl := HFb.out rfl
          go_wp2_with fail
          refine HFi.out.mono ?_
          rintro x w5 ⟨rfl, hb5⟩
          have HB5 := Lib.hid hb5
          have HR5 := Lib.hid (HRm.out w5 F4 D4 _ r' _ hur' (r4.mv_below hb5))
          clear hb5
          go_wp2_with fail
          refine HR5.out.mono ?_
          rintro x w6 ⟨rfl, hb6⟩
          have HB6 := Lib.hid (HB5.out.trans (hb6.mono HB5.out.size))
          have HR6 := Lib.hid (HRm.out w6 F4 D4 _ r' _ hur' (r4.mv_below HB6.out))
          clear hb6
          go_wp2_with fail
          refine HR6.out.mono ?_
          rintro x w7 ⟨rfl, hb7⟩
          have HBl := Lib.hid (HB6.out.trans (hb7.mono HB6.out.size))
          clear hb7
          have hb47 : Below w4.heap.size w4 w7 := HBl.out
          have HR7 := Lib.hid (r4.mv_below hb47)
          have HB7 := Lib.hid (HB4.out.mv (Mv.below hb47 F4 g))
          have HO7 := Lib.hid (own_mv r4 HOw4.out (Mv.below hb47 F4 g))
          have hlo7 := HB7.out.lo
          obtain ⟨Ah, ch, rfl⟩ := own_form HO7.out
          have hnews := Blk.new w7 9 #[.string t]
          have hal : Below w7.heap.size w7 (w7.alloc (.cells #[.string t] 9)) := (Below.refl _ w7).alloc (Nat.le_refl _) _
          have HOw8 := Lib.hid (own_mv HR7.out HO7.out (Mv.below hal F4 g))
          have HNews := Lib.hid hnews
          clear hnews hb47 hal
          go_wp2_with
            (at_builtin
             refine wpList_append_lies _ rfl (.tmp 100) (.tmp 102) 30 rfl w0.heap.size 9 i0 _ 1 16 Tryd.underlying30 HI0.out HZ0.out HZ1.out HZ2.out rfl (by decide) (.slice Ah had.length ch) had.length (cs had) rfl HOw8.out ⟨w7.heap.size, 0, none⟩ 1 1 [.string t] rfl rfl (World.news_of_block HNews.out) (by intro v hv; simp at hv; subst hv; rfl) (by omega) (by unfold maxLen; omega) (by omega) (by simp; omega) (w7.heap.size + 1) (by simp) ?_
             intro g8 cap8 w8 hown8 hgrow hat hlt8
             have HOwn9 := Lib.hid hown8
             have HG9 := Lib.hid hgrow
             clear hown8 hgrow hat)
          go_roundw
          case rel =>
            have hk8 : Kept (fun x => (Value.slice Ah had.length ch).ownBlock = some x) w7 w8 := ((Kept.refl _ w7).alloc _).grown HG9.out (fun k hk => .inl hk)
            have r8 := HR7.out.kept hk8 (fun x hx he => own_off HR7.out HO7.out he hx)
            have b8 := HB7.out.kept hk8 (fun k hk => own_base HO7.out hk)
            have hcs : (had ++ [t]).length = had.length + 1 := by simp
            have htx : tx (had ++ [t]) = tx had ++ [t.data.toList] := by simp [tx]
            refine ⟨j + 1, F4, D4, had ++ [t], u + (t.size + 8), by omega, by omega, hll, by go_num, by omega, ?_, b8, HM4.out, l4, by rw [htx]; exact r8⟩
            rw [hcs, cs_append]
            exact HOwn9.out
          case measure => simp [intOf]; omega
      · have hsz : ∃ z : Int, sz (t.size : Int) = z ∧ ((0 < z ∧ ¬ (z ≤ (r : Int))) ∨ ¬ (0 < z)) := by
          by_cases hk : 1 ≤ t.size
          · exact ⟨_, sz_ok (by omega) (by omega), .inl ⟨by omega, fun hc => hno ⟨⟨hk, by omega⟩, by omega⟩⟩⟩
          · exact ⟨_, sz_no (by omega), .inr (by omega)⟩
        obtain ⟨z, hz, hzc⟩ := hsz
        have HSz := Lib.hid hz
        have hfi := fits_any r4.disk (hf := 100) (by rw [r4.n_]) r4.log (by omega) (t.size : Int)
        rw [show roomN 100 u false = (r : Int) from (by show (100 : Int) - (u : Int) = (r : Int); omega), fits_no (by omega)] at hfi
        have HFi := Lib.hid hfi
        have hdz : (decide (0 < z) && decide (z ≤ (r : Int))) = false := by rcases hzc with ⟨_, h⟩ | h <;> simp [h]
        clear hfi hz
        rcases hE with rfl | rfl
        all_goals
          rcases hzc with ⟨hz1, hz2⟩ | hz1
          all_goals
            go_wp2_with fail
            refine (refSize_any _ _).mono ?_
            rintro x w' ⟨rfl, rfl⟩
            rw [HSz.out]
            go_wp2_with fail
            refine HFi.out.mono ?_
            rintro x w5 ⟨rfl, hb5⟩
            have HB5 := Lib.hid hb5
            have HR5 := Lib.hid (HRm.out w5 F4 D4 _ r _ hur (r4.mv_below hb5))
            clear hb5
            go_wp2_with fail
            refine HR5.out.mono ?_
            rintro x w6 ⟨rfl, hb6⟩
            have HBl := Lib.hid (HB5.out.trans (hb6.mono HB5.out.size))
            clear hb6
            go_wp2_with fail
            go_roundw
            case rel => exact ⟨j + 1, F4, D4, had, u, by omega, by omega, hll, by go_num, by omega, own_mv r4 HOw4.out (Mv.below HBl.out F4 g), HB4.out.mv (Mv.below HBl.out F4 g), HM4.out, l4, r4.mv_below HBl.out⟩
            case measure => simp [intOf]; omega
    · have htl : (tx had).length = had.length := by simp [tx]
      have HO := Lib.hid (run_open hb (hr.cr hl0) hr.ld.open_)
      unfold OpP at HO
      rw [hm, HQ2.out, htl, tx_ba] at HO
      have HRun := Lib.hid hr
      have HBs := Lib.hid hb
      have HOw := Lib.hid hown
      have HMd := Lib.hid hm
      clear hr hb hown hm
      rcases (show (¬ (j < nl)) ∨ (j < nl ∧ ¬ (j < 20)) by omega) with h1 | ⟨h1, h2⟩
      all_goals
        go_wp2_with fail
        refine HO.out.mono ?_
        rintro x w7 ⟨g7, A7, c7, F7, D7, rfl, m7, hg7, r7, l7, hl7, k7, f7⟩
        have hlog := LogAt.kept HRun.out.log k7 (LogAt.off HRun.out.log HRun.out.disk)
        have r8 : Run w7 F7 g D7 200 100 0 100 1 tS.data.toList (tx had) u := ⟨r7.disk, r7.n_, r7.br, r7.pend, r7.ld, by rw [m7.1]; exact hlog, r7.hhf, r7.small⟩
        have b7 := HBs.out.mv m7
        have b8 : Base w0.heap.size w0 w7 F7 g := ⟨b7.bel, b7.lo, fun k hk => by
          rcases hk with h | h
          · exact b7.own k (.inl h)
          · exact HBs.out.own k (.inr h), b7.tab, b7.tlt⟩
        have o7 := own_mv HRun.out HOw.out m7
        obtain ⟨Ah, ch, rfl⟩ := own_form o7
        have hf7 := Blk.new w7 39 #[.int .u64 1, .string (ba tS.data.toList), .slice A7 had.length c7]
        have hbf : Below w7.heap.size w7 (w7.alloc (.cells #[.int .u64 1, .string (ba tS.data.toList), .slice A7 had.length c7] 39)) := (Below.refl _ w7).alloc (Nat.le_refl _) _
        have HSm := Lib.hid (same_any (w7.alloc (.cells #[.int .u64 1, .string (ba tS.data.toList), .slice A7 had.length c7] 39)) A7 Ah c7 ch had had (by omega) (by omega) (((hl7.mono (T := fun _ => False) (fun k _ hk => hk.elim)).below hbf)) ((Lies.own o7 (fun _ _ _ hx => hx)).below hbf))
        rw [decide_eq_true rfl] at HSm
        have HR8 := Lib.hid r8
        have HB8 := Lib.hid b8
        have HBf := Lib.hid hbf
        clear m7 r7 hl7 k7 f7 hlog r8 b7 b8 o7 hf7 hbf HO
        go_wp2_with fail
        refine HSm.out.mono ?_
        rintro x w9 ⟨rfl, hb9⟩
        have hb79 := HBf.out.trans (hb9.mono HBf.out.size)
        have HSn := Lib.hid (snap0 (HB8.out.mv (Mv.below hb79 F7 g)) (HR8.out.mv_below hb79) l7 (by omega) tT (by decide) (by decide))
        have HB9 := Lib.hid (HB8.out.mv (Mv.below hb79 F7 g))
        clear hb9 hb79 HSm
        go_wp2_with fail
        refine HSn.out.mono ?_
        rintro x w10 ⟨rfl, F10, D10, m10, l10, r10⟩
        rw [head_small 2 _ (by omega) (by decide)] at r10
        have b10 := HB9.out.mv m10
        have HRm2 := room_any r10.disk (hf := 100) (by rw [r10.n_]) r10.log (by decide)
        rw [show roomN 100 (tT.data.toList.length + 10) false = 89 from rfl] at HRm2
        have HRm3 := Lib.hid HRm2
        have HSz := Lib.hid (sz_ok (n := 3) (by omega) (by omega))
        have HR10 := Lib.hid r10
        have HB10 := Lib.hid b10
        clear m10 r10 b10 HRm2 HSn
        go_wp2_with fail
        refine HRm3.out.mono ?_
        rintro x w11 ⟨rfl, hb11⟩
        have HB11 := Lib.hid hb11
        have HE11 := Lib.hid (epoch_any (HR10.out.mv_below hb11).log)
        clear hb11
        go_wp2_with (first
          | (go_at_call 20; refine (refSize_any _ _).mono ?_; rintro x w' ⟨rfl, rfl⟩; rw [HSz.out])
          | (go_at_call 19; refine HE11.out.mono ?_; rintro x w' ⟨rfl, rfl⟩))
        go_ret
        exact ⟨rfl, HB0.out.trans ((HB10.out.bel.trans (HB11.out.mono HB10.out.lo)).mono HB0.out.size)⟩

/-! ### The row -/
set_option maxRecDepth 100000 in
theorem contract (H : Type) (enc : TypeId × Value → H) (W : World) (base : Nat) (args : Array Value) (ds gs : List (DataW H)) (before : List MemPlace)
    (hval : ∀ (j : Nat) t v, Tryd.f4.params[j]? = some t → args[j]? = some v → Value.okWide Tryd.prog W .any base t v)
    (hW : DataW.Whole enc Tryd.prog Tryd.f4.params.toList Rows.halvesRoomSpec.vars false W args.toList ds gs before) (hL : laidMetH Tryd.prog Rows.halvesRoomRow.laid W) :
    Calls Tryd.prog 4 args W fun e W' => ∃ v, e = .returned v ∧ Rows.halvesRoomSpec.post enc Tryd.prog Tryd.f4 false true false false W args v W' := by
  have hW' := hW
  obtain ⟨p, q, hA0, hV, rfl, hfz, hnd⟩ := hW
  have hA : DataW.TrodAll enc Tryd.prog W 0 (fun _ => true) true Tryd.f4.params.toList args.toList ds p := hA0
  rw [Tryd.params4] at hA hval
  obtain ⟨v0, vs0, d0, ds0, p0, q0, hargs, rfl, rfl, h0, r0⟩ := trodAll_cons hA
  obtain ⟨rfl, rfl, rfl⟩ := trodAll_nil r0
  obtain rfl : args = #[v0] := by cases args; simp_all
  obtain ⟨rfl, rfl⟩ := trodVars_none hV
  refine law_contract (tb := 4) laidOut (by kernel_rfl) rfl (by kernel_rfl) Tryd.underlying4 rfl hW' ?_
  clear hA0 hW' hA
  obtain ⟨A0, k0, l0, rfl, z0, s0, g0⟩ := opened_texts (open_texts Tryd.underlying30 Tryd.underlying9 cellsStr (hval 0 30 v0 rfl rfl) h0)
  exact walk A0 k0 l0 z0 s0 W g0 (tab_of_laid hL)

theorem laid_met (os : Os) : laidMet Tryd.prog Rows.halvesRoomRow.laid ((laidWorld os).forCall (fun _ _ => 0) ⟨#[], #[.slice none 0 0], []⟩).memory :=
  laidMet_of_run' 8 (by kernel_rfl) (by kernel_rfl)
theorem reads (os : Os) {H : Type} (enc : TypeId × Value → H) : ∃ places, DataW.whole enc Tryd.prog ((laidWorld os).forCall (fun _ _ => 0) ⟨#[], #[.slice none 0 0], []⟩).memory Tryd.f4.params.toList Rows.halvesRoomSpec.vars false (#[.slice none 0 0] : Array Value).toList 8 = some ([.nil], [], places) :=
  ⟨[], by kernel_rfl⟩

set_option maxRecDepth 100000 in
theorem lifted (os : Os) (started : os.Started) (H : Type) (enc : TypeId × Value → H) (F : Stop.Interp) :
    ReturnsInHanded {} Tryd.checked os 4 .any ((OpenSpec.ofChange Rows.halvesRoomSpec).preRow enc Tryd.prog Tryd.f4 Rows.halvesRoomRow.domain false Rows.halvesRoomRow.laid) (((OpenSpec.ofChange Rows.halvesRoomSpec).at F).post enc Tryd.prog Tryd.f4 false true false false) := by
  obtain ⟨places, hx⟩ := reads os enc
  refine returnsInHanded_of_row (C := Tryd.checked) (s := OpenSpec.ofChange Rows.halvesRoomSpec) own started (by kernel_rfl) Tryd.func4
    (witness_row_at (enc := enc) (C := Tryd.checked) false (laidWorld os) #[.slice none 0 0] rfl (by kernel_rfl) (by kernel_rfl) (by kernel_rfl)
      (OpenSpec.preRow_of_cond 8 hx (by kernel_rfl) (fun k hk => by cases hk) (by kernel_rfl) (laid_met os))) ?_
  intro W base args ds gs before hval hW _ _ _ hL _ _
  exact contract H enc W base args ds gs before hval hW hL

theorem said : Rows.HalvesRoomSaid :=
  OpenClaim.holds_of_cond 4 Tryd.f4 rfl rfl rfl rfl rfl rfl rfl ⟨rfl, rfl, rfl, rfl, rfl⟩ rfl rfl rfl rfl rfl (by kernel_rfl) Tryd.func4 (by kernel_rfl)
    (of_decide_eq_true (by kernel_rfl)) (by unfold Func.isWrapper; first | (rw [if_pos (by decide +kernel)]; kernel_rfl) | (rw [if_neg (by decide +kernel)]; exact ⟨rfl, rfl⟩))
    (fun os started H enc _ F => by rw [OpenClaim.pre_eq_preRow]; exact lifted os started H enc F)

theorem plain (f : FuncId) (fn : Func) (hf : Tryd.pinned.checked.prog.funcNamed "homecoming/homecominglaw05.HalvesRoom" = some f) (hfn : Tryd.pinned.checked.prog.funcs[f]? = some fn) :
    false = Tryd.pinned.checked.prog.looks [] ∧ ∀ (j : Nat) t, fn.params[j]? = some t → Tryd.pinned.checked.prog.wantsStandIn t = false := by
  obtain rfl : f = 4 := Option.some.inj ((show Tryd.prog.funcNamed "homecoming/homecominglaw05.HalvesRoom" = some 4 by kernel_rfl).symm.trans hf) |>.symm
  obtain rfl : fn = Tryd.f4 := (Option.some.inj (Tryd.func4.symm.trans hfn)).symm
  refine ⟨by kernel_rfl, fun j t ht => ?_⟩
  have hall : (Tryd.f4.params.toList.all fun u => !Tryd.prog.wantsStandIn u) = true := by kernel_rfl
  have hm : t ∈ Tryd.f4.params.toList := by simpa using Array.mem_of_getElem? ht
  exact (show Tryd.prog.wantsStandIn t = false by simpa using List.all_eq_true.1 hall t hm)

/-- THE STATEMENT. -/
theorem card : Rows.HalvesRoomCardSaid :=
  Claim7.holds_tied_plain_at .later [] _ _ _ _ said (fun _ h => by cases h) (by kernel_rfl) (fun _ h => by cases h) halvesRoom_row_tie rfl ⟨rfl, rfl⟩ (by kernel_rfl) rfl plain (by kernel_rfl)
#print axioms card
end Go.Proofs.YtggecdgomgmhmaaDoor.halvesRoom
