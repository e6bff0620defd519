/-
  Proves the statement of HalvesAgain: for every row of texts, every snapshot and every number the law returns true (a disk that is formatted anew forgets all that it had; its epoch is one more; what is opened then goes on), and its arguments read as they did. Condition: the package-level table halfBytes holds what its text lays.
-/
import Derived.Test.YtggecdgomgmhmaaDoorHalQ
import Derived.Test.YtggecdgomgmhmaaDoorCrcTable
import Derived.Test.YtggecdgomgmhmaaDoorCards
import Derived.Test.YtggecdgomgmhmaaDoorTie
namespace Go.Proofs.YtggecdgomgmhmaaDoor.halvesAgain
open Go.ChangeShapes Go.WideShapes Go.ChangeAt Go.RowKit
open Go.ChangeMaps (open_string shut_string)

theorem and3 (x : Int) : ∃ m : Nat, m < 4 ∧ bits .and .i64 x 3 = (m : Int) := by
  have hm : (BitVec.ofInt 64 3).toNat = 2 ^ 2 - 1 := by decide
  have key : (BitVec.ofInt 64 x &&& BitVec.ofInt 64 3).toNat = (x % ((2 ^ 64 : Nat) : Int)).toNat % 2 ^ 2 := by
    rw [BitVec.toNat_and, BitVec.toNat_ofInt, hm, Nat.and_two_pow_sub_one_eq_mod]
  refine ⟨(x % ((2 ^ 64 : Nat) : Int)).toNat % 2 ^ 2, Nat.mod_lt _ (by decide), ?_⟩
  show IntKind.i64.wrap ((BitVec.ofInt 64 x &&& BitVec.ofInt 64 3).toNat : Nat) = _
  rw [key, IntKind.wrap_i64]
  omega
def tOld : ByteArray := ⟨#[111, 108, 100]⟩
def tOlder : ByteArray := ⟨#[111, 108, 100, 101, 114]⟩
def tOn : ByteArray := ⟨#[111, 110]⟩
def Rel1 (B : Nat) (W : World) (d g m : Nat) (x : Value) (wr : World) : Prop :=
  ∃ (j : Nat) (F : Foot) (D : Dsk) (st ot : Nat) (s : List UInt8) (u : Nat), j ≤ m ∧ x = .int .i64 (j : Int) ∧ Base B W wr F g ∧ F.d = d ∧ D.left = 0 ∧ Run wr F g D 400 200 st ot (1 + j) s [] u
def Rel2 (B : Nat) (W : World) (d g e nl : Nat) (l : List ByteArray) (x : Value) (wr : World) : Prop :=
  ∃ (j : Nat) (F : Foot) (D : Dsk) (st ot : Nat) (s : List UInt8) (ts : List (List UInt8)) (u : Nat), j ≤ nl ∧ j ≤ 4 ∧ l.length = nl ∧ x = .int .i64 (j : Int) ∧ Base B W wr F g ∧ F.d = d ∧ D.left = 0 ∧ Run wr F g D 400 200 st ot e s ts u

set_option maxRecDepth 100000 in
set_option maxHeartbeats 8000000 in
theorem walk (A0 : Option Addr) (c0 : Nat) (l : List ByteArray) (hl : l.length ≤ maxLen) (hs : ∀ s ∈ l, s.size ≤ maxLen) (sn : ByteArray) (hsn : sn.size ≤ maxLen) (k : Int) (w : World) (hA : Lies (fun _ => False) w A0 (cs l)) (hT : Tab w) :
    Calls Tryd.prog 6 #[.slice A0 l.length c0, .string sn, .int .i64 k] w fun e w' => e = .returned (.bool true) ∧ Below w.heap.size w w' := by
  have HT := Lib.hid hT
  have HS := Lib.hid hs
  have HA := Lib.hid hA
  obtain ⟨nl, hnl⟩ : ∃ nl, l.length = nl := ⟨_, rfl⟩
  rw [hnl] at hl ⊢
  unfold maxLen at hl
  obtain ⟨m, hm4, hand⟩ := and3 k
  have HSh := Lib.hid (fun W => short_any sn 30 hsn W)
  have htz := cut_size sn 30
  generalize cut sn 30 = t at HSh htz
  clear hT hs hA hsn
  go_enter Tryd.func6, Tryd.ntmps6
  go_wp2_with fail
  refine (awake_any _ HT.out).mono ?_
  rintro x w0 ⟨rfl, hb0⟩
  have hT0 := HT.out.below hb0 HT.out.lt
  have HB0 := Lib.hid hb0
  clear hb0
  go_wp2_with fail
  refine (new_any 400 w0 (by omega) (by omega)).mono ?_
  rintro x w1 ⟨F, rfl, hD, hb1, hF⟩
  have HFm := Lib.hid (fmt0 (hT0.below hb1 hT0.lt) (fresh_cr hD (hf := 200) rfl (by omega)) (by rw [zb_len]) (eOf_fresh 400 200) (by omega) tOld (by decide) (by decide))
  have HB1 := Lib.hid hb1
  have HFo := Lib.hid hF
  have HT0 := Lib.hid hT0
  clear hD hb1 hF hT0
  go_wp2_with fail
  refine HFm.out.mono ?_
  rintro x w2 ⟨g, F2, D2, rfl, q1, q2, q3, q4, l2, r2⟩
  have b2 := base_fmt (g' := g) HB1.out HB1.out.size HFo.out HT0.out HT0.out.lt q3 q4 q1
  have HI := Lib.hid (show Rel1 w0.heap.size w0 F.d g m (.int .i64 0) w2 from ⟨0, F2, D2, _, _, _, _, by omega, rfl, b2, q2, l2, r2⟩)
  clear q1 q2 q3 q4 HFm r2 l2 HFo b2 HB1
  go_wp2_with fail
  go_loopw [11] (Rel1 w0.heap.size w0 F.d g m) (fun i _ => 4 - (intOf i).toNat)
  case atStart => exact HI.out
  case round =>
    clear HI
    obtain ⟨j, F3, D3, st, ot, s, u, hj, rfl, hb, hd, hl0, hr⟩ := hrel
    by_cases hlt : j < m
    · have hjm : (j : Int) < bits .and .i64 k 3 := by rw [hand]; omega
      have HSn := Lib.hid (snap0 hb hr hl0 (by omega) tOlder (by decide) (by decide))
      have HB := Lib.hid hb
      clear hr hb
      go_wp2_with fail
      refine HSn.out.mono ?_
      rintro x w4 ⟨rfl, F4, D4, m4, l4, r4⟩
      have HX := Lib.hid (And.intro (HB.out.mv m4) (And.intro (m4.1.trans hd) r4))
      clear m4 r4
      go_wp2_with fail
      go_roundw
      case rel =>
        obtain ⟨b4, d4, r4⟩ := HX.out
        exact ⟨j + 1, F4, D4, _, _, _, _, by omega, by go_num, b4, d4, l4, by rw [show 1 + (j + 1) = 1 + j + 1 by omega]; exact r4⟩
      case measure => simp [intOf]; omega
    · obtain rfl : j = m := by omega
      have hjm : ¬ ((j : Int) < bits .and .i64 k 3) := by rw [hand]; omega
      obtain ⟨e, he⟩ : ∃ e, 1 + j = e := ⟨_, rfl⟩
      rw [he] at hr
      have he5 : e ≤ 4 := by omega
      have HI2 := Lib.hid (show Rel2 w0.heap.size w0 F.d g e nl l (.int .i64 0) wr from ⟨0, F3, D3, _, _, _, _, _, by omega, by omega, hnl, rfl, hb, hd, hl0, hr⟩)
      clear hr hb hd hand he
      go_wp2_with fail
      go_loopw [12] (Rel2 w0.heap.size w0 F.d g e nl l) (fun i _ => 4 - (intOf i).toNat)
      case atStart => exact HI2.out
      case round =>
        clear HI2
        obtain ⟨i, F5, D5, st5, ot5, s5, ts5, u5, hi, hi4, hll, rfl, hb, hd, hl5, hr⟩ := hrel
        by_cases hlt2 : i < nl ∧ i < 4
        · obtain ⟨h1, h2⟩ := hlt2
          have hil : i < l.length := by omega
          obtain ⟨a, rfl, hab, _, hc⟩ := HA.out i _ (cs_get l i hil)
          have hc' : wr.cell? (a.add i) = some (.string l[i]) := by
            rw [← hc]
            have h1 : a.block < w0.heap.size := Nat.lt_of_lt_of_le hab HB0.out.size
            exact ((hb.bel.cell (p := a.add i) (by rw [add_block]; exact h1))).trans (HB0.out.cell (p := a.add i) (by rw [add_block]; exact hab))
          have HSi := Lib.hid (short_any l[i] 30 (HS.out _ (List.getElem_mem hil)) wr)
          have hti := cut_size l[i] 30
          generalize cut l[i] 30 = ti at HSi hti
          have HAp := Lib.hid (app0 hb hr hl5 ti (by omega))
          have HB := Lib.hid hb
          clear hr hb
          go_wp2_with fail
          refine HSi.out.mono ?_
          rintro x w' ⟨rfl, rfl⟩
          go_wp2_with fail
          refine HAp.out.mono ?_
          rintro x w6 ⟨F6, D6, m6, l6, h6⟩
          have HX : Hid (∃ ts u, Base w0.heap.size w0 w6 F6 g ∧ F6.d = F.d ∧ Run w6 F6 g D6 400 200 st5 ot5 e s5 ts u) := by
            rcases h6 with ⟨_, _, _, r6⟩ | ⟨_, _, r6⟩
            · exact ⟨_, _, HB.out.mv m6, m6.1.trans hd, r6⟩
            · exact ⟨_, _, HB.out.mv m6, m6.1.trans hd, r6⟩
          have hx : ∃ E : Int, x = .returned (.int .i64 E) := by
            rcases h6 with ⟨h, _⟩ | ⟨⟨E, h, _⟩, _⟩
            · exact ⟨_, h⟩
            · exact ⟨_, h⟩
          obtain ⟨E, rfl⟩ := hx
          clear m6 h6
          go_wp2_with fail
          go_roundw
          case rel =>
            obtain ⟨ts6, u6, b6, d6, r6⟩ := HX.out
            exact ⟨i + 1, F6, D6, _, _, _, _, _, by omega, by omega, hll, by go_num, b6, d6, l6, r6⟩
          case measure => simp [intOf]; omega
        · have HRun := Lib.hid hr
          have HBs := Lib.hid hb
          have hdl := hr.ld.len
          have hnw := hr.ld.open_.newest
          obtain ⟨e1, he1⟩ : ∃ e1, e + 1 = e1 := ⟨_, rfl⟩
          have hew : IntKind.u64.wrap ((e : Int) + 1) = (e1 : Int) := by rw [IntKind.wrap_u64]; omega
          have HFm2 := Lib.hid (fmt0 hb.t (hr.cr hl5) hdl (e := e1) (by rw [hnw]; exact he1) (by omega) t (by omega) (by omega))
          rw [hd] at HFm2
          have HSt := Lib.hid (HSh.out wr)
          clear hr hb hdl hnw
          rcases (show (¬ (i < nl)) ∨ (i < nl ∧ ¬ (i < 4)) by omega) with h1 | ⟨h1, h2⟩
          all_goals
            go_wp2_with fail
            refine HSt.out.mono ?_
            rintro x w' ⟨rfl, rfl⟩
            go_wp2_with fail
            refine HFm2.out.mono ?_
            rintro x w6 ⟨g6, F6, D6, rfl, p1, p2, p3, p4, l6, r6⟩
            rw [head_small e1 _ (by omega) (by rw [size_list]; omega), size_list] at r6
            have hlx := LogAt.kept HRun.out.log p3 (LogAt.off HRun.out.log HRun.out.disk)
            have b6 := base_fmt (g' := g6) HBs.out.bel HBs.out.lo (fun k hk => HBs.out.own k (.inl hk)) HBs.out.tab HBs.out.tlt p3 p4 p1
            have HO := Lib.hid (run_open b6 (r6.cr l6) r6.ld.open_)
            unfold OpP at HO
            rw [p2, hd, ba_back] at HO
            have hoffx : ¬ F6.has g := fun hx => by
              rcases p4 g hx with h | h
              · exact LogAt.off HRun.out.log HRun.out.disk h
              · have := Blk.lt HRun.out.log; omega
            have HX6 := Lib.hid (And.intro hlx (And.intro hoffx (And.intro b6 r6)))
            have HD6 : Hid (F6.d = F.d) := p2.trans hd
            clear p1 p2 p3 p4 r6 hlx b6 HFm2 hoffx
            go_wp2_with fail
            refine HO.out.mono ?_
            rintro x w7 ⟨g7, A7, c7, F7, D7, rfl, m7, hg7, r7, l7, hl7, k7, f7⟩
            obtain ⟨hlx, hoffx, b6, r6⟩ := HX6.out
            have hfd : Below w7.heap.size w7 (w7.alloc (.cells #[.int .u64 (e1 : Int), .string t, .slice A7 0 c7] 39)) := (Below.refl _ w7).alloc (Nat.le_refl _) _
            have hx7 : LogAt w7 g F5.d st5 u5 e false := LogAt.kept hlx k7 hoffx
            have hy7 : LogAt w7 g6 F6.d 0 (t.size + 10) e1 false := LogAt.kept r6.log k7 (LogAt.off r6.log r6.disk)
            have HEx := Lib.hid (epoch_any (LogAt.kept hx7 (Kept.of_below (S := fun _ => False) hfd) (fun h => h)))
            have HEy := Lib.hid (epoch_any (LogAt.kept hy7 (Kept.of_below (S := fun _ => False) hfd) (fun h => h)))
            have r8 := r7.mv_below hfd
            have HEz := Lib.hid (epoch_any r8.log)
            have HRz := Lib.hid (room_any r8.disk (hf := 200) (by rw [r8.n_]) r8.log (by omega))
            have hRy : LogAt (w7.alloc (.cells #[.int .u64 (e1 : Int), .string t, .slice A7 0 c7] 39)) g6 F7.d 0 (t.size + 10) e1 false := by rw [m7.1]; exact LogAt.kept hy7 (Kept.of_below (S := fun _ => False) hfd) (fun h => h)
            have kf := Blk.new w7 39 #[.int .u64 (e1 : Int), .string t, .slice A7 0 c7]
            have hoK : ¬ (F7.has w7.heap.size ∨ w7.heap.size = g7) := fun hx => by
              rcases hx with h | h
              · have := Foot.has_lt r7.disk _ h; omega
              · have := Blk.lt r7.log; omega
            have b7 := (b6.mv m7).mv (Mv.below hfd F7 g7)
            have HBf := Lib.hid b7
            have HRun8 := Lib.hid r8
            have HRy := Lib.hid hRy
            have HKf := Lib.hid kf
            have hd7 : Hid (F7.d = F.d) := m7.1.trans HD6.out
            clear hlx hoffx b6 r6 hx7 hy7 r8 r7 hRy kf b7 hfd m7 k7 f7 hl7 HO
            go_wp2_with fail
            generalize w7.alloc (.cells #[.int .u64 (e1 : Int), .string t, .slice A7 0 c7] 39) = w8 at HEx HEy HEz HRz HBf HRun8 HRy HKf ⊢
            generalize w7.heap.size = qf at HKf hoK hg7 ⊢
            refine HEy.out.mono ?_
            rintro x w' ⟨rfl, rfl⟩
            go_wp2_with fail
            refine HEx.out.mono ?_
            rintro x w' ⟨rfl, rfl⟩
            go_wp2_with fail
            refine HEz.out.mono ?_
            rintro x w' ⟨rfl, rfl⟩
            have kf0 := HKf.out.cell 1
            have kf1 := HKf.out.cell 2
            simp only [List.getElem?_toArray, List.getElem?_cons_zero, List.getElem?_cons_succ] at kf0 kf1
            go_wp2_with fail
            refine HEy.out.mono ?_
            rintro x w' ⟨rfl, rfl⟩
            go_wp2_with fail
            refine HRz.out.mono ?_
            rintro x w9 ⟨rfl, hb9⟩
            have HRun9 := Lib.hid (HRun8.out.mv_below hb9)
            have HBf9 := Lib.hid (HBf.out.mv (Mv.below hb9 F7 g7))
            have HRy9 := Lib.hid (room_any HRun9.out.disk (hf := 200) (by rw [HRun9.out.n_]) (LogAt.kept HRy.out (Kept.of_below (S := fun _ => False) hb9) (fun h => h)) (by omega))
            clear hb9
            go_wp2_with fail
            refine HRy9.out.mono ?_
            rintro x w10 ⟨rfl, hb10⟩
            have HRun10 := Lib.hid (HRun9.out.mv_below hb10)
            have HBf10 := Lib.hid (HBf9.out.mv (Mv.below hb10 F7 g7))
            have HAp := Lib.hid (app0 HBf10.out HRun10.out l7 tOn (by decide))
            clear hb10
            go_wp2_with fail
            refine HAp.out.mono ?_
            rintro x w11 ⟨F11, D11, m11, l11, h11⟩
            rcases h11 with ⟨rfl, _, _, r11⟩ | ⟨_, hc, _⟩
            case inr => exact absurd ⟨by decide, by show t.size + 10 + (2 + 8) ≤ 200; omega⟩ hc
            have b11 := HBf10.out.mv m11
            have HO2 := Lib.hid (run_open b11 (r11.cr l11) r11.ld.open_)
            unfold OpP at HO2
            rw [m11.1, hd7.out, ba_back] at HO2
            have HB11 := Lib.hid b11
            clear m11 r11 b11
            go_wp2_with fail
            refine HO2.out.mono ?_
            rintro x w12 ⟨g12, A12, c12, F12, D12, rfl, m12, hg12, r12, l12, hl12, k12, f12⟩
            obtain ⟨a12, rfl, _, _, hc0⟩ := hl12 0 (.string tOn) rfl
            have hc0' : w12.cell? a12 = some (.string tOn) := hc0
            have HB12 := Lib.hid (HB11.out.mv m12)
            have hlo12 := HB12.out.lo
            have hac : (w12.alloc (.cells #[.int .u64 (e1 : Int), .string t, .slice (some a12) 1 c12] 39)).cell? a12 = some (.string tOn) := by
              have hlt : a12.block < w12.heap.size := block_lt_of_cell hc0'
              rw [← hc0']
              exact ((Below.refl w12.heap.size w12).alloc (Nat.le_refl _) _).cell hlt
            have hto : (tOn.toList == [111, 110]) = true := by decide +kernel
            clear m12 r12 hl12 k12 f12 hc0 HO2
            go_wp2_with fail
            go_ret
            exact ⟨rfl, HB0.out.trans ((HB12.out.bel.alloc hlo12 _).mono HB0.out.size)⟩

/-! ### The row -/
set_option maxRecDepth 100000 in
theorem contract (H : Type) (enc : TypeId × Value → H) (W : World) (base : Nat) (args : Array Value) (ds gs : List (DataW H)) (before : List MemPlace)
    (hval : ∀ (j : Nat) t v, Tryd.f6.params[j]? = some t → args[j]? = some v → Value.okWide Tryd.prog W .any base t v)
    (hW : DataW.Whole enc Tryd.prog Tryd.f6.params.toList Rows.halvesAgainSpec.vars false W args.toList ds gs before) (hL : laidMetH Tryd.prog Rows.halvesAgainRow.laid W) :
    Calls Tryd.prog 6 args W fun e W' => ∃ v, e = .returned v ∧ Rows.halvesAgainSpec.post enc Tryd.prog Tryd.f6 false true false false W args v W' := by
  have hW' := hW
  obtain ⟨p, q, hA0, hV, rfl, hfz, hnd⟩ := hW
  have hA : DataW.TrodAll enc Tryd.prog W 0 (fun _ => true) true Tryd.f6.params.toList args.toList ds p := hA0
  rw [Tryd.params6] at hA hval
  obtain ⟨v0, vs0, d0, ds0, p0, q0, hargs, rfl, rfl, h0, r0⟩ := trodAll_cons hA
  obtain ⟨v1, vs1, d1, ds1, p1, q1, rfl, rfl, rfl, h1, r1⟩ := trodAll_cons r0
  obtain ⟨v2, vs2, d2, ds2, p2, q2, rfl, rfl, rfl, h2, r2⟩ := trodAll_cons r1
  obtain ⟨rfl, rfl, rfl⟩ := trodAll_nil r2
  obtain rfl : args = #[v0, v1, v2] := by cases args; simp_all
  obtain ⟨rfl, rfl⟩ := trodVars_none hV
  refine law_contract (tb := 4) laidOut (by kernel_rfl) rfl (by kernel_rfl) Tryd.underlying4 rfl hW' ?_
  clear hA0 hW' hA
  obtain ⟨A0, k0, l0, rfl, z0, s0, g0⟩ := opened_texts (open_texts Tryd.underlying30 Tryd.underlying9 cellsStr (hval 0 30 v0 rfl rfl) h0)
  obtain ⟨a1, rfl, _, _, w1⟩ := open_string Tryd.underlying9 (hval 1 9 v1 rfl rfl) h1
  obtain ⟨a2, rfl, rfl, rfl, w2⟩ := open_int Tryd.underlying3 (hval 2 3 v2 rfl rfl) h2
  exact walk A0 k0 l0 z0 s0 a1 w1 a2 W g0 (tab_of_laid hL)

theorem laid_met (os : Os) : laidMet Tryd.prog Rows.halvesAgainRow.laid ((laidWorld os).forCall (fun _ _ => 0) ⟨#[], #[.slice none 0 0, .string ⟨#[]⟩, .int .i64 0], []⟩).memory :=
  laidMet_of_run' 8 (by kernel_rfl) (by kernel_rfl)
theorem reads (os : Os) {H : Type} (enc : TypeId × Value → H) : ∃ places, DataW.whole enc Tryd.prog ((laidWorld os).forCall (fun _ _ => 0) ⟨#[], #[.slice none 0 0, .string ⟨#[]⟩, .int .i64 0], []⟩).memory Tryd.f6.params.toList Rows.halvesAgainSpec.vars false (#[.slice none 0 0, .string ⟨#[]⟩, .int .i64 0] : Array Value).toList 8 = some ([.nil, .lit (.string []), .lit (.int .i64 0)], [], places) :=
  ⟨[], by kernel_rfl⟩

set_option maxRecDepth 100000 in
theorem lifted (os : Os) (started : os.Started) (H : Type) (enc : TypeId × Value → H) (F : Stop.Interp) :
    ReturnsInHanded {} Tryd.checked os 6 .any ((OpenSpec.ofChange Rows.halvesAgainSpec).preRow enc Tryd.prog Tryd.f6 Rows.halvesAgainRow.domain false Rows.halvesAgainRow.laid) (((OpenSpec.ofChange Rows.halvesAgainSpec).at F).post enc Tryd.prog Tryd.f6 false true false false) := by
  obtain ⟨places, hx⟩ := reads os enc
  refine returnsInHanded_of_row (C := Tryd.checked) (s := OpenSpec.ofChange Rows.halvesAgainSpec) own started (by kernel_rfl) Tryd.func6
    (witness_row_at (enc := enc) (C := Tryd.checked) false (laidWorld os) #[.slice none 0 0, .string ⟨#[]⟩, .int .i64 0] rfl (by kernel_rfl) (by kernel_rfl) (by kernel_rfl)
      (OpenSpec.preRow_of_cond 8 hx (by kernel_rfl) (fun k hk => by cases hk) (by kernel_rfl) (laid_met os))) ?_
  intro W base args ds gs before hval hW _ _ _ hL _ _
  exact contract H enc W base args ds gs before hval hW hL

theorem said : Rows.HalvesAgainSaid :=
  OpenClaim.holds_of_cond 6 Tryd.f6 rfl rfl rfl rfl rfl rfl rfl ⟨rfl, rfl, rfl, rfl, rfl⟩ rfl rfl rfl rfl rfl (by kernel_rfl) Tryd.func6 (by kernel_rfl)
    (of_decide_eq_true (by kernel_rfl)) (by unfold Func.isWrapper; first | (rw [if_pos (by decide +kernel)]; kernel_rfl) | (rw [if_neg (by decide +kernel)]; exact ⟨rfl, rfl⟩))
    (fun os started H enc _ F => by rw [OpenClaim.pre_eq_preRow]; exact lifted os started H enc F)

theorem plain (f : FuncId) (fn : Func) (hf : Tryd.pinned.checked.prog.funcNamed "homecoming/homecominglaw05.HalvesAgain" = some f) (hfn : Tryd.pinned.checked.prog.funcs[f]? = some fn) :
    false = Tryd.pinned.checked.prog.looks [] ∧ ∀ (j : Nat) t, fn.params[j]? = some t → Tryd.pinned.checked.prog.wantsStandIn t = false := by
  obtain rfl : f = 6 := Option.some.inj ((show Tryd.prog.funcNamed "homecoming/homecominglaw05.HalvesAgain" = some 6 by kernel_rfl).symm.trans hf) |>.symm
  obtain rfl : fn = Tryd.f6 := (Option.some.inj (Tryd.func6.symm.trans hfn)).symm
  refine ⟨by kernel_rfl, fun j t ht => ?_⟩
  have hall : (Tryd.f6.params.toList.all fun u => !Tryd.prog.wantsStandIn u) = true := by kernel_rfl
  have hm : t ∈ Tryd.f6.params.toList := by simpa using Array.mem_of_getElem? ht
  exact (show Tryd.prog.wantsStandIn t = false by simpa using List.all_eq_true.1 hall t hm)

/-- THE STATEMENT. -/
theorem card : Rows.HalvesAgainCardSaid :=
  Claim7.holds_tied_plain_at .later [] _ _ _ _ said (fun _ h => by cases h) (by kernel_rfl) (fun _ h => by cases h) halvesAgain_row_tie rfl ⟨rfl, rfl⟩ (by kernel_rfl) rfl plain (by kernel_rfl)
#print axioms card
end Go.Proofs.YtggecdgomgmhmaaDoor.halvesAgain
