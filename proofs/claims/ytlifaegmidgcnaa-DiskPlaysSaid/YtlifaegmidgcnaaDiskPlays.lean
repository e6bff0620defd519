/-
  DiskPlays: a disk goes on, step by step, as the document's own disk does: for every number and every row of steps the statement's function returns true and changes nothing that was there. No condition.
-/
import Derived.Test.YtlifaegmidgcnaaPlay
import Derived.Test.YtlifaegmidgcnaaOpen
import Derived.Test.YtlifaegmidgcnaaDiskT
import Derived.Deep.RegionHeld3
import Derived.Deep.CutRange
import Derived.Deep.CutBlock
namespace Go.Proofs.Ytlifaegmidgcnaa.diskPlays
open Go.ChangeShapes Go.WideShapes Go.ChangeAt Go.RowKit
open Go.ChangeMaps (open_string shut_string)

theorem cellsBool : Try.prog.cellsOf 4 = 1 := by kernel_rfl
/-- One step of the script, as cells of its element. -/
def OpAt (W : World) (p : Addr) (kd at_ nn : Int) (s : ByteArray) (nr : Bool) : Prop :=
  W.cell? p = some (.int .i64 kd) ∧ W.cell? ⟨p.block, p.off + 1, none⟩ = some (.int .i64 at_) ∧ W.cell? ⟨p.block, p.off + 2, none⟩ = some (.int .i64 nn) ∧ W.cell? ⟨p.block, p.off + 3, none⟩ = some (.string s) ∧ W.cell? ⟨p.block, p.off + 4, none⟩ = some (.bool nr)
def OpOk (at_ nn : Int) (s : ByteArray) : Prop := s.size ≤ maxLen ∧ -9223372036854775808 ≤ at_ ∧ at_ ≤ 9223372036854775807 ∧ -9223372036854775808 ≤ nn ∧ nn ≤ 9223372036854775807

theorem cellsOp : Try.prog.cellsOf 29 = 5 := by kernel_rfl
theorem open_ops {H : Type} {enc : TypeId × Value → H} {W : World} {base r0 : Nat} {held : Bool} {r : Reach} {v : Value} {d : DataW H} {ps : List MemPlace}
    (hv : Value.okWide Try.prog W r r0 22 v) (h : DataW.Trod enc Try.prog W base (fun _ => true) held 22 v d ps) :
    ∃ (A : Option Addr) (n c : Nat), v = .slice A n c ∧ n ≤ maxLen ∧ ∀ i, i < n → ∃ a kd at_ nn s nr, A = some a ∧ a.block < W.heap.size ∧ OpAt W (a.add (i * 5)) kd at_ nn s nr ∧ OpOk at_ nn s := by
  obtain ⟨A, n, c, rfl, hn, hel⟩ := open_rows Try.underlying22 cellsOp (by omega) hv h
  refine ⟨A, n, c, rfl, hn, fun i hi => ?_⟩
  obtain ⟨a, cs, fuel, x, hA, hb, hl, hc, htr⟩ := hel i hi
  obtain ⟨xs, m, _, _, _, hxl, hf⟩ := DataW.trod_struct Try.underlying29 htr
  match cs, hl, xs, hxl with
  | [c0, c1, c2, c3, c4], _, [x0, x1, x2, x3, x4], _ =>
    obtain ⟨kd, e0, _, _⟩ := DataW.trod_int Try.underlying3 (hf 0 _ rfl)
    obtain ⟨at_, e1, _, w1⟩ := DataW.trod_int Try.underlying3 (hf 1 _ rfl)
    obtain ⟨nn, e2, _, w2⟩ := DataW.trod_int Try.underlying3 (hf 2 _ rfl)
    obtain ⟨s, e3, _, w3⟩ := DataW.trod_string Try.underlying9 (hf 3 _ rfl)
    obtain ⟨nr, e4, _⟩ := DataW.trod_bool Try.underlying4 (hf 4 _ rfl)
    have f0 : c0 = .int .i64 kd := by have := congrArg List.head? e0; simpa [cellsInt] using this
    have f1 : c1 = .int .i64 at_ := by have := congrArg List.head? e1; simpa [cellsInt] using this
    have f2 : c2 = .int .i64 nn := by have := congrArg List.head? e2; simpa [cellsInt] using this
    have f3 : c3 = .string s := by have := congrArg List.head? e3; simpa [cellsStr] using this
    have f4 : c4 = .bool nr := by have := congrArg List.head? e4; simpa [cellsBool] using this
    subst f0 f1 f2 f3 f4
    have b1 := bounds_int w1
    have b2 := bounds_int w2
    exact ⟨a, kd, at_, nn, s, nr, hA, hb, ⟨hc 0 (by omega), hc 1 (by omega), hc 2 (by omega), hc 3 (by omega), hc 4 (by omega)⟩, w3, b1.1, b1.2, b2.1, b2.2⟩

theorem OpAt.below {W w : World} {B : Nat} {p : Addr} {kd at_ nn : Int} {s : ByteArray} {nr : Bool} (h : OpAt W p kd at_ nn s nr) (hb : Below B W w) (hp : p.block < B) : OpAt w p kd at_ nn s nr := by
  obtain ⟨h0, h1, h2, h3, h4⟩ := h
  exact ⟨(hb.cell hp).trans h0, (hb.cell (p := ⟨p.block, p.off + 1, none⟩) hp).trans h1, (hb.cell (p := ⟨p.block, p.off + 2, none⟩) hp).trans h2, (hb.cell (p := ⟨p.block, p.off + 3, none⟩) hp).trans h3, (hb.cell (p := ⟨p.block, p.off + 4, none⟩) hp).trans h4⟩

theorem and7 (x : Int) : ∃ m : Nat, m < 8 ∧ bits .and .i64 x 7 = (m : Int) := by
  have hm : (BitVec.ofInt 64 7).toNat = 2 ^ 3 - 1 := by decide
  have key : (BitVec.ofInt 64 x &&& BitVec.ofInt 64 7).toNat = (x % ((2 ^ 64 : Nat) : Int)).toNat % 2 ^ 3 := by
    rw [BitVec.toNat_and, BitVec.toNat_ofInt, hm, Nat.and_two_pow_sub_one_eq_mod]
  refine ⟨(x % ((2 ^ 64 : Nat) : Int)).toNat % 2 ^ 3, Nat.mod_lt _ (by decide), ?_⟩
  show IntKind.i64.wrap ((BitVec.ofInt 64 x &&& BitVec.ofInt 64 7).toNat : Nat) = _
  rw [key, IntKind.wrap_i64]
  omega

def PlaysRel (B : Nat) (W : World) (d g m n : Nat) (i : Value) (wr : World) : Prop :=
  ∃ k : Nat, k ≤ n ∧ k ≤ 60 ∧ i = .int .i64 (k : Int) ∧ ∃ D : Dsk, Play B W wr d g D D ∧ D.n = m ∧ D.pend.length ≤ k

def PlaysMid (B : Nat) (W : World) (d g m k : Nat) (x : Value) (wx : World) : Prop :=
  ∃ D : Dsk, x = .bool true ∧ Play B W wx d g D D ∧ D.n = m ∧ D.pend.length ≤ k + 1

set_option maxRecDepth 100000 in
set_option maxHeartbeats 8000000 in
theorem walk (sz : Int) (A : Option Addr) (n c : Nat) (w : World) (hn : n ≤ maxLen)
    (hA : ∀ i, i < n → ∃ a kd at_ nn s nr, A = some a ∧ a.block < w.heap.size ∧ OpAt w (a.add (i * 5)) kd at_ nn s nr ∧ OpOk at_ nn s) :
    Calls Try.prog 3 #[.int .i64 sz, .slice A n c] w fun e w' => e = .returned (.bool true) ∧ Below w.heap.size w w' := by
  obtain ⟨p, hp, ep⟩ := mod_nat sz 24 (by omega) (by omega)
  simp only [Int.cast_ofNat_Int] at ep
  unfold maxLen at hn
  have HA := Lib.hid hA
  clear hA
  go_enter Try.func3, Try.ntmps3
  go_wp2_with fail
  refine (awake_any _).mono ?_
  rintro e w1 ⟨rfl, hb1⟩
  have HB1 := Lib.hid hb1
  have hz1 : w.heap.size ≤ w1.heap.size := hb1.size
  clear hb1
  obtain ⟨m, hm⟩ : ∃ m : Nat, m = 1 + p := ⟨_, rfl⟩
  have hm1 : 1 ≤ m := by omega
  have hm2 : m ≤ 24 := by omega
  have hmp : (1 : Int) + (p : Int) = (m : Int) := by omega
  clear hm
  go_wp2_with fail
  refine (new_any m w1 hm1 (by omega)).mono ?_
  rintro e w2 ⟨F, rfl, hD, hb2, hF⟩
  go_wp2_with fail
  refine (rnew_any m w2 hm1 (by omega)).mono ?_
  rintro e w3 ⟨G, rfl, hR, hb3, hG⟩
  have pl := play_new hD hF hb2 hR hb3 hG
  clear hD hF hb2 hR hb3 hG hmp ep
  generalize F.d = d at pl ⊢
  generalize G.d = g at pl ⊢
  go_wp2_with fail
  go_loopw [9] (PlaysRel w1.heap.size w1 d g m n) (fun i _ => 60 - (intOf i).toNat)
  case atStart => exact ⟨0, by omega, by omega, rfl, _, pl, rfl, by show 0 ≤ 0; omega⟩
  case round =>
    clear pl
    obtain ⟨k, hk, hk6, rfl, D, pl, hDn, hDp⟩ := hrel
    by_cases hlt : k < n ∧ k < 60
    · obtain ⟨hlt1, hlt2⟩ := hlt
      obtain ⟨a, kd, at_, nn, s, nr, rfl, hab, hop, hs, ha1, ha2, hn1, hn2⟩ := HA.out k hlt1
      have hop1 := (hop.below HB1.out (by rw [addr_block]; omega)).below pl.bel (by rw [addr_block]; omega)
      obtain ⟨q0, q1, q2, q3, q4⟩ := hop1
      have HDn := Lib.hid hDn
      clear hop hDn
      have HS := Lib.hid (fun W => short_any s 12 hs W)
      have hcs := cut_size s 12
      generalize cut s 12 = cs at HS hcs
      go_wp2_with fail
      refine (HS.out _).mono ?_
      rintro e w' ⟨rfl, rfl⟩
      have b1 := Blk.new wr 29 #[.int .i64 kd, .int .i64 at_, .int .i64 nn, .string s, .bool nr]
      have pl1 := pl.after ((Below.refl _ wr).alloc (Nat.le_refl _) (.cells #[.int .i64 kd, .int .i64 at_, .int .i64 nn, .string s, .bool nr] 29))
      generalize wr.alloc (.cells #[.int .i64 kd, .int .i64 at_, .int .i64 nn, .string s, .bool nr] 29) = W1 at b1 pl1 ⊢
      generalize wr.heap.size = b at b1 ⊢
      have a0 := b1.cell 0
      have a1 := b1.cell 1
      have a2 := b1.cell 2
      have a4 := b1.cell 4
      simp only [List.getElem?_toArray, List.getElem?_cons_zero, List.getElem?_cons_succ] at a0 a1 a2 a4
      clear HS q0 q1 q2 q3 q4 pl b1
      go_upto_if 57 with fail
      go_cut [12, 13] from 35 to 173 (fun x12 x13 wx => ∃ x y : Int, x12 = .int .i64 x ∧ x13 = .int .i64 y ∧ -9223372036854775808 ≤ y ∧ y ≤ 9223372036854775807 ∧ wx = W1)
      case first =>
        cases nr with
        | true =>
          obtain ⟨x, hx, ex⟩ := mod_nat at_ 24 (by omega) (by omega)
          obtain ⟨y, hy, ey⟩ := mod_nat nn 8 (by omega) (by omega)
          simp only [Int.cast_ofNat_Int] at ex ey
          go_wp2_with fail
          go_meet
          exact ⟨x, y, rfl, rfl, by omega, by omega, rfl⟩
        | false =>
          go_wp2_with fail
          go_meet
          exact ⟨at_, nn, rfl, rfl, hn1, hn2, rfl⟩
      case rest =>
        obtain ⟨x, y, rfl, rfl, hy1, hy2, rfl⟩ := hcut
        clear a1 a2 a4
        obtain ⟨q, hq, eq⟩ := and7 kd
        go_upto_block 2 with fail
        clear eq
        go_cut [14, 15, 16, 17, 18, 19, 20, 21, 22] from 35 to 173 (fun x14 _ _ _ _ _ _ _ _ wx => PlaysMid w1.heap.size w1 d g m k x14 wx)
        case first =>
          by_cases h3 : q = 3
          · subst h3
            go_wp2_with fail
            refine (play_read pl1 x y hy2 hy1).mono ?_
            rintro e w4 ⟨rfl, rfl⟩
            go_wp2_with fail
            refine (play_rread pl1 x y hy2 hy1).mono ?_
            rintro e w5 ⟨rfl, pl5⟩
            go_wp2_with fail
            go_meet
            exact ⟨D, rfl, pl5, HDn.out, by omega⟩
          have f3 : ((q : Int) == 3) = false := by simp; omega
          by_cases h4 : q = 4
          · subst h4
            go_wp2_with fail
            refine (play_sync pl1).mono ?_
            rintro e w4 ⟨rfl, pl4⟩
            go_wp2_with fail
            refine (play_rsync pl4 rfl).mono ?_
            rintro e w5 ⟨rfl, pl5⟩
            go_wp2_with fail
            go_meet
            exact ⟨D.doSync, rfl, pl5, (Dsk.doSync_n D).1.trans HDn.out, by have := (Dsk.doSync_n D).2; omega⟩
          have f4 : ((q : Int) == 4) = false := by simp; omega
          by_cases h5 : q = 5
          · subst h5
            go_wp2_with fail
            refine (play_crash pl1 y hy1 hy2).mono ?_
            rintro e w4 ⟨rfl, pl4⟩
            go_wp2_with fail
            refine (play_rcrash y pl4 hy1 hy2).mono ?_
            rintro e w5 ⟨rfl, pl5⟩
            go_wp2_with fail
            go_meet
            exact ⟨D.crash y, rfl, pl5, HDn.out, by show 0 ≤ _; omega⟩
          have f5 : ((q : Int) == 5) = false := by simp; omega
          by_cases h6 : q = 6
          · subst h6
            go_wp2_with fail
            refine (play_break pl1 y hy1 hy2).mono ?_
            rintro e w4 ⟨rfl, pl4⟩
            go_wp2_with fail
            refine (play_rbreak y pl4 hy2).mono ?_
            rintro e w5 ⟨rfl, pl5⟩
            go_wp2_with fail
            go_meet
            exact ⟨D.brk y, rfl, pl5, HDn.out, by show D.pend.length ≤ _; omega⟩
          have f6 : ((q : Int) == 6) = false := by simp; omega
          by_cases h7 : q = 7
          · subst h7
            go_wp2_with fail
            refine (play_read pl1 0 (m : Int) (by omega) (by omega)).mono ?_
            rintro e w4 ⟨rfl, rfl⟩
            go_wp2_with fail
            refine (play_rread pl1 0 (m : Int) (by omega) (by omega)).mono ?_
            rintro e w5 ⟨rfl, pl5⟩
            go_wp2_with fail
            go_meet
            exact ⟨D, rfl, pl5, HDn.out, by omega⟩
          have f7 : ((q : Int) == 7) = false := by simp; omega
          · clear h3 h4 h5 h6 h7
            go_wp2_with fail
            refine (play_write pl1 x cs (by unfold maxLen; omega) (by omega)).mono ?_
            rintro e w4 ⟨rfl, pl4⟩
            go_wp2_with fail
            refine (play_rwrite pl4 x cs (by unfold maxLen; omega) (by omega) rfl).mono ?_
            rintro e w5 ⟨rfl, pl5⟩
            go_wp2_with fail
            go_meet
            exact ⟨D.doWrite x cs, rfl, pl5, (Dsk.doWrite_n D x cs).1.trans HDn.out, by have := (Dsk.doWrite_n D x cs).2; omega⟩
        case rest =>
          obtain ⟨D', rfl, pl5, hDn5, hDp5⟩ := hcut
          have HDn5 := Lib.hid hDn5
          clear hDn5 pl1 a0
          go_upto_region 35 with fail
          have HQ := Lib.hid (play_pending pl5.drew)
          have HQ2 := Lib.hid (fun (W : World) (h : Play w1.heap.size w1 W d g D' D') => play_rpending h)
          have HQ3 := Lib.hid (fun (W : World) (h : Play w1.heap.size w1 W d g D' D') => play_broken h)
          have HQ4 := Lib.hid (fun (W : World) (h : Play w1.heap.size w1 W d g D' D') => play_size h)
          rw [HDn5.out] at HQ4
          have S1 := pl5.cell
          have S0 := Lib.hid (fun (W : World) (h : Play w1.heap.size w1 W d g D' D') => h.cell)
          generalize (Dk.bytes D'.pend : Int) = nb at HQ HQ2
          generalize D'.broken = bk at S1 HQ3 S0
          cases bk
          · go_region_held3 (fun w' => w'.cell? ⟨g, 3, none⟩ = some (.bool false))
              (first | go_keep | (exact S2))
              (first
                | (go_at_call 23
                   refine HQ.out.mono ?_
                   rintro e w6 ⟨rfl, pl6⟩
                   have S2 := S0.out _ pl6)
                | (go_at_call 24
                   refine (HQ2.out _ pl6).mono ?_
                   rintro e w' ⟨rfl, rfl⟩)
                | (go_at_call 25
                   refine (HQ3.out _ pl6).mono ?_
                   rintro e w' ⟨rfl, rfl⟩)
                | (go_at_call 26
                   refine (HQ4.out _ pl6).mono ?_
                   rintro e w' ⟨rfl, rfl⟩))
            go_wp2_with fail
            go_roundw
            case rel => exact ⟨k + 1, by omega, by omega, by go_num, D', pl6, HDn5.out, hDp5⟩
            case measure => simp [intOf]; omega
          · go_region_held3 (fun w' => w'.cell? ⟨g, 3, none⟩ = some (.bool true))
              (first | go_keep | (exact S2))
              (first
                | (go_at_call 23
                   refine HQ.out.mono ?_
                   rintro e w6 ⟨rfl, pl6⟩
                   have S2 := S0.out _ pl6)
                | (go_at_call 24
                   refine (HQ2.out _ pl6).mono ?_
                   rintro e w' ⟨rfl, rfl⟩)
                | (go_at_call 25
                   refine (HQ3.out _ pl6).mono ?_
                   rintro e w' ⟨rfl, rfl⟩)
                | (go_at_call 26
                   refine (HQ4.out _ pl6).mono ?_
                   rintro e w' ⟨rfl, rfl⟩))
            go_wp2_with fail
            go_roundw
            case rel => exact ⟨k + 1, by omega, by omega, by go_num, D', pl6, HDn5.out, hDp5⟩
            case measure => simp [intOf]; omega
    · have HT := Lib.hid pl.bel
      by_cases h6 : k < n
      · obtain rfl : k = 60 := by omega
        go_wp2_with fail
        go_ret
        exact ⟨rfl, HB1.out.trans (HT.out.mono hz1)⟩
      · have h7 : n ≤ k := by omega
        go_wp2_with fail
        go_ret
        exact ⟨rfl, HB1.out.trans (HT.out.mono hz1)⟩

/-! ### The row -/
theorem contract (H : Type) (enc : TypeId × Value → H) (W : World) (base : Nat) (args : Array Value) (ds gs : List (DataW H)) (before : List MemPlace)
    (hval : ∀ (j : Nat) t v, Try.f3.params[j]? = some t → args[j]? = some v → Value.okWide Try.prog W .any base t v)
    (hW : DataW.Whole enc Try.prog Try.f3.params.toList Rows.diskPlaysSpec.vars false W args.toList ds gs before) :
    Calls Try.prog 3 args W fun e W' => ∃ v, e = .returned v ∧ Rows.diskPlaysSpec.post enc Try.prog Try.f3 false true false false W args v W' := by
  have hW' := hW
  obtain ⟨p, q, hA0, hV, rfl, hfz, hnd⟩ := hW
  have hA : DataW.TrodAll enc Try.prog W 0 (fun _ => true) true Try.f3.params.toList args.toList ds p := hA0
  rw [Try.params3] at hA hval
  obtain ⟨v0, vs0, d0, ds0, p0, q0, hargs, rfl, rfl, h0, r0⟩ := trodAll_cons hA
  obtain ⟨v1, vs1, d1, ds1, p1, q1, rfl, rfl, rfl, h1, r1⟩ := trodAll_cons r0
  obtain ⟨rfl, rfl, rfl⟩ := trodAll_nil r1
  obtain rfl : args = #[v0, v1] := by cases args; simp_all
  obtain ⟨rfl, rfl⟩ := trodVars_none hV
  refine law_contract (tb := 4) laidOut (by kernel_rfl) rfl (by kernel_rfl) Try.underlying4 rfl hW' ?_
  clear hA0 hW' hA
  obtain ⟨a0, rfl, rfl, rfl, w0⟩ := open_int Try.underlying3 (hval 0 3 v0 rfl rfl) h0
  obtain ⟨A, n, c, rfl, hn, hA⟩ := open_ops (hval 1 22 v1 rfl rfl) h1
  exact walk a0 A n c W hn hA

set_option maxRecDepth 100000 in
theorem lifted (os : Os) (started : os.Started) (H : Type) (enc : TypeId × Value → H) :
    ReturnsInHanded {} Try.checked os 3 .any (Rows.diskPlaysSpec.pre6 enc Try.prog Try.f3 Rows.diskPlaysRow.domain false) (Rows.diskPlaysSpec.post enc Try.prog Try.f3 false true false false) := by
  refine returnsInHanded_of_change (C := Try.checked) own started (by kernel_rfl) Try.func3
    (ChangeSpec.witness6 (enc := enc) (C := Try.checked) false ⟨#[], #[.int .i64 0, .slice none 0 0], []⟩ 8 (by kernel_rfl) (by kernel_rfl) (by kernel_rfl) (by kernel_rfl)) ?_
  intro W base args ds gs before hval hW _ _
  exact contract H enc W base args ds gs before hval hW

/-- THE STATEMENT. -/
theorem said : Rows.DiskPlaysSaid :=
  OpenClaim.holds_of_wide 3 Try.f3 rfl rfl rfl rfl rfl rfl rfl ⟨rfl, rfl, rfl, rfl, rfl⟩ rfl rfl rfl rfl rfl (by kernel_rfl) Try.func3 (by kernel_rfl)
    (of_decide_eq_true (by kernel_rfl)) (by unfold Func.isWrapper; first | (rw [if_pos (by decide +kernel)]; kernel_rfl) | (rw [if_neg (by decide +kernel)]; exact ⟨rfl, rfl⟩))
    (fun os started H enc _ => lifted os started H enc)
#print axioms said
end Go.Proofs.Ytlifaegmidgcnaa.diskPlays
