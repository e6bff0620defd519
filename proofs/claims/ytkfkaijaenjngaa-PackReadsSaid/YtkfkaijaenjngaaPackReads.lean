/-
  PackReads: any bytes are read, call by call, as the document's own reader does: for every text and every row of reads the statement's function returns true and changes nothing that was there. No condition.
-/
import Derived.Test.YtkfkaijaenjngaaPackV
import Derived.Test.YtkfkaijaenjngaaPackO
import Derived.Test.YtkfkaijaenjngaaPackT
import Derived.Deep.RegionHeld3
import Derived.Deep.CutRange
import Derived.Deep.CutBlock
namespace Go.Proofs.Ytkfkaijaenjngaa.packReads
open Go.ChangeShapes Go.WideShapes Go.ChangeAt Go.RowKit
open Go.ChangeMaps (open_string shut_string)

theorem cellsCall : Try.prog.cellsOf 49 = 4 := by kernel_rfl
/-- One read of the script, as cells of its element. -/
def CallAt (W : World) (p : Addr) (kd : Int) (mo : Nat) (sz mn : Int) : Prop :=
  W.cell? p = some (.int .i64 kd) ∧ W.cell? ⟨p.block, p.off + 1, none⟩ = some (.int .u64 (mo : Int)) ∧ W.cell? ⟨p.block, p.off + 2, none⟩ = some (.int .i64 sz) ∧ W.cell? ⟨p.block, p.off + 3, none⟩ = some (.int .i64 mn)
def CallOk (mo : Nat) (sz mn : Int) : Prop := mo ≤ 18446744073709551615 ∧ -9223372036854775808 ≤ sz ∧ sz ≤ 9223372036854775807 ∧ -9223372036854775808 ≤ mn ∧ mn ≤ 9223372036854775807
theorem open_calls {H : Type} {enc : TypeId × Value → H} {W : World} {base r0 : Nat} {held : Bool} {r : Reach} {v : Value} {d : DataW H} {ps : List MemPlace}
    (hv : Value.okWide Try.prog W r r0 41 v) (h : DataW.Trod enc Try.prog W base (fun _ => true) held 41 v d ps) :
    ∃ (A : Option Addr) (n c : Nat), v = .slice A n c ∧ n ≤ maxLen ∧ ∀ i, i < n → ∃ a kd mo sz mn, A = some a ∧ a.block < W.heap.size ∧ CallAt W (a.add (i * 4)) kd mo sz mn ∧ CallOk mo sz mn := by
  obtain ⟨A, n, c, rfl, hn, hel⟩ := open_rows Try.underlying41 cellsCall (by omega) hv h
  refine ⟨A, n, c, rfl, hn, fun i hi => ?_⟩
  obtain ⟨a, cs, fuel, x, hA, hb, hl, hc, htr⟩ := hel i hi
  obtain ⟨xs, m, _, _, _, hxl, hf⟩ := DataW.trod_struct Try.underlying49 htr
  match cs, hl, xs, hxl with
  | [c0, c1, c2, c3], _, [x0, x1, x2, x3], _ =>
    obtain ⟨kd, e0, _, _⟩ := DataW.trod_int Try.underlying3 (hf 0 _ rfl)
    obtain ⟨mo, e1, _, w1⟩ := DataW.trod_int Try.underlying33 (hf 1 _ rfl)
    obtain ⟨sz, e2, _, w2⟩ := DataW.trod_int Try.underlying3 (hf 2 _ rfl)
    obtain ⟨mn, e3, _, w3⟩ := DataW.trod_int Try.underlying3 (hf 3 _ rfl)
    have f0 : c0 = .int .i64 kd := by have := congrArg List.head? e0; simpa [cellsInt] using this
    have f1 : c1 = .int .u64 mo := by have := congrArg List.head? e1; simpa [cellsU64] using this
    have f2 : c2 = .int .i64 sz := by have := congrArg List.head? e2; simpa [cellsInt] using this
    have f3 : c3 = .int .i64 mn := by have := congrArg List.head? e3; simpa [cellsInt] using this
    subst f0 f1 f2 f3
    obtain ⟨mo, rfl, b1⟩ := bounds_u64 w1
    have b2 := bounds_int w2
    have b3 := bounds_int w3
    exact ⟨a, kd, mo, sz, mn, hA, hb, ⟨hc 0 (by omega), hc 1 (by omega), hc 2 (by omega), hc 3 (by omega)⟩, b1, b2.1, b2.2, b3.1, b3.2⟩
theorem CallAt.below {W w : World} {B : Nat} {p : Addr} {kd : Int} {mo : Nat} {sz mn : Int} (h : CallAt W p kd mo sz mn) (hb : Below B W w) (hp : p.block < B) : CallAt w p kd mo sz mn := by
  obtain ⟨h0, h1, h2, h3⟩ := h
  exact ⟨(hb.cell hp).trans h0, (hb.cell (p := ⟨p.block, p.off + 1, none⟩) hp).trans h1, (hb.cell (p := ⟨p.block, p.off + 2, none⟩) hp).trans h2, (hb.cell (p := ⟨p.block, p.off + 3, none⟩) hp).trans h3⟩

/-- The program's reader and the document's, alike; block s lies beside them. -/
structure Pair (w0 w : World) (a b : Nat) (st : Option ByteArray) : Prop where
  atA : RdAt 62 w a st
  atB : RdAt 47 w b st
  ne : a ≠ b
  bel : Below w0.heap.size w0 w
  la : w0.heap.size ≤ a
  lb : w0.heap.size ≤ b
section
variable {w0 w w' w'' : World} {a b : Nat} {st st' : Option ByteArray}
theorem Pair.after (h : Pair w0 w a b st) (hb : Below w.heap.size w w') : Pair w0 w' a b st :=
  ⟨h.atA.below hb, h.atB.below hb, h.ne, h.bel.trans (hb.mono h.bel.size), h.la, h.lb⟩
theorem Pair.drew (h : Pair w0 w a b st) : Pair w0 w.drew a b st := h.after ((Below.refl _ w).drew)
theorem Pair.both (h : Pair w0 w a b st) (h1 : RdAt 62 w' a st') (k1 : Kept (· = a) w w') (h2 : RdAt 47 w'' b st') (k2 : Kept (· = b) w' w'') : Pair w0 w'' a b st' :=
  ⟨h1.kept k2 h.ne, h2, h.ne, Kept.below (Kept.below h.bel k1 (fun k hk => by rw [hk]; exact h.la) h.bel.size) k2 (fun k hk => by rw [hk]; exact h.lb) (Nat.le_trans h.bel.size k1.size), h.la, h.lb⟩
/-- The document's reader behind the program's call. -/
theorem Pair.next (h : Pair w0 w a b st) (k1 : Kept (· = a) w w') : RdAt 47 w' b st := h.atB.kept k1 (fun e => h.ne e.symm)
end
theorem rtexts_len (most : Int) : ∀ (n : Nat) (l : List UInt8) (x : List (List UInt8)) (q : List UInt8), Pk.rtexts most n l = some (x, q) → x.length = n
  | 0, l, x, q, h => by
    simp only [Pk.rtexts, Option.some.injEq, Prod.mk.injEq] at h
    rw [← h.1]
    rfl
  | n + 1, l, x, q, h => by
    rw [rtexts_succ] at h
    cases ht : Pk.rtext most l with
    | none => rw [ht] at h; cases h
    | some p =>
      obtain ⟨t, r⟩ := p
      rw [ht] at h
      simp only at h
      cases hr : Pk.rtexts most n r with
      | none => rw [hr] at h; cases h
      | some p2 =>
        obtain ⟨ts, r'⟩ := p2
        rw [hr] at h
        simp only [Option.some.injEq, Prod.mk.injEq] at h
        rw [← h.1, List.length_cons, rtexts_len most n r ts r' hr]
theorem rRow_len (many most : Int) {st : Option ByteArray} (hst : ∀ s, st = some s → s.size ≤ 1000000) : (rRow many most st).1.length ≤ 1000000 := by
  cases st with
  | none => exact Nat.zero_le _
  | some s =>
    have hs := hst s rfl
    rw [rRow_count]
    cases hc : rCount many (some s) with
    | mk n st1 =>
      cases st1 with
      | none => exact Nat.zero_le _
      | some r =>
        simp only
        unfold rowOf
        cases hr : Pk.rtexts most n r.data.toList with
        | none => exact Nat.zero_le _
        | some p =>
          obtain ⟨x, q⟩ := p
          have h1 := rtexts_len most n _ x q hr
          have h2 := rCount_le many s hc
          have h3 : r.size ≤ s.size := by
            unfold rCount at hc
            simp only at hc
            by_cases h0 : many < 0
            · rw [if_pos h0] at hc; cases hc
            · rw [if_neg h0] at hc
              cases hd : Pk.dec many.toNat 0 0 s.data.toList with
              | none => rw [hd] at hc; cases hc
              | some p =>
                obtain ⟨v, z⟩ := p
                rw [hd] at hc
                have h4 := Pk.dec_rest hd
                have e : s.data.toList.length = s.size := by simp
                simp only at hc
                by_cases hv : v ≤ z.length
                · rw [if_pos hv] at hc
                  injection hc with _ e2
                  injection e2 with e2
                  rw [← e2, ba_size]
                  omega
                · rw [if_neg hv] at hc; cases hc
          simp only [List.length_map]
          omega
theorem tmod3 (kd : Int) : kd.tmod 3 = 1 ∨ kd.tmod 3 = -1 ∨ kd.tmod 3 = 2 ∨ kd.tmod 3 = -2 ∨ kd.tmod 3 = 0 := by
  rcases Int.le_total 0 kd with h | h
  · rw [Int.tmod_eq_emod_of_nonneg h]
    omega
  · have e : kd.tmod 3 = -((-kd).tmod 3) := by rw [Int.neg_tmod, Int.neg_neg]
    rw [e, Int.tmod_eq_emod_of_nonneg (show 0 ≤ -kd by omega)]
    omega

set_option maxRecDepth 100000 in
set_option maxHeartbeats 8000000 in
theorem walk (s : ByteArray) (A : Option Addr) (n c : Nat) (w : World) (hs : s.size ≤ maxLen) (hn : n ≤ maxLen)
    (hA : ∀ i, i < n → ∃ a kd mo sz mn, A = some a ∧ a.block < w.heap.size ∧ CallAt w (a.add (i * 4)) kd mo sz mn ∧ CallOk mo sz mn) :
    Calls Try.prog 4 #[.string s, .slice A n c] w fun e w' => e = .returned (.bool true) ∧ Below w.heap.size w w' := by
  have HC := Lib.hid (fun W => short_any s 90 hs W)
  have hcs := cut_size s 90
  generalize cut s 90 = t at HC hcs
  unfold maxLen at hn
  have HA := Lib.hid hA
  clear hs hA
  go_enter Try.func4, Try.ntmps4
  go_wp2_with fail
  refine (awake_any _).mono ?_
  rintro e w1 ⟨rfl, hb1⟩
  have HB1 := Lib.hid hb1
  clear hb1
  go_wp2_with fail
  refine (HC.out w1).mono ?_
  rintro e w' ⟨rfl, rfl⟩
  clear HC
  go_wp2_with fail
  refine (read_any w1 t (by omega)).mono ?_
  rintro e w2 ⟨rfl, hr2, hb2, hz2⟩
  have HP : Hid (Pair w1 (w2.alloc (.cells #[.string t, .bool false] 47)) w1.heap.size w2.heap.size (some t)) := Lib.hid
    ⟨hr2.below ((Below.refl _ w2).alloc (Nat.le_refl _) _), ⟨Blk.new w2 _ _, fun x hx => by injection hx with hx; subst hx; omega⟩, by omega, hb2.alloc hb2.size _, by omega, by omega⟩
  have hab : w1.heap.size < w2.heap.size := by omega
  clear hr2 hb2 hz2
  go_wp2_with fail
  generalize w1.heap.size = a at HP hab ⊢
  generalize w2.heap.size = b at HP hab ⊢
  go_loopw [8] (fun x wr => ∃ k : Nat, k ≤ n ∧ k ≤ 12 ∧ x = .int .i64 (k : Int) ∧ ∃ st, Pair w1 wr a b st) (fun i _ => 12 - (intOf i).toNat)
  case atStart => exact ⟨0, by omega, by omega, rfl, _, HP.out⟩
  case round =>
    clear HP
    obtain ⟨k, hk, hk12, rfl, st, pr⟩ := hrel
    by_cases hlt : k < n ∧ k < 12
    · obtain ⟨hlt1, hlt2⟩ := hlt
      obtain ⟨x, kd, mo, sz, mn, rfl, hxb, hca, hmo, hsz1, hsz2, hmn1, hmn2⟩ := HA.out k hlt1
      have hca1 := (hca.below HB1.out (by rw [addr_block]; omega)).below pr.bel (by rw [addr_block]; have := HB1.out.size; omega)
      obtain ⟨q0, q1, q2, q3⟩ := hca1
      clear hca
      have hca1' := pr.atA.blk.lt
      have hcb1' := pr.atB.blk.lt
      have b1 := Blk.new wr 49 #[.int .i64 kd, .int .u64 (mo : Int), .int .i64 sz, .int .i64 mn]
      have pr1 := pr.after ((Below.refl _ wr).alloc (Nat.le_refl _) (.cells #[.int .i64 kd, .int .u64 (mo : Int), .int .i64 sz, .int .i64 mn] 49))
      have HB0 := Lib.hid b1
      have HP1 := Lib.hid pr1
      clear b1 pr1 pr
      go_upto_block 2 with fail
      clear q0 q1 q2 q3
      generalize wr.alloc (.cells #[.int .i64 kd, .int .u64 (mo : Int), .int .i64 sz, .int .i64 mn] 49) = W1 at HB0 HP1 ⊢
      generalize wr.heap.size = bb at HB0 hca1' hcb1' ⊢
      have HC0 : Hid (W1.cell? ⟨bb, 2, none⟩ = some (.int .i64 sz)) := Lib.hid (HB0.out.cell 2)
      have HC1 : Hid (W1.cell? ⟨bb, 1, none⟩ = some (.int .u64 (mo : Int))) := Lib.hid (HB0.out.cell 1)
      have HC3 : Hid (W1.cell? ⟨bb, 3, none⟩ = some (.int .i64 mn)) := Lib.hid (HB0.out.cell 3)
      have HcA := Lib.hid (fun (W : World) (hk : Kept (· = a) W1.drew W) => HB0.out.drew.of (hk.block bb HB0.out.lt (by omega)))
      have HcB := Lib.hid (fun (W W' : World) (hk : Kept (· = a) W1.drew W) (hk' : Kept (· = b) W W') => (HcA.out W hk).of (hk'.block bb (HcA.out W hk).lt (by omega)))
      have HT1 := Lib.hid (rtext_any HP1.out.drew.atA sz hsz1 hsz2)
      have HT2 := Lib.hid (fun (W : World) (hk : Kept (· = a) W1.drew W) => reftextr_any (HP1.out.drew.next hk) sz hsz1 hsz2)
      have HN1 := Lib.hid (rnum_any HP1.out.drew.atA mo hmo)
      have HN2 := Lib.hid (fun (W : World) (hk : Kept (· = a) W1.drew W) => refnumr_any (HP1.out.drew.next hk) mo hmo)
      have HR1 := Lib.hid (rrow_any HP1.out.drew.atA mn sz hmn1 hmn2 hsz1 hsz2)
      have HR2 := Lib.hid (fun (W : World) (hk : Kept (· = a) W1.drew W) => refrowr_any (HP1.out.drew.next hk) mn sz hmn1 hmn2 hsz1 hsz2)
      have hbW : b < W1.drew.heap.size := HP1.out.drew.atB.blk.lt
      have HSm := Lib.hid (fun (W W' : World) (A6 A7 : Option Addr) (c6 c7 : Nat) (ho6 : W.ownsRow W1.drew.heap.size 9 1 (.slice A6 (rRow mn sz st).1.length c6) (rRow mn sz st).1.length (cs (rRow mn sz st).1)) (_ : Kept (· = a) W1.drew W)
          (ho7 : W'.ownsRow W.heap.size 9 1 (.slice A7 (rRow mn sz st).1.length c7) (rRow mn sz st).1.length (cs (rRow mn sz st).1)) (hk7 : Kept (· = b) W W') => by
        have h1 : Lies (· = b) W A6 (cs (rRow mn sz st).1) := Lies.own (c := c6) ho6 (fun g _ hg hf => by omega)
        have h2 := same_any W' A6 A7 c6 c7 _ _ (rRow_len mn sz HP1.out.atA.le) (rRow_len mn sz HP1.out.atA.le) ((h1.kept hk7).mono (fun _ _ hf => hf.elim)) (Lies.own (c := c7) ho7 (fun _ _ _ hf => hf))
        rw [decide_eq_true rfl] at h2
        exact h2)
      clear HB0 hbW
      go_cut [10] from 21 to 101 (fun x10 wx => x10 = .bool true ∧ ∃ st', Pair w1 wx a b st')
      case first =>
        rcases tmod3 kd with h3 | h3 | h3 | h3 | h3
        · rw [h3]
          clear h3
          clear HN1 HN2 HR1 HR2 HSm HC1 HC3
          generalize rText sz st = p at HT1 HT2
          obtain ⟨X, st1⟩ := p
          simp only at HT1 HT2
          go_wp2_with fail
          have S1 := HC0.out
          go_region_held3 (fun w' => w'.cell? ⟨bb, 2, none⟩ = some (.int .i64 sz))
            (first | go_keep | (exact S2) | (exact S3))
            (first
              | (go_at_call 20
                 refine HT1.out.mono ?_
                 rintro e w6 ⟨rfl, hr6, hk6⟩
                 have S2 : w6.cell? ⟨bb, 2, none⟩ = some (.int .i64 sz) := (HcA.out _ hk6).cell 2)
              | (go_at_call 21
                 refine (HT2.out _ hk6).mono ?_
                 rintro e w7 ⟨rfl, hr7, hk7⟩
                 have S3 : w7.cell? ⟨bb, 2, none⟩ = some (.int .i64 sz) := (HcB.out _ _ hk6 hk7).cell 2))
          go_wp2_with fail
          go_meet
          exact ⟨rfl, _, HP1.out.drew.both hr6 hk6 hr7 hk7⟩
        · rw [h3]
          clear h3
          clear HN1 HN2 HR1 HR2 HSm HC1 HC3
          generalize rText sz st = p at HT1 HT2
          obtain ⟨X, st1⟩ := p
          simp only at HT1 HT2
          go_wp2_with fail
          have S1 := HC0.out
          go_region_held3 (fun w' => w'.cell? ⟨bb, 2, none⟩ = some (.int .i64 sz))
            (first | go_keep | (exact S2) | (exact S3))
            (first
              | (go_at_call 20
                 refine HT1.out.mono ?_
                 rintro e w6 ⟨rfl, hr6, hk6⟩
                 have S2 : w6.cell? ⟨bb, 2, none⟩ = some (.int .i64 sz) := (HcA.out _ hk6).cell 2)
              | (go_at_call 21
                 refine (HT2.out _ hk6).mono ?_
                 rintro e w7 ⟨rfl, hr7, hk7⟩
                 have S3 : w7.cell? ⟨bb, 2, none⟩ = some (.int .i64 sz) := (HcB.out _ _ hk6 hk7).cell 2))
          go_wp2_with fail
          go_meet
          exact ⟨rfl, _, HP1.out.drew.both hr6 hk6 hr7 hk7⟩
        · rw [h3]
          clear h3
          clear HN1 HN2 HT1 HT2 HC1
          generalize rRow mn sz st = p at HR1 HR2 HSm
          obtain ⟨L, st1⟩ := p
          simp only at HR1 HR2 HSm
          go_wp2_with fail
          have S1 := HC0.out
          have S1' := HC3.out
          go_region_held3 (fun w' => w'.cell? ⟨bb, 2, none⟩ = some (.int .i64 sz) ∧ w'.cell? ⟨bb, 3, none⟩ = some (.int .i64 mn))
            (first | go_keep | (exact S2) | (exact S3) | (exact S4))
            (first
              | (go_at_call 23
                 refine HR1.out.mono ?_
                 rintro e w6 ⟨A6, c6, rfl, ho6, hr6, hk6⟩
                 have S2 : w6.cell? ⟨bb, 2, none⟩ = some (.int .i64 sz) ∧ w6.cell? ⟨bb, 3, none⟩ = some (.int .i64 mn) := ⟨(HcA.out _ hk6).cell 2, (HcA.out _ hk6).cell 3⟩)
              | (go_at_call 24
                 refine (HR2.out _ hk6).mono ?_
                 rintro e w7 ⟨A7, c7, rfl, ho7, hr7, hk7⟩
                 have S3 : w7.cell? ⟨bb, 2, none⟩ = some (.int .i64 sz) ∧ w7.cell? ⟨bb, 3, none⟩ = some (.int .i64 mn) := ⟨(HcB.out _ _ hk6 hk7).cell 2, (HcB.out _ _ hk6 hk7).cell 3⟩)
              | (go_at_call 22
                 refine (HSm.out _ _ _ _ _ _ ho6 hk6 ho7 hk7).mono ?_
                 rintro e w8 ⟨rfl, hb8⟩
                 have S4 : w8.cell? ⟨bb, 2, none⟩ = some (.int .i64 sz) ∧ w8.cell? ⟨bb, 3, none⟩ = some (.int .i64 mn) := And.intro ((hb8.cell (p := ⟨bb, 2, none⟩) (HcB.out _ _ hk6 hk7).lt).trans S3.1) ((hb8.cell (p := ⟨bb, 3, none⟩) (HcB.out _ _ hk6 hk7).lt).trans S3.2)))
          go_wp2_with fail
          go_meet
          exact ⟨rfl, _, (HP1.out.drew.both hr6 hk6 hr7 hk7).after hb8⟩
        · rw [h3]
          clear h3
          clear HN1 HN2 HT1 HT2 HC1
          generalize rRow mn sz st = p at HR1 HR2 HSm
          obtain ⟨L, st1⟩ := p
          simp only at HR1 HR2 HSm
          go_wp2_with fail
          have S1 := HC0.out
          have S1' := HC3.out
          go_region_held3 (fun w' => w'.cell? ⟨bb, 2, none⟩ = some (.int .i64 sz) ∧ w'.cell? ⟨bb, 3, none⟩ = some (.int .i64 mn))
            (first | go_keep | (exact S2) | (exact S3) | (exact S4))
            (first
              | (go_at_call 23
                 refine HR1.out.mono ?_
                 rintro e w6 ⟨A6, c6, rfl, ho6, hr6, hk6⟩
                 have S2 : w6.cell? ⟨bb, 2, none⟩ = some (.int .i64 sz) ∧ w6.cell? ⟨bb, 3, none⟩ = some (.int .i64 mn) := ⟨(HcA.out _ hk6).cell 2, (HcA.out _ hk6).cell 3⟩)
              | (go_at_call 24
                 refine (HR2.out _ hk6).mono ?_
                 rintro e w7 ⟨A7, c7, rfl, ho7, hr7, hk7⟩
                 have S3 : w7.cell? ⟨bb, 2, none⟩ = some (.int .i64 sz) ∧ w7.cell? ⟨bb, 3, none⟩ = some (.int .i64 mn) := ⟨(HcB.out _ _ hk6 hk7).cell 2, (HcB.out _ _ hk6 hk7).cell 3⟩)
              | (go_at_call 22
                 refine (HSm.out _ _ _ _ _ _ ho6 hk6 ho7 hk7).mono ?_
                 rintro e w8 ⟨rfl, hb8⟩
                 have S4 : w8.cell? ⟨bb, 2, none⟩ = some (.int .i64 sz) ∧ w8.cell? ⟨bb, 3, none⟩ = some (.int .i64 mn) := And.intro ((hb8.cell (p := ⟨bb, 2, none⟩) (HcB.out _ _ hk6 hk7).lt).trans S3.1) ((hb8.cell (p := ⟨bb, 3, none⟩) (HcB.out _ _ hk6 hk7).lt).trans S3.2)))
          go_wp2_with fail
          go_meet
          exact ⟨rfl, _, (HP1.out.drew.both hr6 hk6 hr7 hk7).after hb8⟩
        · rw [h3]
          clear h3
          clear HT1 HT2 HR1 HR2 HSm HC0 HC3
          generalize rNum mo st = p at HN1 HN2
          obtain ⟨v, st1⟩ := p
          simp only at HN1 HN2
          go_wp2_with fail
          have S1 := HC1.out
          go_region_held3 (fun w' => w'.cell? ⟨bb, 1, none⟩ = some (.int .u64 (mo : Int)))
            (first | go_keep | (exact S2) | (exact S3))
            (first
              | (go_at_call 25
                 refine HN1.out.mono ?_
                 rintro e w6 ⟨rfl, hr6, hk6⟩
                 have S2 : w6.cell? ⟨bb, 1, none⟩ = some (.int .u64 (mo : Int)) := (HcA.out _ hk6).cell 1)
              | (go_at_call 26
                 refine (HN2.out _ hk6).mono ?_
                 rintro e w7 ⟨rfl, hr7, hk7⟩
                 have S3 : w7.cell? ⟨bb, 1, none⟩ = some (.int .u64 (mo : Int)) := (HcB.out _ _ hk6 hk7).cell 1))
          go_wp2_with fail
          go_meet
          exact ⟨rfl, _, HP1.out.drew.both hr6 hk6 hr7 hk7⟩
      case rest =>
        obtain ⟨rfl, st', pr⟩ := hcut
        clear HC0 HC1 HC3 HcA HcB HT1 HT2 HN1 HN2 HR1 HR2 HSm HP1
        have HG := Lib.hid (good_any pr.drew.atA)
        have HE := Lib.hid (end_any pr.drew.atA)
        have HEb := Lib.hid (refend_any pr.drew.atB)
        have HRs := Lib.hid (rest_any pr.drew.atA)
        have HPr := Lib.hid pr.drew
        have B0 := pr.atB.blk.cell 0
        have B1 := pr.atB.blk.cell 1
        clear pr
        cases st' with
        | none =>
          simp only [rd, List.getElem?_toArray, List.getElem?_cons_zero, List.getElem?_cons_succ] at B0 B1
          rw [show endB none = false from rfl] at HE HEb
          rw [show (none : Option ByteArray).getD ⟨#[]⟩ = ⟨#[]⟩ from rfl] at HRs
          rw [show (none : Option ByteArray).isSome = false from rfl] at HG
          have S2 : wc.cell? ⟨b, 0, none⟩ = some (.string ⟨#[]⟩) ∧ wc.cell? ⟨b, 1, none⟩ = some (.bool true) := ⟨B0, B1⟩
          go_wp2_with fail
          go_region_held3 (fun w' => w'.cell? ⟨b, 0, none⟩ = some (.string ⟨#[]⟩) ∧ w'.cell? ⟨b, 1, none⟩ = some (.bool true))
            (first | go_keep | (exact S2))
            (first
              | (go_at_call 27
                 refine HG.out.mono ?_
                 rintro e w6 ⟨rfl, rfl⟩)
              | (go_at_call 28
                 refine HE.out.mono ?_
                 rintro e w6 ⟨rfl, rfl⟩)
              | (go_at_call 29
                 refine HEb.out.mono ?_
                 rintro e w6 ⟨rfl, rfl⟩)
              | (go_at_call 30
                 refine HRs.out.mono ?_
                 rintro e w6 ⟨rfl, rfl⟩))
          go_wp2_with fail
          go_roundw
          case rel => exact ⟨k + 1, by omega, by omega, by go_num, _, HPr.out⟩
          case measure => simp [intOf]; omega
        | some u =>
          simp only [rd, List.getElem?_toArray, List.getElem?_cons_zero, List.getElem?_cons_succ] at B0 B1
          rw [show (some u).getD ⟨#[]⟩ = u from rfl] at HRs
          rw [show (some u).isSome = true from rfl] at HG
          have S2 : wc.cell? ⟨b, 0, none⟩ = some (.string u) ∧ wc.cell? ⟨b, 1, none⟩ = some (.bool false) := ⟨B0, B1⟩
          generalize endB (some u) = eb at HE HEb
          cases eb with
          | true =>
            go_wp2_with fail
            go_region_held3 (fun w' => w'.cell? ⟨b, 0, none⟩ = some (.string u) ∧ w'.cell? ⟨b, 1, none⟩ = some (.bool false))
              (first | go_keep | (exact S2))
              (first
                | (go_at_call 27
                   refine HG.out.mono ?_
                   rintro e w6 ⟨rfl, rfl⟩)
                | (go_at_call 28
                   refine HE.out.mono ?_
                   rintro e w6 ⟨rfl, rfl⟩)
                | (go_at_call 29
                   refine HEb.out.mono ?_
                   rintro e w6 ⟨rfl, rfl⟩)
                | (go_at_call 30
                   refine HRs.out.mono ?_
                   rintro e w6 ⟨rfl, rfl⟩))
            go_wp2_with fail
            go_roundw
            case rel => exact ⟨k + 1, by omega, by omega, by go_num, _, HPr.out⟩
            case measure => simp [intOf]; omega
          | false =>
            go_wp2_with fail
            go_region_held3 (fun w' => w'.cell? ⟨b, 0, none⟩ = some (.string u) ∧ w'.cell? ⟨b, 1, none⟩ = some (.bool false))
              (first | go_keep | (exact S2))
              (first
                | (go_at_call 27
                   refine HG.out.mono ?_
                   rintro e w6 ⟨rfl, rfl⟩)
                | (go_at_call 28
                   refine HE.out.mono ?_
                   rintro e w6 ⟨rfl, rfl⟩)
                | (go_at_call 29
                   refine HEb.out.mono ?_
                   rintro e w6 ⟨rfl, rfl⟩)
                | (go_at_call 30
                   refine HRs.out.mono ?_
                   rintro e w6 ⟨rfl, rfl⟩))
            go_wp2_with fail
            go_roundw
            case rel => exact ⟨k + 1, by omega, by omega, by go_num, _, HPr.out⟩
            case measure => simp [intOf]; omega
    · have HT := Lib.hid pr.bel
      by_cases h6 : k < n
      · obtain rfl : k = 12 := by omega
        go_wp2_with fail
        go_ret
        exact ⟨rfl, HB1.out.trans (HT.out.mono HB1.out.size)⟩
      · have h7 : n ≤ k := by omega
        go_wp2_with fail
        go_ret
        exact ⟨rfl, HB1.out.trans (HT.out.mono HB1.out.size)⟩

/-! ### The row -/
theorem contract (H : Type) (enc : TypeId × Value → H) (W : World) (base : Nat) (args : Array Value) (ds gs : List (DataW H)) (before : List MemPlace)
    (hval : ∀ (j : Nat) t v, Try.f4.params[j]? = some t → args[j]? = some v → Value.okWide Try.prog W .any base t v)
    (hW : DataW.Whole enc Try.prog Try.f4.params.toList Rows.packReadsSpec.vars false W args.toList ds gs before) :
    Calls Try.prog 4 args W fun e W' => ∃ v, e = .returned v ∧ Rows.packReadsSpec.post enc Try.prog Try.f4 false true false false W args v W' := by
  have hW' := hW
  obtain ⟨p, q, hA0, hV, rfl, hfz, hnd⟩ := hW
  have hA : DataW.TrodAll enc Try.prog W 0 (fun _ => true) true Try.f4.params.toList args.toList ds p := hA0
  rw [Try.params4] at hA hval
  obtain ⟨v0, vs0, d0, ds0, p0, q0, hargs, rfl, rfl, h0, r0⟩ := trodAll_cons hA
  obtain ⟨v1, vs1, d1, ds1, p1, q1, rfl, rfl, rfl, h1, r1⟩ := trodAll_cons r0
  obtain ⟨rfl, rfl, rfl⟩ := trodAll_nil r1
  obtain rfl : args = #[v0, v1] := by cases args; simp_all
  obtain ⟨rfl, rfl⟩ := trodVars_none hV
  refine law_contract (tb := 4) laidOut (by kernel_rfl) rfl (by kernel_rfl) Try.underlying4 rfl hW' ?_
  clear hA0 hW' hA
  obtain ⟨a0, rfl, _, _, w0⟩ := open_string Try.underlying9 (hval 0 9 v0 rfl rfl) h0
  obtain ⟨A, n, c, rfl, hn, hA⟩ := open_calls (hval 1 41 v1 rfl rfl) h1
  exact walk a0 A n c W (by simpa [Lit.wf] using w0) hn hA

set_option maxRecDepth 100000 in
theorem lifted (os : Os) (started : os.Started) (H : Type) (enc : TypeId × Value → H) :
    ReturnsInHanded {} Try.checked os 4 .any (Rows.packReadsSpec.pre6 enc Try.prog Try.f4 Rows.packReadsRow.domain false) (Rows.packReadsSpec.post enc Try.prog Try.f4 false true false false) := by
  refine returnsInHanded_of_change (C := Try.checked) own started (by kernel_rfl) Try.func4
    (ChangeSpec.witness6 (enc := enc) (C := Try.checked) false ⟨#[], #[.string ⟨#[]⟩, .slice none 0 0], []⟩ 8 (by kernel_rfl) (by kernel_rfl) (by kernel_rfl) (by kernel_rfl)) ?_
  intro W base args ds gs before hval hW _ _
  exact contract H enc W base args ds gs before hval hW

/-- THE STATEMENT. -/
theorem said : Rows.PackReadsSaid :=
  OpenClaim.holds_of_wide 4 Try.f4 rfl rfl rfl rfl rfl rfl rfl ⟨rfl, rfl, rfl, rfl, rfl⟩ rfl rfl rfl rfl rfl (by kernel_rfl) Try.func4 (by kernel_rfl)
    (of_decide_eq_true (by kernel_rfl)) (by unfold Func.isWrapper; first | (rw [if_pos (by decide +kernel)]; kernel_rfl) | (rw [if_neg (by decide +kernel)]; exact ⟨rfl, rfl⟩))
    (fun os started H enc _ => lifted os started H enc)
#print axioms said
end Go.Proofs.Ytkfkaijaenjngaa.packReads
