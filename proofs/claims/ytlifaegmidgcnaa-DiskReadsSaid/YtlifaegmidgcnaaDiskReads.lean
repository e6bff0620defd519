/-
  DiskReads: what was written is read, whether it was synced or not; what stands beside it stays: for every three texts, three numbers and a number the statement's function returns true and changes nothing that was there. No condition.
-/
import Derived.Test.YtlifaegmidgcnaaDiskG
import Derived.Test.YtlifaegmidgcnaaDiskT
namespace Go.Proofs.Ytlifaegmidgcnaa.diskReads
open Go.ChangeShapes Go.WideShapes Go.ChangeAt Go.RowKit
open Go.ChangeMaps (open_string shut_string)

/-- AN ARRAY OF TEXTS BY VALUE, OPENED. -/
theorem open_array_str {H : Type} {enc : TypeId × Value → H} {P : Program} {W : World} {base r0 : Nat} {spare : Nat → Bool} {held : Bool} {r : Reach} {t e : TypeId} {n : Nat} {v : Value} {d : DataW H} {ps : List MemPlace}
    (ht : P.underlying t = some (.array n e)) (he : P.underlying e = some .string) (hce : P.cellsOf e = 1) (hct : P.cellsOf t = n)
    (hv : Value.okWide P W r r0 t v) (h : DataW.Trod enc P W base spare held t v d ps) :
    ∃ ss : List ByteArray, v = .agg (ss.map Value.string).toArray ∧ ss.length = n ∧ ∀ s ∈ ss, s.size ≤ maxLen := by
  obtain ⟨cs, rfl, hsz⟩ : ∃ cs, v = .agg cs ∧ cs.size = P.cellsOf t := by
    have h' : ∃ cs, v = .agg cs ∧ cs.size = P.cellsOf t ∧ Row.okWide P W r r0 t cs := by simpa [Value.okWide, ht] using hv
    obtain ⟨cs, h1, h2, _⟩ := h'
    exact ⟨cs, h1, h2⟩
  obtain ⟨fuel, hf⟩ := h
  obtain ⟨xs, m, _, _, _, hl, hel⟩ := DataW.trod_array ht hf
  rw [hct] at hsz
  have key : ∀ i, (hi : i < n) → ∃ s : ByteArray, cs[i]? = some (.string s) ∧ s.size ≤ maxLen := by
    intro i hi
    have h1 := hel i hi
    obtain ⟨y, hy⟩ : ∃ y, xs[i]? = some y := ⟨xs[i]'(by omega), by simp [hl, hi]⟩
    rw [hy] at h1
    obtain ⟨s, e1, _, ws⟩ := DataW.trod_string he h1
    refine ⟨s, ?_, ws⟩
    rw [hce, Nat.mul_one] at e1
    have := congrArg (·[0]?) e1
    simpa [List.getElem?_take, List.getElem?_drop, Value.cells] using this
  let tx : Value → ByteArray := fun v => match v with | .string s => s | _ => ⟨#[]⟩
  refine ⟨cs.toList.map tx, ?_, by simp [hsz], ?_⟩
  · congr 1
    apply Array.ext_getElem?
    intro i
    by_cases hi : i < n
    · obtain ⟨s, hs, _⟩ := key i hi
      simp [hs, tx]
    · rw [Array.getElem?_eq_none (by omega), Array.getElem?_eq_none (by simp; omega)]
  · intro s hs
    obtain ⟨u, hu, rfl⟩ := List.mem_map.1 hs
    obtain ⟨i, hi, rfl⟩ := List.mem_iff_getElem.1 hu
    obtain ⟨s, hs, ws⟩ := key i (by simpa [hsz] using hi)
    have : cs.toList[i] = .string s := by
      have h2 : cs.toList[i]? = some (.string s) := by simpa using hs
      rw [List.getElem?_eq_getElem hi] at h2
      exact Option.some.inj h2
    rw [this]
    exact ws

theorem part_put (l : List UInt8) (m : Nat) (c : ByteArray) (h : m + c.size ≤ l.length) : part (Dk.put l m c.data.toList) m c.size = c := by
  have h1 : (List.take m l).length = m := by simp; omega
  have h2 : c.data.toList.length = c.size := by simp
  unfold part Dk.put
  rw [List.drop_append, h1, Nat.sub_self, List.drop_zero, List.drop_of_length_le (by omega), List.nil_append, List.take_append, h2, Nat.sub_self, List.take_zero, List.append_nil, List.take_of_length_le (by omega)]

theorem conv_whole {w : World} {g n : Nat} {l : List UInt8} (h : Blk w g 5 (cb l).toArray) (hl : l.length = n) :
    (convert 39 9 (.slice (some ⟨g, 0, none⟩) n n)).run Try.prog w = .ok (.string (part l 0 n)) w := by
  have hp : part l 0 n = ⟨l.toArray⟩ := by
    unfold part
    rw [List.drop_zero, List.take_of_length_le (by omega)]
  rw [hp]
  subst hl
  exact run_convert_bytes_back (P := Try.prog) w 39 9 5 ⟨g, 0, none⟩ l.length l Try.underlying39 Try.underlying5 Try.underlying9 (by
    intro j hj
    have hadd : (⟨g, 0, none⟩ : Addr).add j = ⟨g, j, none⟩ := by unfold Addr.add; split <;> simp_all
    rw [hadd, h.cell]
    simp [cb, hj])

/-- The law's loop: the disk reads as 'want' does. -/
def ReadsRel (B : Nat) (W : World) (d g : Nat) (i : Value) (wr : World) : Prop :=
  ∃ k : Nat, k ≤ 3 ∧ i = .int .i64 (k : Int) ∧ ∃ F D, F.d = d ∧ Two B W wr F D (· = g) ∧ D.n = 48 ∧ D.left = 0 ∧ D.broken = false ∧ D.pend.length ≤ k ∧ Blk wr g 5 (cb D.lat).toArray

set_option maxRecDepth 100000 in
set_option maxHeartbeats 4000000 in
theorem walk (s0 s1 s2 : ByteArray) (z0 z1 z2 sy : Int) (w : World) (hs0 : s0.size ≤ maxLen) (hs1 : s1.size ≤ maxLen) (hs2 : s2.size ≤ maxLen) :
    Calls Try.prog 8 #[.agg #[.string s0, .string s1, .string s2], .agg #[.int .i64 z0, .int .i64 z1, .int .i64 z2], .int .i64 sy] w fun e w' => e = .returned (.bool true) ∧ Below w.heap.size w w' := by
  have hmk := make_bytes 48 (by omega)
  simp only [Int.cast_ofNat_Int] at hmk
  obtain ⟨Z, hZ⟩ : ∃ Z, Z = (cb (List.replicate 48 0)).toArray := ⟨_, rfl⟩
  rw [← hZ] at hmk
  have HZ := Lib.hid hZ
  clear hZ
  go_enter Try.func8, Try.ntmps8
  go_wp2_with fail
  refine (awake_any _).mono ?_
  rintro e w1 ⟨rfl, hb1⟩
  have hz1 : w.heap.size + 2 ≤ w1.heap.size := by have := hb1.size; simp at this; omega
  have HC : Hid (∀ j (h : j < 3), ∃ s : ByteArray, ∃ z : Int, s.size ≤ maxLen ∧ w1.cell? ⟨w.heap.size, j, none⟩ = some (.string s) ∧ w1.cell? ⟨w.heap.size + 1, j, none⟩ = some (.int .i64 z)) := by
    intro j hj
    have a0 := hb1.cell (p := ⟨w.heap.size, j, none⟩) (by simp; omega)
    have a1 := hb1.cell (p := ⟨w.heap.size + 1, j, none⟩) (by simp)
    rw [a0, a1]
    match j, hj with
    | 0, _ => exact ⟨s0, z0, hs0, by simp, by simp⟩
    | 1, _ => exact ⟨s1, z1, hs1, by simp, by simp⟩
    | 2, _ => exact ⟨s2, z2, hs2, by simp, by simp⟩
  have HB1 : Hid (Below w.heap.size w w1) := (((Below.refl _ w).alloc (Nat.le_refl _) _).alloc (by simp) _).trans (hb1.mono (by simp; omega))
  clear hb1
  go_wp2_with fail
  refine (new_any 48 w1 (by omega) (by omega)).mono ?_
  rintro e w2 ⟨F, rfl, hD, hb2, hF⟩
  go_wp2_with fail
  have t0 : Two w1.heap.size w1 w2 F (Dsk.fresh 48) (fun _ => False) := ⟨hD, hb2.size, hb2, hF, fun _ h => h.elim, fun _ _ h => h⟩
  have t1 : Two w1.heap.size w1 (w2.alloc (.cells Z 5)) F (Dsk.fresh 48) (· = w2.heap.size) := t0.other ((Kept.refl _ w2).alloc _) (fun k hk => ⟨.inr (by omega), by simp; omega⟩)
  have b1 : Blk (w2.alloc (.cells Z 5)) w2.heap.size 5 (cb (Dsk.fresh 48).lat).toArray := by
    have := Blk.new w2 5 Z
    rw [HZ.out] at this ⊢
    exact this
  clear t0 hD hb2 hF hmk
  generalize w2.alloc (.cells Z 5) = w3 at t1 b1 ⊢
  generalize w2.heap.size = g at t1 b1 ⊢
  generalize hd0 : F.d = d0
  have hF0 := Lib.hid hd0
  clear hd0
  go_loopw [10] (ReadsRel w1.heap.size w1 d0 g) (fun i _ => 3 - (intOf i).toNat)
  case atStart => exact ⟨0, by omega, rfl, F, _, hF0.out, t1, rfl, rfl, rfl, by show 0 ≤ 0; omega, b1⟩
  case round =>
    clear t1 b1
    obtain ⟨k, hk, rfl, F1, D, hFd, tw, hn, hl, hbr, hpl, hbk⟩ := hrel
    by_cases hlt : k < 3
    · obtain ⟨s, z, hs, cs1, cz1⟩ := HC.out k hlt
      have cs : wr.cell? ⟨w.heap.size, k, none⟩ = some (.string s) := (tw.bel.cell (p := ⟨w.heap.size, k, none⟩) (by simp; omega)).trans cs1
      have cz : wr.cell? ⟨w.heap.size + 1, k, none⟩ = some (.int .i64 z) := (tw.bel.cell (p := ⟨w.heap.size + 1, k, none⟩) (by simp; omega)).trans cz1
      obtain ⟨m, hm, em⟩ := mod_nat z 21 (by omega) (by omega)
      simp only [Int.cast_ofNat_Int] at em
      have HS := Lib.hid (short_any s 20 hs wr)
      have hcs := cut_size s 20
      generalize cut s 20 = c at HS hcs
      have HW := Lib.hid (write_two tw hbr m c (by omega) (by omega))
      rw [hFd] at HW
      clear hFd
      have HL := Lib.hid hl
      have HN := Lib.hid hn
      have HBR := Lib.hid hbr
      clear cs1 cz1 hl hn hbr
      go_wp2_with fail
      refine HS.out.mono ?_
      rintro e w' ⟨rfl, rfl⟩
      go_wp2_with fail
      refine HW.out.mono ?_
      rintro e w4 ⟨he, F2, hFd2, t2, hE2⟩
      rw [HL.out] at he
      obtain rfl := he
      have HF2 := Lib.hid hFd2
      obtain ⟨A, hA, hsl⟩ := run_cut_from (P := Try.prog) 39 5 Try.underlying39 u8_size g 48 m (by omega)
      have b4 : Blk w4 g 5 (cb D.lat).toArray := hbk.of (hE2 g rfl)
      have hlen : D.lat.length = 48 := tw.disk.nlat.trans HN.out
      have hcp := run_copy_text (P := Try.prog) w4 39 9 3 5 Try.underlying39 u8_size A (48 - m) (48 - m) c (by omega) g m D.lat 5 b4 (fun h0 => hA (by omega)) (by omega)
      have b5 : Blk (w4.setRow g (cb (Dk.put D.lat m c.data.toList)).toArray) g 5 (cb (D.write m c).lat).toArray := by rw [Dsk.lat_write]; exact b4.row _
      have t5 : Two w1.heap.size w1 (w4.setRow g (cb (Dk.put D.lat m c.data.toList)).toArray) F2 (D.write m c) (· = g) := t2.other ((Kept.refl (fun x => x = g) w4).setRow (g := g) (.inl rfl) _) (fun x hx => ⟨.inl hx, by have := (t2.hE x hx).2; simpa using this⟩)
      have hl5 : (D.write m c).left = 0 := by show stepL D.left = 0; rw [HL.out]; rfl
      have hb5 : (D.write m c).broken = false := by show stepB D.left false = false; rw [HL.out]; rfl
      have hn5 : (D.write m c).n = 48 := HN.out
      have hp5 : (D.write m c).pend.length ≤ k + 1 := by show (D.pend ++ [(m, c)]).length ≤ k + 1; simp; omega
      have hget : part (D.write m c).lat m c.size = c := by
        rw [Dsk.lat_write]
        exact part_put _ _ _ (by omega)
      have HG := Lib.hid hget
      have HL5 := Lib.hid hl5
      have HB5 := Lib.hid hb5
      have HN5 := Lib.hid hn5
      have HHA := Lib.hid hA
      have HLEN := Lib.hid hlen
      generalize D.write m c = D5 at *
      clear hget hl5 hb5 hn5 hA hlen t2 b4 hE2 HS HW tw hbk cs cz hFd2
      go_wp2_with fail
      · have HY := Lib.hid (sync_two t5 (by rw [HL5.out, HB5.out]; rfl))
        rw [HF2.out] at HY
        refine HY.out.mono ?_
        rintro e w6 ⟨rfl, F3, hFd3, t6, hE6⟩
        have b6 : Blk w6 g 5 (cb D5.sync.lat).toArray := b5.of (hE6 g rfl)
        have HF3 := Lib.hid hFd3
        have HP := Lib.hid (pending_two t6)
        rw [hFd3] at HP
        have hbz : Dk.bytes D5.sync.pend = 0 := rfl
        rw [hbz] at HP
        clear hbz hcp hsl hFd3 HY
        go_wp2_with fail
        refine HP.out.mono ?_
        rintro e w7 ⟨rfl, hb7⟩
        have t7 := t6.after hb7
        have b7 := b6.of (hb7.block g b6.lt)
        have HG7 : Hid (part D5.sync.lat m c.size = c) := HG.out
        have HL7 : Hid (D5.sync.left = 0) := by show stepL D5.left = 0; rw [HL5.out]; rfl
        have HB7 : Hid (D5.sync.broken = false) := rfl
        have HN7 : Hid (D5.sync.n = 48) := HN5.out
        have hp7 : D5.sync.pend.length ≤ k + 1 := by show 0 ≤ k + 1; omega
        clear t6 b6 hb7 HP t5 b5 HG HL5 HB5 HN5 hp5 hE6
        generalize D5.sync = D7 at *
        have hlen8 := Lib.hid (t7.disk.nlat.trans HN7.out)
        have HR1 := Lib.hid (read_two t7 HB7.out 0 48 (by have := HN7.out; omega))
        have HR2 := Lib.hid (read_two t7 HB7.out m c.size (by have := HN7.out; omega))
        rw [HG7.out] at HR2
        have hcv := conv_whole (w := w7) b7 hlen8.out
        rw [HF3.out] at HR1 HR2
        generalize part D7.lat 0 48 = X at HR1 hcv
        go_wp2_with fail
        refine HR1.out.mono ?_
        rintro e w' ⟨rfl, rfl⟩
        go_wp2_with fail
        refine HR2.out.mono ?_
        rintro e w' ⟨rfl, rfl⟩
        clear HR1 HR2
        go_wp2_with fail
        go_roundw
        case rel => exact ⟨k + 1, by omega, by go_num, F3, D7, HF3.out, t7, HN7.out, HL7.out, HB7.out, hp7, b7⟩
        case measure => simp [intOf]; omega
      · clear hcp hsl
        generalize w4.setRow g (cb (Dk.put D.lat m c.data.toList)).toArray = w5 at *
        have hlen8 := Lib.hid (t5.disk.nlat.trans HN5.out)
        have HR1 := Lib.hid (read_two t5 HB5.out 0 48 (by have := HN5.out; omega))
        have HR2 := Lib.hid (read_two t5 HB5.out m c.size (by have := HN5.out; omega))
        rw [HG.out] at HR2
        have hcv := conv_whole (w := w5) b5 hlen8.out
        rw [HF2.out] at HR1 HR2
        generalize part D5.lat 0 48 = X at HR1 hcv
        go_wp2_with fail
        refine HR1.out.mono ?_
        rintro e w' ⟨rfl, rfl⟩
        go_wp2_with fail
        refine HR2.out.mono ?_
        rintro e w' ⟨rfl, rfl⟩
        clear HR1 HR2
        go_wp2_with fail
        go_roundw
        case rel => exact ⟨k + 1, by omega, by go_num, F2, D5, HF2.out, t5, HN5.out, HL5.out, HB5.out, hp5, b5⟩
        case measure => simp [intOf]; omega
    · obtain rfl : k = 3 := by omega
      have HT := Lib.hid tw.bel
      go_wp2_with fail
      go_ret
      exact ⟨rfl, HB1.out.trans (HT.out.mono (by omega))⟩

/-! ### The row -/
theorem contract (H : Type) (enc : TypeId × Value → H) (W : World) (base : Nat) (args : Array Value) (ds gs : List (DataW H)) (before : List MemPlace)
    (hval : ∀ (j : Nat) t v, Try.f8.params[j]? = some t → args[j]? = some v → Value.okWide Try.prog W .any base t v)
    (hW : DataW.Whole enc Try.prog Try.f8.params.toList Rows.diskReadsSpec.vars false W args.toList ds gs before) :
    Calls Try.prog 8 args W fun e W' => ∃ v, e = .returned v ∧ Rows.diskReadsSpec.post enc Try.prog Try.f8 false true false false W args v W' := by
  have hW' := hW
  obtain ⟨p, q, hA0, hV, rfl, hfz, hnd⟩ := hW
  have hA : DataW.TrodAll enc Try.prog W 0 (fun _ => true) true Try.f8.params.toList args.toList ds p := hA0
  rw [Try.params8] at hA hval
  obtain ⟨v0, vs0, d0, ds0, p0, q0, hargs, rfl, rfl, h0, r0⟩ := trodAll_cons hA
  obtain ⟨v1, vs1, d1, ds1, p1, q1, rfl, rfl, rfl, h1, r1⟩ := trodAll_cons r0
  obtain ⟨v2, vs2, d2, ds2, p2, q2, rfl, rfl, rfl, h2, r2⟩ := trodAll_cons r1
  obtain ⟨rfl, rfl, rfl⟩ := trodAll_nil r2
  obtain rfl : args = #[v0, v1, v2] := by cases args; simp_all
  obtain ⟨rfl, rfl⟩ := trodVars_none hV
  refine law_contract (tb := 4) laidOut (by kernel_rfl) rfl (by kernel_rfl) Try.underlying4 rfl hW' ?_
  clear hA0 hW' hA
  obtain ⟨ss, rfl, hl0, hz0⟩ := open_array_str Try.underlying50 Try.underlying9 cellsStr (by kernel_rfl) (hval 0 50 v0 rfl rfl) h0
  obtain ⟨zs, rfl, hl1, hz1⟩ := open_array Try.underlying51 Try.underlying3 cellsInt (by kernel_rfl) (hval 1 51 v1 rfl rfl) h1
  obtain ⟨a2, rfl, rfl, rfl, w2⟩ := open_int Try.underlying3 (hval 2 3 v2 rfl rfl) h2
  match ss, hl0, zs, hl1 with
  | [s0, s1, s2], _, [z0, z1, z2], _ => exact walk s0 s1 s2 z0 z1 z2 a2 W (hz0 s0 (by simp)) (hz0 s1 (by simp)) (hz0 s2 (by simp))

set_option maxRecDepth 100000 in
theorem lifted (os : Os) (started : os.Started) (H : Type) (enc : TypeId × Value → H) :
    ReturnsInHanded {} Try.checked os 8 .any (Rows.diskReadsSpec.pre6 enc Try.prog Try.f8 Rows.diskReadsRow.domain false) (Rows.diskReadsSpec.post enc Try.prog Try.f8 false true false false) := by
  refine returnsInHanded_of_change (C := Try.checked) own started (by kernel_rfl) Try.func8
    (ChangeSpec.witness6 (enc := enc) (C := Try.checked) false ⟨#[], #[.agg #[.string ⟨#[]⟩, .string ⟨#[]⟩, .string ⟨#[]⟩], .agg #[.int .i64 0, .int .i64 0, .int .i64 0], .int .i64 0], []⟩ 8 (by kernel_rfl) (by kernel_rfl) (by kernel_rfl) (by kernel_rfl)) ?_
  intro W base args ds gs before hval hW _ _
  exact contract H enc W base args ds gs before hval hW

/-- THE STATEMENT. -/
theorem said : Rows.DiskReadsSaid :=
  OpenClaim.holds_of_wide 8 Try.f8 rfl rfl rfl rfl rfl rfl rfl ⟨rfl, rfl, rfl, rfl, rfl⟩ rfl rfl rfl rfl rfl (by kernel_rfl) Try.func8 (by kernel_rfl)
    (of_decide_eq_true (by kernel_rfl)) (by unfold Func.isWrapper; first | (rw [if_pos (by decide +kernel)]; kernel_rfl) | (rw [if_neg (by decide +kernel)]; exact ⟨rfl, rfl⟩))
    (fun os started H enc _ => lifted os started H enc)
#print axioms said
end Go.Proofs.Ytlifaegmidgcnaa.diskReads
