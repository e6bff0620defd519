/-
  Contract of token.Decode: the text whose digits these are, if there is one. Condition: a text of at most 1000000 bytes.
-/
import Derived.Laws.RangeAny
import Derived.Test.YtcijkfnhjajfbaaDoorTkC
namespace Go.Proofs.YtcijkfnhjajfbaaDoor
open Go.RowKit

/-- The collector stands while each block of cells stands. -/
theorem Out.same {w w' : World} {B eb : Nat} {l : List UInt8} (h : Out w B eb l) (hs : ∀ (k : Nat) c t fz, w.heap[k]? = some (Obj.cells c t fz) → w'.heap[k]? = w.heap[k]?) : Out w' B eb l := by
  have h0 := h
  obtain ⟨_, v, hb, _⟩ := h0
  exact h.of (hs _ _ _ _ hb) (fun k c fz hk => hs k c _ fz hk)
theorem Regs.same {w w' : World} {B hb nb sb pb eb g m : Nat} {p : List Bool} {out : List UInt8} (h : Regs w B hb nb sb pb eb g m p out) (hs : ∀ (k : Nat) c t fz, w.heap[k]? = some (Obj.cells c t fz) → w'.heap[k]? = w.heap[k]?) : Regs w' B hb nb sb pb eb g m p out := by
  obtain ⟨H, hH, hh, hnum⟩ := h.held
  exact ⟨h.low, ⟨H, hH, hh.of (hs _ _ _ _ hh), hnum⟩, h.count.of (hs _ _ _ _ h.count), h.size.of (hs _ _ _ _ h.size), h.put.of (hs _ _ _ _ h.put), h.out.same hs⟩
theorem iterAt_cells {w : World} {it : Nat} {s : ByteArray} {pos pos' : Nat} (hk : w.heap[it]? = some (.stringIter s pos)) : ∀ (k : Nat) c t fz, w.heap[k]? = some (Obj.cells c t fz) → (w.iterAt it s pos').heap[k]? = w.heap[k]? := by
  intro k c t fz h
  refine Lib.iterAt_other w it k s pos' ?_
  rintro rfl
  rw [hk] at h
  cases h

/-- What Decode tells. -/
def decS (l : List UInt8) : ByteArray := ba ((Tk.dec l).getD [])
def decB (l : List UInt8) : Bool := (Tk.dec l).isSome
theorem dec_at_some {L : List UInt8} {D : List UInt8} (h : Tk.enc D = L) : decS L = ba D ∧ decB L = true := by
  have := Tk.dec_some.2 h
  unfold decS decB
  rw [this]
  exact ⟨rfl, rfl⟩
theorem dec_at_none {L : List UInt8} {pos : Nat} (hv : pos = L.length ∨ ∃ h : pos < L.length, Tk.isDig L[pos] = false) (h : Tk.enc (Tk.bytes (Tk.dbits (L.take pos))) ≠ L) : decS L = ba [] ∧ decB L = false := by
  have hn : Tk.dec L = none := by
    cases hd : Tk.dec L with
    | none => rfl
    | some x =>
      exfalso
      have he := Tk.dec_some.1 hd
      rcases hv with hv | ⟨hp, hv⟩
      · subst hv
        rw [List.take_of_length_le (Nat.le_refl _)] at h
        apply h
        rw [← he, Tk.bytes_enc]
      · have hval := Tk.valid_enc x
        rw [he] at hval
        have := List.all_eq_true.1 hval L[pos] (List.getElem_mem hp)
        rw [hv] at this
        cases this
  unfold decS decB
  rw [hn]
  exact ⟨rfl, rfl⟩
theorem isDig_low {c : UInt8} (h1 : 97 ≤ c.toNat) (h2 : c.toNat ≤ 122) : Tk.isDig c = true ∧ Tk.val c = c.toNat - 97 := by
  unfold Tk.isDig Tk.val
  rw [if_pos h1]
  simp [h1, h2]
theorem isDig_num {c : UInt8} (h1 : 50 ≤ c.toNat) (h2 : c.toNat ≤ 55) : Tk.isDig c = true ∧ Tk.val c = c.toNat - 24 := by
  unfold Tk.isDig Tk.val
  rw [if_neg (by omega)]
  simp [h1, h2]
theorem isDig_no {c : UInt8} (h1 : ¬ (97 ≤ c.toNat ∧ c.toNat ≤ 122)) (h2 : ¬ (50 ≤ c.toNat ∧ c.toNat ≤ 55)) : Tk.isDig c = false := by
  cases h : Tk.isDig c with
  | false => rfl
  | true =>
    unfold Tk.isDig at h
    simp only [Bool.or_eq_true, Bool.and_eq_true, decide_eq_true_eq] at h
    omega

set_option maxHeartbeats 8000000 in
set_option maxRecDepth 100000 in
theorem decode_any (s : ByteArray) (hs : s.size ≤ 1000000) (w : World) :
    Calls Tryd.prog 13 #[.string s] w fun e w' => e = .returned (.tuple #[.string (decS s.data.toList), .bool (decB s.data.toList)]) ∧ Below w.heap.size w w' := by
  obtain ⟨L, hL⟩ : ∃ L, s.data.toList = L := ⟨_, rfl⟩
  have hLl : L.length = s.size := by rw [← hL]; simp
  have hsb : s = ba L := by rw [← hL, ba_back]
  have HL := Lib.hid hL
  have HSB := Lib.hid hsb
  have HC := Lib.hid (fun W => collector_any 25 8 w.heap.size w.heap.size W)
  have HO : Hid (Out (w.alloc (.cells #[.slice none 0 0] 33)) w.heap.size w.heap.size []) := Lib.hid ⟨Nat.le_refl _, _, Blk.new w _ _, World.ownsRow_nil _ _ _ _⟩
  have HB := Lib.hid ((Below.refl _ w).alloc (Nat.le_refl _) (.cells #[.slice none 0 0] 33))
  clear hL hsb
  go_enter Tryd.func13, Tryd.ntmps13
  go_wp2_with fail
  go_step3
  go_wp2_with fail
  generalize hW2 : w.alloc _ = W2 at HO HB ⊢
  clear hW2
  refine (HC.out _ HO.out).mono ?_
  rintro e w3 ⟨hb, nb, sb, pb, rfl, hr, hb3⟩
  have HG : Hid (Below w.heap.size w w3) := Lib.hid (HB.out.trans ⟨hb3.os, hb3.tape, hb3.output, hb3.size, fun k hk => hb3.block k (Nat.lt_of_lt_of_le hk HB.out.size)⟩)
  have HG2 : Hid (Below w.heap.size w (w3.iter s 0)) := Lib.hid (HG.out.alloc HG.out.size _)
  have HR := Lib.hid (at_start (f := fun n => UInt8.ofNat n) (w := w3.iter s 0) (hr.same (fun k c t fz hk => Below.heap_alloc w3 _ k (by
    rcases Nat.lt_or_ge k w3.heap.size with h | h
    · exact h
    · rw [Array.getElem?_eq_none h] at hk; cases hk))))
  have HI := Lib.hid (World.iter_heap w3 s 0)
  clear hr hb3 HC HO HB
  go_wp2_with fail
  go_step3
  go_wp2_with fail
  obtain ⟨it, hit⟩ : ∃ it, w3.heap.size = it := ⟨_, rfl⟩
  have hitB : w.heap.size ≤ it := by rw [← hit]; exact HG.out.size
  generalize hW4 : w3.iter s 0 = W4 at HG2 HR HI ⊢
  rw [hit] at HI ⊢
  clear hW4 hit HG
  go_loopw [7] (fun _ wr => ∃ pos : Nat, pos ≤ s.size ∧ wr.heap[it]? = some (.stringIter s pos) ∧ At wr w.heap.size hb nb sb pb w.heap.size 25 8 (fun n => UInt8.ofNat n) (Tk.dbits (L.take pos)) ∧ Below w.heap.size w wr) (fun _ wr => s.size - wr.iterPos it)
  case atStart => exact ⟨0, by omega, HI.out, HR.out, HG2.out⟩
  case round =>
    clear HR HG2 HI
    obtain ⟨pos, hpos, hi, hA, hB⟩ := hrel
    have hmeas : wr.iterPos it = pos := by simp [World.iterPos, hi]
    have HBW := Lib.hid hB
    have hOL : (Tk.bytes (Tk.dbits (L.take pos))).length ≤ 1000000 := by rw [Tk.bytes_length, Tk.dbits_length, List.length_take]; omega
    have houtl : (Tk.grps 8 (Tk.dbits (L.take pos))).map (fun n => UInt8.ofNat n) = Tk.bytes (Tk.dbits (L.take pos)) := Tk.bytes_grps _
    by_cases hlt : pos < s.size
    · have hlL : pos < L.length := by omega
      have hsx : L[pos]'hlL = s[pos] := by
        have h1 : s.data.toList = L := HL.out
        subst h1
        simp
        rfl
      have ht := Tk.dbits_take_succ L pos hlL
      rw [hsx] at ht
      by_cases hdg : Tk.isDig s[pos] = true
      · have hx128 : (s[pos]).toNat < 128 := by
          have := hdg
          unfold Tk.isDig at this
          simp only [Bool.or_eq_true, Bool.and_eq_true, decide_eq_true_eq] at this
          omega
        have hnx : ∀ ty, (Instr.next (.pointer (some ⟨it, 0, none⟩)) true ty).run Tryd.prog wr = _ := fun ty => Lib.run_next_ascii_at wr it s pos ty hi hlt hx128
        obtain ⟨x, hx⟩ : ∃ x, s[pos] = x := ⟨_, rfl⟩
        rw [hx] at ht hdg hnx hx128
        have hA2 : At (wr.iterAt it s (pos + 1)) w.heap.size hb nb sb pb w.heap.size 25 8 (fun n => UInt8.ofNat n) (Tk.dbits (L.take pos)) := Regs.same hA (iterAt_cells hi)
        have HI2 := Lib.hid (Lib.iterAt_heap wr it s pos (pos + 1) hi)
        have HB2 := Lib.hid (Lib.below_iterAt hB hitB s (pos + 1))
        have HCL := Lib.hid (at_more put_byte (by decide) hA2 (by rw [Tk.dbits_length, List.length_take]; omega) (Tk.val x) 5 (Tk.dig_val x hdg).2 (by decide))
        have HT := Lib.hid ht
        generalize wr.iterAt it s (pos + 1) = W5 at hnx HI2 HB2 HCL
        clear hA hB hA2 ht hi houtl hOL hsx HBW
        by_cases h97 : 97 ≤ x.toNat
        · have h122 : x.toNat ≤ 122 := by
            unfold Tk.isDig at hdg
            simp only [Bool.or_eq_true, Bool.and_eq_true, decide_eq_true_eq] at hdg
            omega
          have hvy := (isDig_low h97 h122).2
          rw [hvy] at HCL
          obtain ⟨y, hy⟩ : ∃ y, x.toNat - 97 = y := ⟨_, rfl⟩
          have hyw : IntKind.u64.wrap ((x.toNat : Int) - 97) = (y : Int) := by
            rw [show (x.toNat : Int) - 97 = (y : Int) by omega]
            exact u64_wrap_nat y (by omega)
          rw [hy] at HCL hvy
          have HVY := Lib.hid hvy
          clear hvy
          have h1 : (97 : Int) ≤ (x.toNat : Int) := by omega
          have h2 : (x.toNat : Int) ≤ 122 := by omega
          go_wp2_with fail
          refine HCL.out.mono ?_
          rintro e w6 ⟨rfl, hA3, hg3⟩
          have HA3 := Lib.hid hA3
          have HB3 := Lib.hid (HB2.out.trans hg3.below)
          have HI3 := Lib.hid (hg3.iter _ _ _ HI2.out)
          clear hA3 hg3 HCL
          go_wp2_with fail
          go_roundw
          case rel => exact ⟨pos + 1, by omega, HI3.out, by rw [HT.out, HVY.out]; exact HA3.out, HB3.out⟩
          case measure =>
            have : w6.iterPos it = pos + 1 := by
              have := HI3.out
              simp [World.iterPos, this]
            omega
        · have h50 : 50 ≤ x.toNat ∧ x.toNat ≤ 55 := by
            unfold Tk.isDig at hdg
            simp only [Bool.or_eq_true, Bool.and_eq_true, decide_eq_true_eq] at hdg
            omega
          have hvy := (isDig_num h50.1 h50.2).2
          rw [hvy] at HCL
          obtain ⟨y, hy⟩ : ∃ y, x.toNat - 24 = y := ⟨_, rfl⟩
          have hyw : IntKind.u64.wrap ((x.toNat : Int) - 50) = ((x.toNat - 50 : Nat) : Int) := by
            rw [show (x.toNat : Int) - 50 = ((x.toNat - 50 : Nat) : Int) by omega]
            exact u64_wrap_nat _ (by omega)
          have hyw2 : IntKind.u64.wrap (((x.toNat - 50 : Nat) : Int) + 26) = (y : Int) := by
            rw [show ((x.toNat - 50 : Nat) : Int) + 26 = (y : Int) by omega]
            exact u64_wrap_nat _ (by omega)
          rw [hy] at HCL hvy
          have HVY := Lib.hid hvy
          clear hvy
          have h1 : ¬ ((97 : Int) ≤ (x.toNat : Int)) := by omega
          have h2 : (50 : Int) ≤ (x.toNat : Int) := by omega
          have h3 : (x.toNat : Int) ≤ 55 := by omega
          go_wp2_with fail
          refine HCL.out.mono ?_
          rintro e w6 ⟨rfl, hA3, hg3⟩
          have HA3 := Lib.hid hA3
          have HB3 := Lib.hid (HB2.out.trans hg3.below)
          have HI3 := Lib.hid (hg3.iter _ _ _ HI2.out)
          clear hA3 hg3 HCL
          go_wp2_with fail
          go_roundw
          case rel => exact ⟨pos + 1, by omega, HI3.out, by rw [HT.out, HVY.out]; exact HA3.out, HB3.out⟩
          case measure =>
            have : w6.iterPos it = pos + 1 := by
              have := HI3.out
              simp [World.iterPos, this]
            omega
      · have hv : pos = L.length ∨ ∃ h : pos < L.length, Tk.isDig L[pos] = false := .inr ⟨hlL, by rw [hsx]; simpa using hdg⟩
        have hr : ¬ (97 ≤ (Utf8.decode s pos).1 ∧ (Utf8.decode s pos).1 ≤ 122) ∧ ¬ (50 ≤ (Utf8.decode s pos).1 ∧ (Utf8.decode s pos).1 ≤ 55) := by
          by_cases hx128 : (s[pos]).toNat < 128
          · rw [decode_ascii s pos hlt hx128]
            unfold Tk.isDig at hdg
            simp only [Bool.or_eq_true, Bool.and_eq_true, decide_eq_true_eq] at hdg
            constructor <;> (intro hh; apply hdg; omega)
          · have := (decode_high s pos hlt (by omega)).1
            omega
        have hnx : ∀ ty, (Instr.next (.pointer (some ⟨it, 0, none⟩)) true ty).run Tryd.prog wr = _ := fun ty => Lib.run_next_any_at wr it s pos ty hi hlt
        have hA2 : At (wr.iterAt it s (pos + (Utf8.decode s pos).2)) w.heap.size hb nb sb pb w.heap.size 25 8 (fun n => UInt8.ofNat n) (Tk.dbits (L.take pos)) := Regs.same hA (iterAt_cells hi)
        have HB2 := Lib.hid (Lib.below_iterAt hB hitB s (pos + (Utf8.decode s pos).2))
        generalize wr.iterAt it s (pos + (Utf8.decode s pos).2) = W5 at hnx HB2 hA2
        generalize (Utf8.decode s pos).1 = r at hnx hr
        clear hA hB ht hsx hdg hi hmeas
        obtain ⟨_, v, hbk, ho⟩ := hA2.out
        rw [houtl] at ho
        have HSOME := Lib.hid (fun h => dec_at_some (L := L) (D := Tk.bytes (Tk.dbits (L.take pos))) h)
        have HNONE := Lib.hid (fun h => dec_at_none (L := L) (pos := pos) hv h)
        generalize Tk.bytes (Tk.dbits (L.take pos)) = D at hOL ho HSOME HNONE
        clear houtl hA2
        obtain ⟨A, cc, rfl⟩ := own_form ho
        have hcv := run_own_text ho
        have d0 := hbk.cell 0
        simp only [List.getElem?_toArray, List.getElem?_cons_zero] at d0
        have HBK := Lib.hid hbk
        have HOW := Lib.hid ho
        have HE := Lib.hid (fun W => encode_any (ba D) (by rw [ba_size]; exact hOL) W)
        rw [ba_list] at HE
        clear hbk ho hv hOL
        obtain ⟨E, hE⟩ : ∃ E, Tk.enc D = E := ⟨_, rfl⟩
        rw [hE] at HE HSOME HNONE
        clear hE
        obtain ⟨X, hX⟩ : ∃ X, ba E = X := ⟨_, rfl⟩
        rw [hX] at HE
        have HX := Lib.hid hX
        clear hX
        obtain ⟨Y, hY⟩ : ∃ Y, ba D = Y := ⟨_, rfl⟩
        rw [hY] at HE hcv HSOME
        have HY := Lib.hid hY
        clear hY
        by_cases h97 : 97 ≤ r
        · have h1 : (97 : Int) ≤ (r : Int) := by omega
          have h2 : ¬ ((r : Int) ≤ 122) := by omega
          have h3 : (50 : Int) ≤ (r : Int) := by omega
          have h4 : ¬ ((r : Int) ≤ 55) := by omega
          by_cases hq : X = s
          · have HQ := Lib.hid hq
            have hself : (s.toList == s.toList) = true := by simp
            clear hq
            go_wp2_with (go_at_call 12; refine (HE.out _).mono ?_; rintro e w7 ⟨rfl, b7⟩; refine Hid.out ?_)
            refine Lib.hid ?_
            have B7 := Lib.hid b7
            have k0 := (HBK.out.of (b7.block _ HBK.out.lt)).cell 0
            simp only [List.getElem?_toArray, List.getElem?_cons_zero] at k0
            have hcv2 := run_own_text (own_of (w' := w7) HOW.out (fun b hb => b7.block _ (own_lt HOW.out hb)))
            rw [HY.out] at hcv2
            clear b7
            have hqq : X = s := HQ.out
            subst hqq
            go_wp2_with fail
            go_ret2
            have hf := HSOME.out (by have h1 := HX.out; have h2 := HSB.out; rw [h2] at h1; exact ba_inj h1)
            refine ⟨?_, HB2.out.trans ⟨B7.out.os, B7.out.tape, B7.out.output, B7.out.size, fun k hk => B7.out.block k (Nat.lt_of_lt_of_le hk HB2.out.size)⟩⟩
            rw [HL.out, hf.1, hf.2]
            rfl
          · have HQ := Lib.hid hq
            have hne := str_ne hq
            clear hq
            go_wp2_with (go_at_call 12; refine (HE.out _).mono ?_; rintro e w7 ⟨rfl, b7⟩; refine Hid.out ?_)
            refine Lib.hid ?_
            have B7 := Lib.hid b7
            clear b7
            go_wp2_with fail
            try rw [Exit.noGoto_ret]
            go_ret2
            have hf := HNONE.out (by have h1 := HX.out; have h2 := HSB.out; intro hh; exact HQ.out (by rw [← h1, hh, ← h2]))
            refine ⟨?_, HB2.out.trans ⟨B7.out.os, B7.out.tape, B7.out.output, B7.out.size, fun k hk => B7.out.block k (Nat.lt_of_lt_of_le hk HB2.out.size)⟩⟩
            rw [HL.out, hf.1, hf.2]
            rfl
        · have h1 : ¬ ((97 : Int) ≤ (r : Int)) := by omega
          by_cases h50 : 50 ≤ r
          · have h3 : (50 : Int) ≤ (r : Int) := by omega
            have h4 : ¬ ((r : Int) ≤ 55) := by omega
            by_cases hq : X = s
            · have HQ := Lib.hid hq
              have hself : (s.toList == s.toList) = true := by simp
              clear hq
              go_wp2_with (go_at_call 12; refine (HE.out _).mono ?_; rintro e w7 ⟨rfl, b7⟩; refine Hid.out ?_)
              refine Lib.hid ?_
              have B7 := Lib.hid b7
              have k0 := (HBK.out.of (b7.block _ HBK.out.lt)).cell 0
              simp only [List.getElem?_toArray, List.getElem?_cons_zero] at k0
              have hcv2 := run_own_text (own_of (w' := w7) HOW.out (fun b hb => b7.block _ (own_lt HOW.out hb)))
              rw [HY.out] at hcv2
              clear b7
              have hqq : X = s := HQ.out
              subst hqq
              go_wp2_with fail
              go_ret2
              have hf := HSOME.out (by have h1 := HX.out; have h2 := HSB.out; rw [h2] at h1; exact ba_inj h1)
              refine ⟨?_, HB2.out.trans ⟨B7.out.os, B7.out.tape, B7.out.output, B7.out.size, fun k hk => B7.out.block k (Nat.lt_of_lt_of_le hk HB2.out.size)⟩⟩
              rw [HL.out, hf.1, hf.2]
              rfl
            · have HQ := Lib.hid hq
              have hne := str_ne hq
              clear hq
              go_wp2_with (go_at_call 12; refine (HE.out _).mono ?_; rintro e w7 ⟨rfl, b7⟩; refine Hid.out ?_)
              refine Lib.hid ?_
              have B7 := Lib.hid b7
              clear b7
              go_wp2_with fail
              try rw [Exit.noGoto_ret]
              go_ret2
              have hf := HNONE.out (by have h1 := HX.out; have h2 := HSB.out; intro hh; exact HQ.out (by rw [← h1, hh, ← h2]))
              refine ⟨?_, HB2.out.trans ⟨B7.out.os, B7.out.tape, B7.out.output, B7.out.size, fun k hk => B7.out.block k (Nat.lt_of_lt_of_le hk HB2.out.size)⟩⟩
              rw [HL.out, hf.1, hf.2]
              rfl
          · have h3 : ¬ ((50 : Int) ≤ (r : Int)) := by omega
            by_cases hq : X = s
            · have HQ := Lib.hid hq
              have hself : (s.toList == s.toList) = true := by simp
              clear hq
              go_wp2_with (go_at_call 12; refine (HE.out _).mono ?_; rintro e w7 ⟨rfl, b7⟩; refine Hid.out ?_)
              refine Lib.hid ?_
              have B7 := Lib.hid b7
              have k0 := (HBK.out.of (b7.block _ HBK.out.lt)).cell 0
              simp only [List.getElem?_toArray, List.getElem?_cons_zero] at k0
              have hcv2 := run_own_text (own_of (w' := w7) HOW.out (fun b hb => b7.block _ (own_lt HOW.out hb)))
              rw [HY.out] at hcv2
              clear b7
              have hqq : X = s := HQ.out
              subst hqq
              go_wp2_with fail
              go_ret2
              have hf := HSOME.out (by have h1 := HX.out; have h2 := HSB.out; rw [h2] at h1; exact ba_inj h1)
              refine ⟨?_, HB2.out.trans ⟨B7.out.os, B7.out.tape, B7.out.output, B7.out.size, fun k hk => B7.out.block k (Nat.lt_of_lt_of_le hk HB2.out.size)⟩⟩
              rw [HL.out, hf.1, hf.2]
              rfl
            · have HQ := Lib.hid hq
              have hne := str_ne hq
              clear hq
              go_wp2_with (go_at_call 12; refine (HE.out _).mono ?_; rintro e w7 ⟨rfl, b7⟩; refine Hid.out ?_)
              refine Lib.hid ?_
              have B7 := Lib.hid b7
              clear b7
              go_wp2_with fail
              try rw [Exit.noGoto_ret]
              go_ret2
              have hf := HNONE.out (by have h1 := HX.out; have h2 := HSB.out; intro hh; exact HQ.out (by rw [← h1, hh, ← h2]))
              refine ⟨?_, HB2.out.trans ⟨B7.out.os, B7.out.tape, B7.out.output, B7.out.size, fun k hk => B7.out.block k (Nat.lt_of_lt_of_le hk HB2.out.size)⟩⟩
              rw [HL.out, hf.1, hf.2]
              rfl
    · obtain rfl : pos = s.size := by omega
      have hv : s.size = L.length ∨ ∃ h : s.size < L.length, Tk.isDig L[s.size] = false := .inl hLl.symm
      have hnx : ∀ ty, (Instr.next (.pointer (some ⟨it, 0, none⟩)) true ty).run Tryd.prog wr = _ := fun ty => Lib.run_next_end_at wr it s s.size ty hi hlt
      have HB2 := Lib.hid hB
      have hA2 := hA
      obtain ⟨pos, hposd⟩ : ∃ pos, s.size = pos := ⟨_, rfl⟩
      rw [hposd] at hv hOL houtl hA2
      have hnl : True := trivial
      clear hA hB hi hmeas
      obtain ⟨_, v, hbk, ho⟩ := hA2.out
      rw [houtl] at ho
      have HSOME := Lib.hid (fun h => dec_at_some (L := L) (D := Tk.bytes (Tk.dbits (L.take pos))) h)
      have HNONE := Lib.hid (fun h => dec_at_none (L := L) (pos := pos) hv h)
      generalize Tk.bytes (Tk.dbits (L.take pos)) = D at hOL ho HSOME HNONE
      clear houtl hA2
      obtain ⟨A, cc, rfl⟩ := own_form ho
      have hcv := run_own_text ho
      have d0 := hbk.cell 0
      simp only [List.getElem?_toArray, List.getElem?_cons_zero] at d0
      have HBK := Lib.hid hbk
      have HOW := Lib.hid ho
      have HE := Lib.hid (fun W => encode_any (ba D) (by rw [ba_size]; exact hOL) W)
      rw [ba_list] at HE
      clear hbk ho hv hOL
      obtain ⟨E, hE⟩ : ∃ E, Tk.enc D = E := ⟨_, rfl⟩
      rw [hE] at HE HSOME HNONE
      clear hE
      obtain ⟨X, hX⟩ : ∃ X, ba E = X := ⟨_, rfl⟩
      rw [hX] at HE
      have HX := Lib.hid hX
      clear hX
      obtain ⟨Y, hY⟩ : ∃ Y, ba D = Y := ⟨_, rfl⟩
      rw [hY] at HE hcv HSOME
      have HY := Lib.hid hY
      clear hY
      by_cases hq : X = s
      · have HQ := Lib.hid hq
        have hself : (s.toList == s.toList) = true := by simp
        clear hq
        go_wp2_with (go_at_call 12; refine (HE.out _).mono ?_; rintro e w7 ⟨rfl, b7⟩; refine Hid.out ?_)
        refine Lib.hid ?_
        have B7 := Lib.hid b7
        have k0 := (HBK.out.of (b7.block _ HBK.out.lt)).cell 0
        simp only [List.getElem?_toArray, List.getElem?_cons_zero] at k0
        have hcv2 := run_own_text (own_of (w' := w7) HOW.out (fun b hb => b7.block _ (own_lt HOW.out hb)))
        rw [HY.out] at hcv2
        clear b7
        have hqq : X = s := HQ.out
        subst hqq
        go_wp2_with fail
        go_ret2
        have hf := HSOME.out (by have h1 := HX.out; have h2 := HSB.out; rw [h2] at h1; exact ba_inj h1)
        refine ⟨?_, HB2.out.trans ⟨B7.out.os, B7.out.tape, B7.out.output, B7.out.size, fun k hk => B7.out.block k (Nat.lt_of_lt_of_le hk HB2.out.size)⟩⟩
        rw [HL.out, hf.1, hf.2]
        rfl
      · have HQ := Lib.hid hq
        have hne := str_ne hq
        clear hq
        go_wp2_with (go_at_call 12; refine (HE.out _).mono ?_; rintro e w7 ⟨rfl, b7⟩; refine Hid.out ?_)
        refine Lib.hid ?_
        have B7 := Lib.hid b7
        clear b7
        go_wp2_with fail
        try rw [Exit.noGoto_ret]
        go_ret2
        have hf := HNONE.out (by have h1 := HX.out; have h2 := HSB.out; intro hh; exact HQ.out (by rw [← h1, hh, ← h2]))
        refine ⟨?_, HB2.out.trans ⟨B7.out.os, B7.out.tape, B7.out.output, B7.out.size, fun k hk => B7.out.block k (Nat.lt_of_lt_of_le hk HB2.out.size)⟩⟩
        rw [HL.out, hf.1, hf.2]
        rfl
end Go.Proofs.YtcijkfnhjajfbaaDoor
