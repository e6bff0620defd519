/-
  PackBack: what was written is read, in order, to the end; with one byte more there is no end: for every row of numbers, every row of texts and every byte the statement's function returns true and changes nothing that was there. No condition.
-/
import Derived.Test.YtkfkaijaenjngaaPackH
import Derived.Test.YtkfkaijaenjngaaPackR
import Derived.Test.YtkfkaijaenjngaaPackT
import Derived.Deep.Cut
import Derived.Deep.CutRange
import Derived.Deep.RegionWith
import Derived.Deep.RegionHeld3
namespace Go.Proofs.Ytkfkaijaenjngaa.packBack
open Go.ChangeShapes Go.WideShapes Go.ChangeAt Go.RowKit
open Go.ChangeMaps (open_string shut_string)

theorem lies_off {S : Nat → Prop} {w2 wi : World} {A : Option Addr} {vs : List Value} (h : Lies (fun _ => False) w2 A vs) (hb : Below w2.heap.size w2 wi) (hf : ∀ k, S k → w2.heap.size ≤ k) : Lies S wi A vs := fun i u hi => by
  obtain ⟨a, h1, h2, _, h4⟩ := h i u hi
  refine ⟨a, h1, Nat.lt_of_lt_of_le h2 hb.size, fun hs => by have := hf _ hs; omega, ?_⟩
  rw [← h4]
  exact World.cell?_of_block (by rw [add_block]; exact hb.block _ h2)

/-- Behind the second reader's making. -/
def Made (w2 : World) (r : Nat) (sr sq : ByteArray) (x : Value) (wx : World) : Prop := ∃ q, x = .pointer (some ⟨q, 0, none⟩) ∧ Two w2 wx r q sr sq

set_option maxRecDepth 100000 in
set_option maxHeartbeats 4000000 in
theorem walk (A1 A2 : Option Addr) (c1 c2 : Nat) (ns : List Nat) (l : List ByteArray) (b : UInt8) (w : World) (hn : ns.length ≤ maxLen) (hl : l.length ≤ maxLen) (hns : ∀ n ∈ ns, n ≤ 18446744073709551615) (hls : ∀ s ∈ l, s.size ≤ maxLen)
    (h1 : Lies (fun _ => False) w A1 (cn ns)) (h2 : Lies (fun _ => False) w A2 (cs l)) (hcap : ns.length ≤ c1) :
    Calls Try.prog 5 #[.slice A1 ns.length c1, .slice A2 l.length c2, .int .u8 (b.toNat : Int)] w fun e w' => e = .returned (.bool true) ∧ Below w.heap.size w w' := by
  have HF2 := Lib.hid (fun (W : World) (hb : Below w.heap.size w W) => few_any W A2 c2 l hl hls (h2.below hb))
  have HA1 := Lib.hid h1
  have HNS := Lib.hid hns
  have hlb := fw_len l
  have HSB := Lib.hid (fw_size l)
  generalize l.length = n2 at *
  generalize fw l = m at *
  unfold maxLen at hn
  clear h1 h2 hls hns hl
  -- the numbers that are kept
  obtain ⟨ms, hms⟩ : ∃ ms : List Nat, ms = ns.take 8 := ⟨_, rfl⟩
  have hm8 : ms.length ≤ 8 := by rw [hms]; simp; omega
  have HMS : Hid (∀ n ∈ ms, n ≤ 18446744073709551615) := Lib.hid (fun n hn => HNS.out n (by rw [hms] at hn; exact List.mem_of_mem_take hn))
  have HAM : Hid (Lies (fun _ => False) w A1 (cn ms)) := Lib.hid (fun i u hi => HA1.out i u (by
    have hi' := (List.getElem?_eq_some_iff.1 hi).1
    rw [hms] at hi
    have : (cn (ns.take 8))[i]? = (cn ns)[i]? := by
      have h8 : i < 8 := by simp [cn] at hi'; omega
      simp [cn, h8]
    rw [this] at hi
    exact hi))
  go_enter Try.func5, Try.ntmps5
  go_wp2_with fail
  refine (awake_any _).mono ?_
  rintro e w1 ⟨rfl, hb1⟩
  have hz1 := hb1.size
  have HC := Lib.hid (HF2.out _ hb1)
  have HB1 := Lib.hid hb1
  clear hb1 HF2
  go_wp2_with fail
  refine HC.out.mono ?_
  rintro e w2 ⟨A3, c3, rfl, ho3, hb3⟩
  have hB2 : Below w.heap.size w w2 := HB1.out.trans (hb3.mono hz1)
  have HB2 := Lib.hid hB2
  have hz2 := hB2.size
  have HA := Lib.hid (HAM.out.below hB2)
  have HM : Hid (Lies (fun _ => False) w2 A3 (cs m)) := Lib.hid (Lies.own (c := c3) ho3 (fun _ _ _ hf => hf))
  clear HC ho3 hb3 hB2 HB1 HA1 HAM HNS
  go_upto_if 23 with fail
  go_cut [0, 23] from 24 to 25 (fun x0 _ wx => wx = w2 ∧ ∃ c4, x0 = .slice A1 ms.length c4)
  case first =>
    by_cases hlt : 8 < ns.length
    · have HL8 := Lib.hid (show ms.length = 8 by rw [hms]; simp; omega)
      obtain ⟨a, rfl, _⟩ := HA.out 0 _ (cn_get ms 0 (by have := HL8.out; omega))
      have hcut := run_cut_head 22 33 Try.underlying22 u64_some a ns.length c1 (by omega)
      clear hms
      go_wp2_with fail
      go_meet
      exact ⟨rfl, c1, by rw [HL8.out]⟩
    · have HL8 := Lib.hid (show ms.length = ns.length by rw [hms]; simp; omega)
      clear hms
      go_wp2_with fail
      go_meet
      exact ⟨rfl, c1, by rw [HL8.out]⟩
  case rest =>
    obtain ⟨rfl, c4, rfl⟩ := hcut
    obtain ⟨wb, rfl⟩ : ∃ x, x = wc := ⟨_, rfl⟩
    clear hms hcap hn
    -- the bytes
    have HT := Lib.hid (texts_len m (fun s hs => by have := HSB.out s hs; omega))
    have HNL := Lib.hid (nums_len ms HMS.out)
    have HRL : Hid ((Pk.row (tx m)).length ≤ 10000) := Lib.hid (by
      have h1 := HT.out
      have h2 := Pk.num_len_le m.length (by omega)
      have e : (Pk.row (tx m)).length = (Pk.num m.length).length + (Pk.texts (tx m)).length := by simp [Pk.row, tx]
      omega)
    have HW0 : Wr wb.heap.size wb _ _ _ _ := Wr.new (w := wb) (Below.refl _ wb) (Nat.le_refl _)
    have HR := Lib.hid (wrow_on HW0 A3 c3 m (fun s hs => by have := HSB.out s hs; omega) (lies_off HM.out HW0.bel HW0.foot) (by simp; omega))
    clear HW0
    go_wp2_with fail
    refine HR.out.mono ?_
    rintro e w3 ⟨rfl, v3, hw3, _, _⟩
    rw [List.nil_append] at hw3
    have HN := Lib.hid (wnum_on hw3 A1 c4 ms HMS.out (lies_off HA.out hw3.bel hw3.foot) (by have := HRL.out; omega))
    clear HR hw3
    go_wp2_with fail
    refine HN.out.mono ?_
    rintro e w4 ⟨rfl, v4, hw4, _, _⟩
    have HX := Lib.hid (wtext_on hw4 A3 c3 m (fun s hs => by have := HSB.out s hs; omega) (lies_off HM.out hw4.bel hw4.foot) (by have h1 := HRL.out; have h2 := HNL.out; rw [List.length_append]; omega))
    clear HN hw4
    go_wp2_with fail
    refine HX.out.mono ?_
    rintro e w5 ⟨rfl, v5, hw5, _, _⟩
    have HLL : Hid (ba (Pk.row (tx m) ++ nums ms ++ Pk.texts (tx m)) = ba (Pk.row (tx m) ++ (nums ms ++ Pk.texts (tx m)))) := Lib.hid (by rw [List.append_assoc])
    have HQQ : Hid (ba (Pk.row (tx m) ++ nums ms ++ Pk.texts (tx m)) ++ ba [b] = ba (Pk.row (tx m) ++ (nums ms ++ (Pk.texts (tx m) ++ [b])))) := Lib.hid (by rw [ba_append]; simp)
    have hS5 : (ba (Pk.row (tx m) ++ nums ms ++ Pk.texts (tx m))).size ≤ 30000 := by
      have h1 := HRL.out
      have h2 := HNL.out
      have h3 := HT.out
      rw [ba_size, List.length_append, List.length_append]
      omega
    have HW5 := Lib.hid hw5
    clear HX hw5
    generalize Pk.row (tx m) ++ nums ms ++ Pk.texts (tx m) = L at *
    have HS := Lib.hid (fun (W : World) (hW : WrAt W wb.heap.size v5 L) => str_any W _ _ L hW)
    generalize ba L = S at *
    go_wp2_with fail
    refine (HS.out _ HW5.out.at_).mono ?_
    rintro e w' ⟨rfl, rfl⟩
    go_wp2_with fail
    refine (read_any w5 S (by omega)).mono ?_
    rintro e w6 ⟨rfl, hr6, hb6, hz6⟩
    have hw6 := HW5.out.after hb6
    have hd5 : wb.heap.size ≤ w5.heap.size := HW5.out.low
    generalize hdr : w5.heap.size = dr at *
    have HW6 := Lib.hid hw6
    have HR6 := Lib.hid hr6
    clear HW5 hw6 hr6 hb6 hdr
    go_upto_region 10 with fail
    go_cut [11] from 40 to 46 (fun x11 wx => ∃ q, x11 = .pointer (some ⟨q, 0, none⟩) ∧ Two wb wx dr q S (S ++ ba [b]))
    case first =>
      have hcv : ∀ (W : World) (g : Nat), W.cell? ⟨g, 0, none⟩ = some (.int .u8 (b.toNat : Int)) → (convert 27 9 (.slice (some ⟨g, 0, none⟩) 1 1)).run Try.prog W = .ok (.string (ba [b])) W := fun W g h => run_one W g _ b rfl h
      have hb1 : (ba [b]).size = 1 := rfl
      have HRd := Lib.hid (fun (W : World) => read_any W (S ++ ba [b]) (by rw [ByteArray.size_append]; omega))
      generalize ba [b] = X at *
      have hbW : Below w6.heap.size w6 (w6.alloc (.cells #[.int .u8 (b.toNat : Int)] 5)).drew := ((Below.refl _ w6).alloc (Nat.le_refl _) _).drew
      have HSa := Lib.hid (HS.out w6.drew (HW6.out.after ((Below.refl _ w6).drew)).at_)
      have HSb := Lib.hid (HS.out (w6.alloc (.cells #[.int .u8 (b.toNat : Int)] 5)).drew (HW6.out.after hbW).at_)
      have HTw : Hid (∀ w7, RdAt 62 w7 (w6.alloc (.cells #[.int .u8 (b.toNat : Int)] 5)).drew.heap.size (some (S ++ X)) → Below (w6.alloc (.cells #[.int .u8 (b.toNat : Int)] 5)).drew.heap.size (w6.alloc (.cells #[.int .u8 (b.toNat : Int)] 5)).drew w7 →
          Two wb w7 dr (w6.alloc (.cells #[.int .u8 (b.toNat : Int)] 5)).drew.heap.size S (S ++ X)) := Lib.hid (fun w7 h1 h2 => by
        have h3 : Below w6.heap.size w6 w7 := hbW.trans (h2.mono hbW.size)
        have h4 := HR6.out.blk.lt
        have h5 := HW6.out.low
        refine ⟨HR6.out.below h3, h1, ?_, HW6.out.bel.trans (h3.mono h5), by omega, ?_⟩
        · have e : (w6.alloc (.cells #[.int .u8 (b.toNat : Int)] 5)).drew.heap.size = w6.heap.size + 1 := by simp
          rw [e]; omega
        · have e : (w6.alloc (.cells #[.int .u8 (b.toNat : Int)] 5)).drew.heap.size = w6.heap.size + 1 := by simp
          rw [e]; omega)
      have HWs : Hid ((w6.alloc (.cells #[.int .u8 (b.toNat : Int)] 5)).drew.heap.size = dr + 1 + 1) := Lib.hid (by simp; omega)
      clear hbW HS
      go_region_with (first
        | (go_at_call 17
           first
             | refine HSa.out.mono ?_
             | refine HSb.out.mono ?_
           rintro e w7 ⟨rfl, rfl⟩)
        | (go_at_call 19
           refine (HRd.out _).mono ?_
           rintro e w7 ⟨rfl, hr7, hb7, hz7⟩))
      all_goals go_wp2_with fail
      all_goals go_meet
      all_goals exact ⟨_, rfl, by have h := HTw.out _ hr7 hb7; rw [HWs.out] at h; exact h⟩
    case rest =>
      obtain ⟨dq, rfl, two⟩ := hcut
      obtain ⟨w7, rfl⟩ : ∃ x, x = wc := ⟨_, rfl⟩
      clear HW6 HR6 HS hS5 hz6 hd5 HNL HRL
      rw [HQQ.out] at two
      rw [HLL.out] at two
      have hq7 := two.atQ.blk.lt
      have h1 := rrow_any two.atR 8 200 (by omega) (by omega) (by omega) (by omega)
      rw [read_row m _ hlb HSB.out] at h1
      have HR1 := Lib.hid h1
      have HW7 := Lib.hid two
      clear h1 two HLL HQQ
      generalize hT : Pk.texts (tx m) = T at *
      have HTe := Lib.hid hT
      clear hT
      go_wp2_with fail
      refine HR1.out.mono ?_
      rintro e w8 ⟨A5, c5, rfl, ho5, hr8, hk8⟩
      have two8 := HW7.out.onR hr8 hk8
      have HL5 : Hid (Lies (· = dq) w8 A5 (cs m)) := Lib.hid (Lies.own (c := c5) ho5 (fun g _ hg hf => by omega))
      have h1 := rrow_any two8.atQ 8 200 (by omega) (by omega) (by omega) (by omega)
      rw [read_row m _ hlb HSB.out] at h1
      have HR2 := Lib.hid h1
      have HW8 := Lib.hid two8
      clear HR1 HW7 ho5 hr8 hk8 two8 h1
      go_wp2_with fail
      refine HR2.out.mono ?_
      rintro e w9 ⟨A6, c6, rfl, ho6, hr9, hk9⟩
      have two9 := HW8.out.onQ hr9 hk9
      have hx9 : Lies (fun _ => False) w9 A5 (cs m) := (HL5.out.kept hk9).mono (fun _ _ hf => hf.elim)
      have hy9 : Lies (fun _ => False) w9 A6 (cs m) := Lies.own (c := c6) ho6 (fun _ _ _ hf => hf)
      have HM1 := Lib.hid (same_any w9 A5 A3 c5 c3 m m (by omega) (by omega) hx9 (HM.out.below two9.bel))
      rw [decide_eq_true rfl] at HM1
      have HY := Lib.hid hy9
      have HW9 := Lib.hid two9
      clear HR2 HW8 HL5 ho6 hr9 hk9 two9 hx9 hy9
      go_wp2_with fail
      refine HM1.out.mono ?_
      rintro e w10 ⟨rfl, hb10⟩
      have two10 := HW9.out.after hb10
      have HM2 := Lib.hid (same_any w10 A6 A3 c6 c3 m m (by omega) (by omega) (HY.out.below hb10) (HM.out.below two10.bel))
      rw [decide_eq_true rfl] at HM2
      have HW10 := Lib.hid two10
      clear HM1 HW9 HY hb10 two10
      go_wp2_with fail
      refine HM2.out.mono ?_
      rintro e w11 ⟨rfl, hb11⟩
      have HW11 := Lib.hid (HW10.out.after hb11)
      clear HM2 HW10 hb11
      go_wp2_with fail
      go_loopw [16] (fun x wr => ∃ i : Nat, i ≤ ms.length ∧ x = .int .i64 (i : Int) ∧ Two wb wr dr dq (ba (nums (ms.drop i) ++ T)) (ba (nums (ms.drop i) ++ (T ++ [b])))) (fun x _ => ms.length - (intOf x).toNat)
      case atStart => exact ⟨0, by omega, rfl, HW11.out⟩
      case round =>
        clear HW11
        obtain ⟨i, hi, rfl, two⟩ := hrel
        by_cases hlt : i < ms.length
        · obtain ⟨a, rfl, _, _, S1⟩ := HA.out.below two.bel i _ (cn_get ms i hlt)
          have hni := HMS.out _ (List.getElem_mem hlt)
          have HAc := Lib.hid (fun (W : World) (t : Below wb.heap.size wb W) => (show W.cell? (a.add i) = some (.int .u64 (ms[i] : Int)) by
            obtain ⟨a', h1, _, _, h4⟩ := HA.out.below t i _ (cn_get ms i hlt)
            obtain rfl : a = a' := Option.some.inj h1
            exact h4))
          rw [nums_drop ms i hlt, List.append_assoc, List.append_assoc] at two
          have HC1 := Lib.hid (two_numR two.drew ms[i] hni ms[i] (read_num ms[i] ms[i] _ hni (Nat.le_refl _)))
          have HC2 := Lib.hid (fun (W : World) (t : Two wb W dr dq (ba (nums (ms.drop (i + 1)) ++ T)) (ba (Pk.num ms[i] ++ (nums (ms.drop (i + 1)) ++ (T ++ [b]))))) => two_numQ t 18446744073709551615 18446744073709551615 rfl (by omega) ms[i] (read_num 18446744073709551615 ms[i] _ hni hni))
          generalize ms[i] = z at *
          clear two
          go_wp2_with fail
          go_region_held3 (fun w' => w'.cell? (a.add i) = some (.int .u64 (z : Int)))
            (first | go_keep | (exact S2) | (exact S3))
            (first
              | (go_at_call 25
                 have HC3 := HC2.out _ two12
                 refine HC3.mono ?_
                 rintro e w13 ⟨rfl, two13⟩
                 have S3 := HAc.out _ two13.bel)
              | (go_at_call 25
                 refine HC1.out.mono ?_
                 rintro e w12 ⟨rfl, two12⟩
                 have S2 := HAc.out _ two12.bel))
          go_wp2_with fail
          go_roundw
          case rel => exact ⟨i + 1, by omega, by go_num, two13⟩
          case measure => simp [intOf]; omega
        · obtain rfl : i = ms.length := by omega
          rw [List.drop_length] at two
          have HW12 : Hid (Two wb wr dr dq (ba (Pk.texts (tx (m.drop 0)))) (ba (Pk.texts (tx (m.drop 0)) ++ [b]))) := Lib.hid (by
            rw [List.drop_zero, HTe.out]
            exact two)
          clear two HA HMS
          go_wp2_with fail
          go_loopw [17] (fun x wr => ∃ i : Nat, i ≤ m.length ∧ x = .int .i64 (i : Int) ∧ Two wb wr dr dq (ba (Pk.texts (tx (m.drop i)))) (ba (Pk.texts (tx (m.drop i)) ++ [b]))) (fun x _ => m.length - (intOf x).toNat)
          case atStart => exact ⟨0, by omega, rfl, HW12.out⟩
          case round =>
            clear HW12
            obtain ⟨i, hi, rfl, two⟩ := hrel
            by_cases hlt : i < m.length
            · obtain ⟨a, rfl, _, _, S1⟩ := HM.out.below two.bel i _ (cs_get m i hlt)
              have hni := HSB.out _ (List.getElem_mem hlt)
              have HAc := Lib.hid (fun (W : World) (t : Below wb.heap.size wb W) => (show W.cell? (a.add i) = some (.string m[i]) by
                obtain ⟨a', h1, _, _, h4⟩ := HM.out.below t i _ (cs_get m i hlt)
                obtain rfl : a = a' := Option.some.inj h1
                exact h4))
              rw [texts_drop m i hlt, List.append_assoc] at two
              have HC1 := Lib.hid (two_textR two.drew m[i].size (by omega) m[i] (read_text (m[i].size : Int) m[i] _ (by omega) (by omega)))
              have HC2 := Lib.hid (fun (W : World) (t : Two wb W dr dq (ba (Pk.texts (tx (m.drop (i + 1))))) (ba (Pk.text m[i].data.toList ++ (Pk.texts (tx (m.drop (i + 1))) ++ [b])))) => two_textQ t 200 (by omega) (by omega) m[i] (read_text 200 m[i] _ (by omega) (by omega)))
              generalize m[i] = z at *
              clear two
              go_wp2_with fail
              go_region_held3 (fun w' => w'.cell? (a.add i) = some (.string z))
                (first | go_keep | (exact S2) | (exact S3))
                (first
                  | (go_at_call 20
                     have HC3 := HC2.out _ two12
                     refine HC3.mono ?_
                     rintro e w13 ⟨rfl, two13⟩
                     have S3 := HAc.out _ two13.bel)
                  | (go_at_call 20
                     refine HC1.out.mono ?_
                     rintro e w12 ⟨rfl, two12⟩
                     have S2 := HAc.out _ two12.bel))
              go_wp2_with fail
              go_roundw
              case rel => exact ⟨i + 1, by omega, by go_num, two13⟩
              case measure => simp [intOf]; omega
            · obtain rfl : i = m.length := by omega
              rw [List.drop_length] at two
              have two' : Two wb wr dr dq (ba []) (ba [b]) := two
              clear two
              have HWB : Hid (Below w.heap.size w wr) := Lib.hid (HB2.out.trans (two'.bel.mono hz2))
              have HW := Lib.hid two'
              clear two'
              have hbW : Below wr.heap.size wr (wr.alloc (.cells #[.int .u8 (b.toNat : Int)] 5)).drew := ((Below.refl _ wr).alloc (Nat.le_refl _) _).drew
              have HEr := Lib.hid (end_any HW.out.drew.atR)
              have HEq := Lib.hid (end_any HW.out.drew.atQ)
              rw [endB_ba] at HEr HEq
              have HGr := Lib.hid (good_any HW.out.drew.atR)
              have HGq := Lib.hid (good_any HW.out.drew.atQ)
              have HRa := Lib.hid (rest_any HW.out.drew.atQ)
              have HRb := Lib.hid (rest_any (HW.out.after hbW).atQ)
              rw [show (some (ba [b])).getD (⟨#[]⟩ : ByteArray) = ba [b] from rfl] at HRa HRb
              have hcv : ∀ (W : World) (g : Nat), W.cell? ⟨g, 0, none⟩ = some (.int .u8 (b.toNat : Int)) → (convert 27 9 (.slice (some ⟨g, 0, none⟩) 1 1)).run Try.prog W = .ok (.string (ba [b])) W := fun W g h => run_one W g _ b rfl h
              generalize ba [b] = X at *
              have HWF : Hid (Below w.heap.size w (wr.alloc (.cells #[.int .u8 (b.toNat : Int)] 5)).drew) := Lib.hid ((HWB.out.alloc HWB.out.size _).drew)
              clear hbW HW HWB
              go_wp2_with fail
              go_region_with (first
                | (go_at_call 28
                   have hx := mark1
                   refine HEq.out.mono ?_
                   rintro e w14 ⟨rfl, rfl⟩)
                | (go_at_call 28
                   refine HEr.out.mono ?_
                   rintro e w14 ⟨rfl, rfl⟩
                   have mark1 := trivial)
                | (go_at_call 27
                   have hx := mark2
                   refine HGq.out.mono ?_
                   rintro e w14 ⟨rfl, rfl⟩)
                | (go_at_call 27
                   refine HGr.out.mono ?_
                   rintro e w14 ⟨rfl, rfl⟩
                   have mark2 := trivial)
                | (go_at_call 30
                   first
                     | refine HRa.out.mono ?_
                     | refine HRb.out.mono ?_
                   rintro e w14 ⟨rfl, rfl⟩))
              all_goals go_wp2_with fail
              all_goals go_ret
              all_goals exact ⟨rfl, HWF.out⟩

/-! ### The row -/
theorem contract (H : Type) (enc : TypeId × Value → H) (W : World) (base : Nat) (args : Array Value) (ds gs : List (DataW H)) (before : List MemPlace)
    (hval : ∀ (j : Nat) t v, Try.f5.params[j]? = some t → args[j]? = some v → Value.okWide Try.prog W .any base t v)
    (hW : DataW.Whole enc Try.prog Try.f5.params.toList Rows.packBackSpec.vars false W args.toList ds gs before) :
    Calls Try.prog 5 args W fun e W' => ∃ v, e = .returned v ∧ Rows.packBackSpec.post enc Try.prog Try.f5 false true false false W args v W' := by
  have hW' := hW
  obtain ⟨p, q, hA0, hV, rfl, hfz, hnd⟩ := hW
  have hA : DataW.TrodAll enc Try.prog W 0 (fun _ => true) true Try.f5.params.toList args.toList ds p := hA0
  rw [Try.params5] at hA hval
  obtain ⟨v0, vs0, d0, ds0, p0, q0, hargs, rfl, rfl, h0, r0⟩ := trodAll_cons hA
  obtain ⟨v1, vs1, d1, ds1, p1, q1, rfl, rfl, rfl, h1, r1⟩ := trodAll_cons r0
  obtain ⟨v2, vs2, d2, ds2, p2, q2, rfl, rfl, rfl, h2, r2⟩ := trodAll_cons r1
  obtain ⟨rfl, rfl, rfl⟩ := trodAll_nil r2
  obtain rfl : args = #[v0, v1, v2] := by cases args; simp_all
  obtain ⟨rfl, rfl⟩ := trodVars_none hV
  refine law_contract (tb := 4) laidOut (by kernel_rfl) rfl (by kernel_rfl) Try.underlying4 rfl hW' ?_
  clear hA0 hW' hA
  have h0c := h0
  obtain ⟨A0, k0, l0, rfl, z0, s0, g0⟩ := opened_nums (open_rows Try.underlying22 cellsU64 (by omega) (hval 0 22 v0 rfl rfl) h0) Try.underlying33
  obtain ⟨A1, k1, l1, rfl, z1, s1, g1⟩ := opened_texts (open_texts Try.underlying23 Try.underlying9 cellsStr (hval 1 23 v1 rfl rfl) h1)
  obtain ⟨a2, rfl, rfl, rfl, w2⟩ := open_int Try.underlying5 (hval 2 5 v2 rfl rfl) h2
  obtain ⟨n2, rfl, b2⟩ := bounds_u8 w2
  have e2 : (n2 : Int) = (((UInt8.ofNat n2).toNat : Nat) : Int) := by rw [Pk.toNat_ofNat (by omega)]
  rw [e2]
  exact walk A0 A1 k0 k1 l0 l1 (UInt8.ofNat n2) W z0 z1 s0 s1 g0 g1 (open_cap Try.underlying22 h0c)

set_option maxRecDepth 100000 in
theorem lifted (os : Os) (started : os.Started) (H : Type) (enc : TypeId × Value → H) :
    ReturnsInHanded {} Try.checked os 5 .any (Rows.packBackSpec.pre6 enc Try.prog Try.f5 Rows.packBackRow.domain false) (Rows.packBackSpec.post enc Try.prog Try.f5 false true false false) := by
  refine returnsInHanded_of_change (C := Try.checked) own started (by kernel_rfl) Try.func5
    (ChangeSpec.witness6 (enc := enc) (C := Try.checked) false ⟨#[], #[.slice none 0 0, .slice none 0 0, .int .u8 0], []⟩ 8 (by kernel_rfl) (by kernel_rfl) (by kernel_rfl) (by kernel_rfl)) ?_
  intro W base args ds gs before hval hW _ _
  exact contract H enc W base args ds gs before hval hW

/-- THE STATEMENT. -/
theorem said : Rows.PackBackSaid :=
  OpenClaim.holds_of_wide 5 Try.f5 rfl rfl rfl rfl rfl rfl rfl ⟨rfl, rfl, rfl, rfl, rfl⟩ rfl rfl rfl rfl rfl (by kernel_rfl) Try.func5 (by kernel_rfl)
    (of_decide_eq_true (by kernel_rfl)) (by unfold Func.isWrapper; first | (rw [if_pos (by decide +kernel)]; kernel_rfl) | (rw [if_neg (by decide +kernel)]; exact ⟨rfl, rfl⟩))
    (fun os started H enc _ => lifted os started H enc)
#print axioms said
end Go.Proofs.Ytkfkaijaenjngaa.packBack
