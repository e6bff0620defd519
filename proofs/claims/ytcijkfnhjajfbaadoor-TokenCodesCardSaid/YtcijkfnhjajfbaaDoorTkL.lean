/-
  Contracts of the document's own Decode, Token and IsToken. Condition: texts of at most 100000 bytes.
-/
import Derived.Test.YtcijkfnhjajfbaaDoorTkK
import Derived.Test.YtcijkfnhjajfbaaDoorTkM
namespace Go.Proofs.YtcijkfnhjajfbaaDoor
open Go.RowKit

/-- A byte out of eight bits; so many bytes out of the first so many bits. -/
def num8 (f : Nat → Bool) (t : Nat) : Nat := Tk.num ((List.range 8).map fun k => f (8 * t + k))
def upto_ (D : List Bool) (m p : Nat) : Bool := decide (p < m) && D.getD p false
def part (D : List Bool) (N m : Nat) : List UInt8 := (List.range N).map fun t => UInt8.ofNat (num8 (upto_ D m) t)
theorem part_length (D : List Bool) (N m : Nat) : (part D N m).length = N := by simp [part]
theorem num8_lt (f : Nat → Bool) (t : Nat) : num8 f t < 256 := by
  have := Tk.num_lt ((List.range 8).map fun k => f (8 * t + k))
  simpa [num8] using this
theorem num8_eq (f : Nat → Bool) (t : Nat) : num8 f t = 128 * (f (8 * t)).toNat + 64 * (f (8 * t + 1)).toNat + 32 * (f (8 * t + 2)).toNat + 16 * (f (8 * t + 3)).toNat + 8 * (f (8 * t + 4)).toNat + 4 * (f (8 * t + 5)).toNat + 2 * (f (8 * t + 6)).toNat + (f (8 * t + 7)).toNat := by
  unfold num8
  rw [show (List.range 8) = [0, 1, 2, 3, 4, 5, 6, 7] from rfl]
  simp only [List.map_cons, List.map_nil, Tk.num, List.foldl_cons, List.foldl_nil, Nat.add_zero]
  omega
theorem upto_other (D : List Bool) (m p : Nat) (h : p ≠ m) : upto_ D (m + 1) p = upto_ D m p := by
  unfold upto_
  rw [show decide (p < m + 1) = decide (p < m) by rw [decide_eq_decide]; omega]
theorem upto_here (D : List Bool) (m : Nat) : upto_ D m m = false ∧ upto_ D (m + 1) m = D.getD m false := by
  unfold upto_
  simp
theorem num8_other (D : List Bool) (m t : Nat) (h : t ≠ m / 8) : num8 (upto_ D (m + 1)) t = num8 (upto_ D m) t := by
  rw [num8_eq, num8_eq]
  rw [upto_other D m _ (by omega), upto_other D m _ (by omega), upto_other D m _ (by omega), upto_other D m _ (by omega), upto_other D m _ (by omega), upto_other D m _ (by omega), upto_other D m _ (by omega), upto_other D m _ (by omega)]
theorem num8_here (D : List Bool) (m : Nat) : num8 (upto_ D (m + 1)) (m / 8) = num8 (upto_ D m) (m / 8) + (D.getD m false).toNat * 2 ^ (7 - m % 8) := by
  obtain ⟨h0, h1⟩ := upto_here D m
  obtain ⟨q, hq⟩ : ∃ q, m / 8 = q := ⟨_, rfl⟩
  have hm : m % 8 < 8 := Nat.mod_lt _ (by decide)
  rw [num8_eq, num8_eq, hq]
  generalize D.getD m false = b at h1 ⊢
  have key : ∀ k, k < 8 → k ≠ m % 8 → upto_ D (m + 1) (8 * q + k) = upto_ D m (8 * q + k) := fun k hk hne => upto_other D m _ (by omega)
  have here0 : upto_ D m (8 * q + m % 8) = false := by rw [show 8 * q + m % 8 = m by omega]; exact h0
  have here1 : upto_ D (m + 1) (8 * q + m % 8) = b := by rw [show 8 * q + m % 8 = m by omega]; exact h1
  generalize m % 8 = r at hm key here0 here1 ⊢
  match r, hm with
  | 0, _ => rw [key 1 (by omega) (by omega), key 2 (by omega) (by omega), key 3 (by omega) (by omega), key 4 (by omega) (by omega), key 5 (by omega) (by omega), key 6 (by omega) (by omega), key 7 (by omega) (by omega)]; simp only [Nat.add_zero] at here0 here1; rw [here0, here1]; simp <;> omega
  | 1, _ => have k0 := key 0 (by omega) (by omega); simp only [Nat.add_zero] at k0; rw [k0, key 2 (by omega) (by omega), key 3 (by omega) (by omega), key 4 (by omega) (by omega), key 5 (by omega) (by omega), key 6 (by omega) (by omega), key 7 (by omega) (by omega), here0, here1]; simp <;> omega
  | 2, _ => have k0 := key 0 (by omega) (by omega); simp only [Nat.add_zero] at k0; rw [k0, key 1 (by omega) (by omega), key 3 (by omega) (by omega), key 4 (by omega) (by omega), key 5 (by omega) (by omega), key 6 (by omega) (by omega), key 7 (by omega) (by omega), here0, here1]; simp <;> omega
  | 3, _ => have k0 := key 0 (by omega) (by omega); simp only [Nat.add_zero] at k0; rw [k0, key 1 (by omega) (by omega), key 2 (by omega) (by omega), key 4 (by omega) (by omega), key 5 (by omega) (by omega), key 6 (by omega) (by omega), key 7 (by omega) (by omega), here0, here1]; simp <;> omega
  | 4, _ => have k0 := key 0 (by omega) (by omega); simp only [Nat.add_zero] at k0; rw [k0, key 1 (by omega) (by omega), key 2 (by omega) (by omega), key 3 (by omega) (by omega), key 5 (by omega) (by omega), key 6 (by omega) (by omega), key 7 (by omega) (by omega), here0, here1]; simp <;> omega
  | 5, _ => have k0 := key 0 (by omega) (by omega); simp only [Nat.add_zero] at k0; rw [k0, key 1 (by omega) (by omega), key 2 (by omega) (by omega), key 3 (by omega) (by omega), key 4 (by omega) (by omega), key 6 (by omega) (by omega), key 7 (by omega) (by omega), here0, here1]; simp <;> omega
  | 6, _ => have k0 := key 0 (by omega) (by omega); simp only [Nat.add_zero] at k0; rw [k0, key 1 (by omega) (by omega), key 2 (by omega) (by omega), key 3 (by omega) (by omega), key 4 (by omega) (by omega), key 5 (by omega) (by omega), key 7 (by omega) (by omega), here0, here1]; simp <;> omega
  | 7, _ => have k0 := key 0 (by omega) (by omega); simp only [Nat.add_zero] at k0; rw [k0, key 1 (by omega) (by omega), key 2 (by omega) (by omega), key 3 (by omega) (by omega), key 4 (by omega) (by omega), key 5 (by omega) (by omega), key 6 (by omega) (by omega), here0, here1]; simp <;> omega
theorem part_get (D : List Bool) (N m t : Nat) (h : t < (part D N m).length) : (part D N m)[t] = UInt8.ofNat (num8 (upto_ D m) t) := by simp [part]
/-- No byte is turned: the bit is 0, or lies behind. -/
theorem part_same (D : List Bool) (N m : Nat) (h : D.getD m false = false ∨ N ≤ m / 8) : part D N (m + 1) = part D N m := by
  apply List.ext_getElem
  · simp [part]
  · intro t h1 h2
    rw [part_get, part_get]
    by_cases ht : t = m / 8
    · subst ht
      rcases h with h | h
      · rw [num8_here, h]; simp
      · rw [part_length] at h1; omega
    · rw [num8_other D m t ht]
theorem part_set (D : List Bool) (N m : Nat) (_h : m / 8 < N) : part D N (m + 1) = (part D N m).set (m / 8) (UInt8.ofNat (num8 (upto_ D (m + 1)) (m / 8))) := by
  apply List.ext_getElem
  · simp [part]
  · intro t h1 h2
    rw [part_get, List.getElem_set]
    by_cases ht : m / 8 = t
    · rw [if_pos ht, ht]
    · rw [if_neg ht, part_get, num8_other D m t (fun e => ht e.symm)]
theorem part_zero (D : List Bool) (N : Nat) : part D N 0 = List.replicate N 0 := by
  apply List.ext_getElem
  · simp [part]
  · intro t h1 h2
    rw [part_get, num8_eq]
    simp [upto_]
theorem part_all (D : List Bool) : part D (D.length / 8) D.length = Tk.bytes D := by
  apply List.ext_getElem
  · simp [part, Tk.bytes]
  · intro t h1 h2
    rw [part_get]
    have ht : t < D.length / 8 := by rw [part_length] at h1; exact h1
    simp only [Tk.bytes, List.getElem_map, List.getElem_range, Tk.byteAt]
    congr 1
    unfold num8
    congr 1
    apply List.ext_getElem
    · simp; omega
    · intro k h3 h4
      have hk : k < 8 := by simpa using h3
      simp only [List.getElem_map, List.getElem_range, List.getElem_take, List.getElem_drop]
      unfold upto_
      rw [decide_eq_true (by omega), Bool.true_and, List.getD_eq_getElem?_getD, List.getElem?_eq_getElem (by omega)]
      rfl
theorem dbits_get (L : List UInt8) (i k : Nat) (h : i < L.length) (hk : k < 5) : (Tk.dbits L).getD (5 * i + k) false = (Tk.val L[i]).testBit (4 - k) := by
  have h1 := Tk.dbits_append (L.take i) (L.drop i)
  rw [List.take_append_drop, List.drop_eq_getElem_cons h] at h1
  have h2 : ∀ (b : UInt8) (t : List UInt8), Tk.dbits (b :: t) = Tk.bitsN 5 (Tk.val b) ++ Tk.dbits t := fun b t => by simp [Tk.dbits]
  rw [h2] at h1
  have hl1 : (Tk.dbits (L.take i)).length = 5 * i := by rw [Tk.dbits_length, List.length_take, Nat.min_eq_left (by omega)]
  rw [h1, List.getD_eq_getElem?_getD, List.getElem?_append_right (by omega), hl1, List.getElem?_append_left (by rw [Tk.bitsN_length]; omega), ← List.getD_eq_getElem?_getD, show 5 * i + k - 5 * i = k by omega, bitsN_get 5 _ k hk]
theorem dec_bad {L : List UInt8} {i : Nat} (h : i < L.length) (hd : Tk.isDig L[i] = false) : decS L = ba [] ∧ decB L = false := by
  have hn : Tk.dec L = none := by
    apply Tk.dec_none
    rintro ⟨h1, _⟩
    have := List.all_eq_true.1 h1 L[i] (List.getElem_mem h)
    rw [hd] at this
    cases this
  unfold decS decB
  rw [hn]
  exact ⟨rfl, rfl⟩
theorem two_pow_le (e : Nat) (h : e ≤ 7) : 2 ^ e ≤ 128 := Nat.pow_le_pow_right (by decide) h

set_option maxHeartbeats 8000000 in
set_option maxRecDepth 100000 in
theorem ref_decode (s : ByteArray) (hs : s.size ≤ 100000) (w : World) :
    Calls Tryd.prog 14 #[.string s] w fun e w' => e = .returned (.tuple #[.string (decS s.data.toList), .bool (decB s.data.toList)]) ∧ Below w.heap.size w w' := by
  obtain ⟨L, hL⟩ : ∃ L, s.data.toList = L := ⟨_, rfl⟩
  have hLl : L.length = s.size := by rw [← hL]; simp
  have hsb : s = ba L := by rw [← hL, ba_back]
  have HL := Lib.hid hL
  have HSB := Lib.hid hsb
  obtain ⟨N, hN⟩ : ∃ N, s.size * 5 / 8 = N := ⟨_, rfl⟩
  have hNi : (s.size : Int) * 5 / 8 = (N : Int) := by omega
  have hN1 : N ≤ 62500 := by omega
  have hmk := make_bytes N (by omega) w
  have HB0 := Lib.hid ((Below.refl w.heap.size w).alloc (Nat.le_refl _) (.cells (cb (List.replicate N 0)).toArray 5))
  have HK0 := Lib.hid (Blk.new w 5 (cb (List.replicate N 0)).toArray)
  obtain ⟨D, hD⟩ : ∃ D, Tk.dbits L = D := ⟨_, rfl⟩
  have hDl : D.length = 5 * s.size := by rw [← hD, Tk.dbits_length, hLl]
  have HD := Lib.hid hD
  have HDL := Lib.hid hDl
  have HVAL := Lib.hid (fun c W => ref_value c W)
  rw [← part_zero D N] at HK0 HB0 hmk
  clear hL hsb hD hDl
  go_enter Tryd.func14, Tryd.ntmps14
  go_wp2_with fail
  generalize w.alloc _ = W1 at HB0 HK0 ⊢
  clear hmk hNi
  obtain ⟨g, hg⟩ : ∃ g, w.heap.size = g := ⟨_, rfl⟩
  have HG := Lib.hid hg
  rw [hg] at HK0 HB0 ⊢
  go_loopw [5, 6, 7, 8] (fun i _ _ _ wr => ∃ j : Nat, j ≤ s.size ∧ i = .int .i64 (j : Int) ∧ Blk wr g 5 (cb (part D N (5 * j))).toArray ∧ Below g w wr ∧ (∀ t (h : t < L.length), t < j → Tk.isDig L[t] = true)) (fun i _ _ _ _ => s.size - (intOf i).toNat)
  case atStart => exact ⟨0, by omega, rfl, HK0.out, HB0.out, fun t _ h => by omega⟩
  case round =>
    clear HK0 HB0
    obtain ⟨j, hj, rfl, hbk, hB, hval⟩ := hrel
    have HBK := Lib.hid hbk
    have HBL := Lib.hid hB
    have HVL := Lib.hid hval
    clear hbk hB hval
    by_cases hlt : j < s.size
    · have hji : (j : Int) < (s.size : Int) := by omega
      have hjL : j < L.length := by omega
      have hsx : L[j]'hjL = s[j] := by
        have h1 : s.data.toList = L := HL.out
        subst h1
        simp
        rfl
      obtain ⟨c, hc⟩ : ∃ c, s[j] = c := ⟨_, rfl⟩
      have hcl : L[j]'hjL = c := by rw [hsx, hc]
      have HCL := Lib.hid hcl
      have HV := Lib.hid (HVAL.out c wr)
      clear hcl hsx
      cases hdg : Tk.isDig c with
      | false =>
        rw [show valI c = -1 by unfold valI; rw [if_neg (by rw [hdg]; decide)]] at HV
        have hf := Lib.hid (dec_bad hjL (by rw [HCL.out]; exact hdg))
        go_wp2_with fail
        refine HV.out.mono ?_
        rintro e w2 ⟨rfl, rfl⟩
        go_wp2_with fail
        go_ret2
        refine ⟨?_, by (try rw [HG.out]); exact HBL.out⟩
        (try rw [HL.out])
        rw [hf.out.1, hf.out.2]
        rfl
      | true =>
        have hv32 := (Tk.dig_val c hdg).2
        have hvb := fun (k : Nat) (hk : k < 5) => dbits_get L j k hjL hk
        simp only [HCL.out, HD.out] at hvb
        have HDG := Lib.hid hdg
        rw [show valI c = (Tk.val c : Int) by unfold valI; rw [if_pos hdg]] at HV
        generalize Tk.val c = v at hv32 hvb HV
        have HVB := Lib.hid hvb
        have hvn : ¬ (v : Int) < 0 := by omega
        clear hvb hdg
        go_wp2_with fail
        refine HV.out.mono ?_
        rintro e w2 ⟨rfl, rfl⟩
        go_wp2_with fail
        go_loopw [7, 8] (fun k _ wr => ∃ q : Nat, q ≤ 5 ∧ k = .int .i64 (q : Int) ∧ Blk wr g 5 (cb (part D N (5 * j + q))).toArray ∧ Below g w wr) (fun k _ _ => 5 - (intOf k).toNat)
        case atStart => exact ⟨0, by omega, rfl, HBK.out, HBL.out⟩
        case round =>
          clear HBK HBL HV
          obtain ⟨q, hq, rfl, hbk, hB⟩ := hrel
          by_cases hq5 : q < 5
          · have hqi : (q : Int) < 5 := by omega
            have hbit := HVB.out q hq5
            obtain ⟨m, hm⟩ : ∃ m, 5 * j + q = m := ⟨_, rfl⟩
            have hmi : 5 * (j : Int) + (q : Int) = (m : Int) := by omega
            have hm1 : 5 * j + (q + 1) = m + 1 := by omega
            have HM1 := Lib.hid hm1
            rw [hm] at hbit hbk
            obtain ⟨p, hp⟩ : ∃ p, m / 8 = p := ⟨_, rfl⟩
            have hpi : (m : Int) / 8 = (p : Int) := by omega
            obtain ⟨e2, he2⟩ : ∃ e2, 4 - q = e2 := ⟨_, rfl⟩
            have he2i : 4 - (q : Int) = (e2 : Int) := by omega
            have he2l : e2 ≤ 4 := by omega
            obtain ⟨b, hb⟩ : ∃ b, D.getD m false = b := ⟨_, rfl⟩
            rw [hb, he2] at hbit
            have hand : (bits BinOp.and IntKind.i64 ((v : Int) / 2 ^ e2) 1 == 1) = b := by
              rw [show ((v : Int) / 2 ^ e2) = ((v / 2 ^ e2 : Nat) : Int) by push_cast; rfl, i64_and1 _ (Nat.lt_of_le_of_lt (Nat.div_le_self _ _) (by omega)), testBit_nat, ← hbit]
              cases b <;> rfl
            have hmb : m ≤ 600000 := by omega
            have HB := Lib.hid hB
            by_cases hpN : p < N
            · have hpNi : (p : Int) < (N : Int) := by omega
              cases b with
              | true =>
                have hset := part_set D N m (by omega)
                have hn8 := num8_here D m
                rw [hb, hp] at hn8
                rw [hp] at hset
                have hn8l := num8_lt (upto_ D (m + 1)) p
                have hpl := part_length D N m
                have hgt0 := part_get D N m p (by omega)
                obtain ⟨e, he⟩ : ∃ e, 7 - m % 8 = e := ⟨_, rfl⟩
                have hei : 7 - (m : Int) % 8 = (e : Int) := by omega
                rw [he] at hn8
                obtain ⟨u, hu⟩ : ∃ u : Nat, 2 ^ e = u := ⟨_, rfl⟩
                have hul : u ≤ 128 := by rw [← hu]; exact two_pow_le e (by omega)
                rw [hu] at hn8
                have huw : IntKind.u8.wrap ((2 : Int) ^ e) = (u : Int) := by
                  rw [show ((2 : Int) ^ e) = ((2 ^ e : Nat) : Int) by push_cast; rfl, hu, IntKind.wrap_u8]; omega
                have d1 := hbk.cell p
                have hgt := cb_get (part D N m) p (by omega)
                rw [List.getElem?_toArray, hgt, hgt0] at d1
                obtain ⟨x, hx⟩ : ∃ x, UInt8.ofNat (num8 (upto_ D m) p) = x := ⟨_, rfl⟩
                obtain ⟨y, hy⟩ : ∃ y, UInt8.ofNat (num8 (upto_ D (m + 1)) p) = y := ⟨_, rfl⟩
                have hxn : x.toNat = num8 (upto_ D m) p := by rw [← hx, UInt8.toNat_ofNat', Nat.mod_eq_of_lt (num8_lt _ _)]
                have hyn : y.toNat = num8 (upto_ D (m + 1)) p := by rw [← hy, UInt8.toNat_ofNat', Nat.mod_eq_of_lt (num8_lt _ _)]
                rw [hx] at d1
                rw [hy] at hset
                have hxy : x.toNat + u = y.toNat := by rw [hxn, hyn, hn8]; simp
                have d2 := hbk.frozen p
                have HXE := Lib.hid (show (x.toNat : Int) + (u : Int) = (y.toNat : Int) by omega)
                have HS := Lib.hid (hbk.set_ p (.int .u8 (y.toNat : Int)))
                rw [cb_set, ← hset] at HS
                have HB2 := Lib.hid (hB.setCell (p := ⟨g, p, none⟩) (Nat.le_refl _) (.int .u8 (y.toNat : Int)))
                have hxu : x.toNat + u ≤ 255 := by have := y.toNat_lt; omega
                clear hbk hB hset hn8 hn8l hpl hgt0 hgt hx hy hxn hyn hxy hu he hbit hb hm hp he2 hm1
                go_wp2_with fail
                go_roundw
                case rel => exact ⟨q + 1, by omega, by go_num, by rw [HM1.out, HXE.out]; exact HS.out, by rw [HXE.out]; exact HB2.out⟩
                case measure => simp [intOf]; omega
              | false =>
                have HS := Lib.hid hbk
                rw [← part_same D N m (.inl hb)] at HS
                clear hbk hB hbit hb hm hp he2 hm1
                go_wp2_with fail
                go_roundw
                case rel => exact ⟨q + 1, by omega, by go_num, by rw [HM1.out]; exact HS.out, HB.out⟩
                case measure => simp [intOf]; omega
            · have hpNi : ¬ (p : Int) < (N : Int) := by omega
              have HS := Lib.hid hbk
              rw [← part_same D N m (.inr (by omega))] at HS
              clear hbk hB hbit hb hm hp he2 hm1 hand
              go_wp2_with fail
              go_roundw
              case rel => exact ⟨q + 1, by omega, by go_num, by rw [HM1.out]; exact HS.out, HB.out⟩
              case measure => simp [intOf]; omega
          · obtain rfl : q = 5 := by omega
            have HS := Lib.hid hbk
            have HB := Lib.hid hB
            clear hbk hB
            go_wp2_with fail
            go_roundw
            case rel => exact ⟨j + 1, by omega, by go_num, by rw [show 5 * (j + 1) = 5 * j + 5 by omega]; exact HS.out, HB.out, fun t h ht => by
              rcases Nat.lt_or_ge t j with h1 | h1
              · exact HVL.out t h h1
              · obtain rfl : t = j := by omega
                rw [HCL.out]; exact HDG.out⟩
            case measure => simp [intOf]; omega
    · obtain rfl : j = s.size := by omega
      have hpa := part_all D
      rw [HDL.out, show 5 * s.size / 8 = N by omega] at hpa
      have hbk := HBK.out
      rw [hpa] at hbk
      have hBy : (Tk.bytes D).length = N := by rw [← hpa, part_length]
      have HT : Hid (L.take L.length = L) := Lib.hid (List.take_of_length_le (Nat.le_refl _))
      have HSOME := Lib.hid (fun h => dec_at_some (L := L) (D := Tk.bytes D) h)
      have HNONE := Lib.hid (fun h => dec_at_none (L := L) (pos := L.length) (.inl rfl) h)
      rw [HT.out, HD.out] at HNONE
      generalize Tk.bytes D = Y at hbk hBy HSOME HNONE
      have hbl : BL wr g Y := fun t ht => by
        refine ⟨?_, hbk.frozen t⟩
        rw [hbk.cell t, List.getElem?_toArray, cb_get _ t ht]
      have hcv := hbl.text N N hBy
      have HE := Lib.hid (fun W => ref_encode (ba Y) (by rw [ba_size]; omega) W)
      rw [ba_list] at HE
      have HBK2 := Lib.hid hbk
      obtain ⟨E, hE⟩ : ∃ E, Tk.enc Y = E := ⟨_, rfl⟩
      rw [hE] at HE HSOME HNONE
      clear hE hpa hbl hbk
      obtain ⟨X, hX⟩ : ∃ X, ba E = X := ⟨_, rfl⟩
      rw [hX] at HE
      have HX := Lib.hid hX
      clear hX
      have HYL := Lib.hid hBy
      by_cases hq : X = s
      · have HQ := Lib.hid hq
        have hself : (s.toList == s.toList) = true := by simp
        clear hq
        go_wp2_with (go_at_call 15; refine (HE.out _).mono ?_; rintro e w7 ⟨rfl, b7⟩; refine Hid.out ?_)
        refine Lib.hid ?_
        have B7 := Lib.hid b7
        have hbk7 := HBK2.out.of (b7.block _ HBK2.out.lt)
        have hbl7 : BL w7 g Y := fun t ht => by
          refine ⟨?_, hbk7.frozen t⟩
          rw [hbk7.cell t, List.getElem?_toArray, cb_get _ t ht]
        have hcv2 := hbl7.text N N HYL.out
        clear b7 hbl7 hbk7
        have hqq : X = s := HQ.out
        subst hqq
        go_wp2_with fail
        try rw [Exit.noGoto_ret]
        go_ret2
        have hf := HSOME.out (by have h1 := HX.out; have h2 := HSB.out; rw [h2] at h1; exact ba_inj h1)
        refine ⟨?_, ?_⟩
        · (try rw [HL.out])
          rw [hf.1, hf.2]
          rfl
        · (try rw [HG.out])
          exact HBL.out.trans (B7.out.mono (by have := HBL.out.size; have := HG.out; omega))
      · have HQ := Lib.hid hq
        have hne := str_ne hq
        clear hq
        go_wp2_with (go_at_call 15; refine (HE.out _).mono ?_; rintro e w7 ⟨rfl, b7⟩; refine Hid.out ?_)
        refine Lib.hid ?_
        have B7 := Lib.hid b7
        clear b7
        go_wp2_with fail
        try rw [Exit.noGoto_ret]
        go_ret2
        have hf := HNONE.out (by have h1 := HX.out; have h2 := HSB.out; intro hh; exact HQ.out (by rw [← h1, hh, ← h2]))
        refine ⟨?_, ?_⟩
        · (try rw [HL.out])
          rw [hf.1, hf.2]
          rfl
        · (try rw [HG.out])
          exact HBL.out.trans (B7.out.mono (by have := HBL.out.size; have := HG.out; omega))
end Go.Proofs.YtcijkfnhjajfbaaDoor
