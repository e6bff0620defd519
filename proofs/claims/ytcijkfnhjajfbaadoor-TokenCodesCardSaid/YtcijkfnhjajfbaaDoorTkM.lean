/-
  Contracts of the document's own Clean and Code. Condition: texts of at most 1000000 bytes.
-/
import Derived.Test.YtcijkfnhjajfbaaDoorTkJ
import Derived.Test.YtcijkfnhjajfbaaDoorByt
namespace Go.Proofs.YtcijkfnhjajfbaaDoor
open Go.RowKit

set_option maxHeartbeats 4000000 in
set_option maxRecDepth 100000 in
theorem ref_clean (s : ByteArray) (hs : s.size ≤ 1000000) (w : World) :
    Calls Tryd.prog 21 #[.string s] w fun e w' => e = .returned (.string (ba (Tk.clean s.data.toList))) ∧ Below w.heap.size w w' := by
  obtain ⟨i0, hi, hz, hsz, hy⟩ := info_u8
  have HI := Lib.hid hi
  have HZ := Lib.hid hz
  have HZ1 := Lib.hid hsz
  have HZ2 := Lib.hid hy
  obtain ⟨L, hL⟩ : ∃ L, s.data.toList = L := ⟨_, rfl⟩
  have hLl : L.length = s.size := by rw [← hL]; simp
  have HL := Lib.hid hL
  clear hi hz hsz hy
  go_enter Tryd.func21, Tryd.ntmps21
  go_wp2_with fail
  go_loopw [3, 4, 5] (fun v i _ wr => ∃ k n : Nat, ∃ A c, v = .slice A n c ∧ i = .int .i64 (k : Int) ∧ k ≤ s.size ∧ n = (Tk.clean (L.take k)).length ∧ wr.ownsRow w.heap.size 5 1 (.slice A n c) n (cb (Tk.clean (L.take k))) ∧ Below w.heap.size w wr) (fun _ i _ _ => s.size - (intOf i).toNat)
  case atStart => exact ⟨0, 0, none, 0, rfl, rfl, by omega, by simp [Tk.clean], World.ownsRow_nil _ _ _ _, Below.refl _ _⟩
  case round =>
    obtain ⟨k, n, A, c, rfl, rfl, hk, hn, ho, hB⟩ := hrel
    have hcl := Tk.clean_length (L.take k)
    rw [List.length_take] at hcl
    have HBW := Lib.hid hB
    have HBs := hB.size
    have HOW := Lib.hid ho
    have HN := Lib.hid hn
    have hn2 : n ≤ 1000000 := by omega
    clear ho hB hcl hn
    by_cases hlt : k < s.size
    · have hki : (k : Int) < (s.size : Int) := by omega
      have ht := clean_take_succ L k (by omega)
      have hsx : L[k]'(by omega) = s[k] := by subst hL; simp; rfl
      rw [hsx] at ht
      obtain ⟨x, hx⟩ : ∃ x, s[k] = x := ⟨_, rfl⟩
      rw [hx] at ht
      have hxl : x.toNat < 256 := x.toNat_lt
      by_cases hsk : x.toNat = 32 ∨ x.toNat = 9 ∨ x.toNat = 45
      · rw [skip_byte x hsk, if_neg (by decide), List.append_nil] at ht
        have HT := Lib.hid ht
        have g4 : ¬ ((65 : Int) ≤ (x.toNat : Int)) := by omega
        clear ht hsx
        by_cases h32 : x.toNat = 32
        · have g1 : (x.toNat : Int) = 32 := by omega
          clear hsk h32 g4
          go_wp2_with fail
          go_roundw
          case rel => exact ⟨k + 1, n, A, c, rfl, by go_num, by omega, by rw [HT.out]; exact HN.out, by rw [HT.out]; exact HOW.out, HBW.out⟩
          case measure => simp [intOf]; omega
        · have g1 : ((x.toNat : Int) == 32) = false := by simp; omega
          have g1n : ((x.toNat : Int) != 32) = true := by simp; omega
          by_cases h9 : x.toNat = 9
          · have g2 : (x.toNat : Int) = 9 := by omega
            clear hsk h32 h9 g1 g4
            go_wp2_with fail
            go_roundw
            case rel => exact ⟨k + 1, n, A, c, rfl, by go_num, by omega, by rw [HT.out]; exact HN.out, by rw [HT.out]; exact HOW.out, HBW.out⟩
            case measure => simp [intOf]; omega
          · have g3 : (x.toNat : Int) = 45 := by omega
            clear hsk h32 h9 g1 g4
            go_wp2_with fail
            go_roundw
            case rel => exact ⟨k + 1, n, A, c, rfl, by go_num, by omega, by rw [HT.out]; exact HN.out, by rw [HT.out]; exact HOW.out, HBW.out⟩
            case measure => simp [intOf]; omega
      · rw [keep_byte x hsk, if_pos rfl] at ht
        by_cases h65 : 65 ≤ x.toNat
        · have g4 : (65 : Int) ≤ (x.toNat : Int) := by omega
          by_cases h90 : x.toNat ≤ 90
          · have g5 : (x.toNat : Int) ≤ 90 := by omega
            have hlo := lower_up x ⟨h65, h90⟩
            generalize Tk.lower x = y at ht hlo
            have hyw : (x.toNat : Int) - 65 + 97 = (y.toNat : Int) := by omega
            have g1 : ((x.toNat : Int) - 65 + 97 == 32) = false := by simp; omega
            have g1n : ((x.toNat : Int) - 65 + 97 != 32) = true := by simp; omega
            have g2 : ((x.toNat : Int) - 65 + 97 == 9) = false := by simp; omega
            have g2n : ((x.toNat : Int) - 65 + 97 != 9) = true := by simp; omega
            have g3 : ((x.toNat : Int) - 65 + 97 == 45) = false := by simp; omega
            have g3n : ((x.toNat : Int) - 65 + 97 != 45) = true := by simp; omega
            have HT := Lib.hid ht
            have HYW := Lib.hid hyw
            have hblk0 := Blk.new wr 5 #[.int .u8 ((x.toNat : Int) - 65 + 97)]
            have hown0 : (wr.alloc (.cells #[.int .u8 ((x.toNat : Int) - 65 + 97)] 5)).ownsRow w.heap.size 5 1 (.slice A n c) n (cb (Tk.clean (L.take k))) := HOW.out.alloc _
            clear ht hsx hyw
            go_wp2_with
              (at_builtin
               refine wpList_append_lies _ rfl (.tmp 34) (.tmp 36) 33 rfl w.heap.size 5 i0 _ 1 1 Tryd.underlying33 HI.out HZ.out HZ1.out HZ2.out rfl (by decide) (.slice A n c) n (cb (Tk.clean (L.take k))) rfl hown0 ⟨wr.heap.size, 0, none⟩ 1 1 [.int .u8 ((x.toNat : Int) - 65 + 97)] rfl rfl (World.news_of_block hblk0) (by intro u hu; simp at hu; subst hu; rfl) (by omega) (by unfold maxLen; omega) (by omega) (by simp; omega) (wr.heap.size + 1) (by simp) ?_
               intro g cap w2 hown2 hgrow hat hlt2
               have HO2 := Lib.hid hown2
               have HB2 := Lib.hid ((HBW.out.alloc HBs _).grown hgrow (by simp; omega) (fun j hj => own_base HOW.out hj))
               clear hown2 hgrow hat hlt2 hown0 hblk0)
            go_roundw
            case rel => exact ⟨k + 1, n + 1, _, _, rfl, by go_num, by omega, by rw [HT.out, List.length_append, ← HN.out]; rfl, by rw [HT.out]; have h := HO2.out; rw [HYW.out] at h; simpa [cb] using h, HB2.out⟩
            case measure => simp [intOf]; omega
          · have g5 : ¬ ((x.toNat : Int) ≤ 90) := by omega
            rw [lower_not x (by omega)] at ht
            have g1 : ((x.toNat : Int) == 32) = false := by simp; omega
            have g1n : ((x.toNat : Int) != 32) = true := by simp; omega
            have g2 : ((x.toNat : Int) == 9) = false := by simp; omega
            have g2n : ((x.toNat : Int) != 9) = true := by simp; omega
            have g3 : ((x.toNat : Int) == 45) = false := by simp; omega
            have g3n : ((x.toNat : Int) != 45) = true := by simp; omega
            have HT := Lib.hid ht
            have hblk0 := Blk.new wr 5 #[.int .u8 ((x.toNat : Int))]
            have hown0 : (wr.alloc (.cells #[.int .u8 ((x.toNat : Int))] 5)).ownsRow w.heap.size 5 1 (.slice A n c) n (cb (Tk.clean (L.take k))) := HOW.out.alloc _
            clear ht hsx
            go_wp2_with
              (at_builtin
               refine wpList_append_lies _ rfl (.tmp 34) (.tmp 36) 33 rfl w.heap.size 5 i0 _ 1 1 Tryd.underlying33 HI.out HZ.out HZ1.out HZ2.out rfl (by decide) (.slice A n c) n (cb (Tk.clean (L.take k))) rfl hown0 ⟨wr.heap.size, 0, none⟩ 1 1 [.int .u8 ((x.toNat : Int))] rfl rfl (World.news_of_block hblk0) (by intro u hu; simp at hu; subst hu; rfl) (by omega) (by unfold maxLen; omega) (by omega) (by simp; omega) (wr.heap.size + 1) (by simp) ?_
               intro g cap w2 hown2 hgrow hat hlt2
               have HO2 := Lib.hid hown2
               have HB2 := Lib.hid ((HBW.out.alloc HBs _).grown hgrow (by simp; omega) (fun j hj => own_base HOW.out hj))
               clear hown2 hgrow hat hlt2 hown0 hblk0)
            go_roundw
            case rel => exact ⟨k + 1, n + 1, _, _, rfl, by go_num, by omega, by rw [HT.out, List.length_append, ← HN.out]; rfl, by rw [HT.out]; simpa [cb] using HO2.out, HB2.out⟩
            case measure => simp [intOf]; omega
        · have g4 : ¬ ((65 : Int) ≤ (x.toNat : Int)) := by omega
          rw [lower_not x (by omega)] at ht
          have g1 : ((x.toNat : Int) == 32) = false := by simp; omega
          have g1n : ((x.toNat : Int) != 32) = true := by simp; omega
          have g2 : ((x.toNat : Int) == 9) = false := by simp; omega
          have g2n : ((x.toNat : Int) != 9) = true := by simp; omega
          have g3 : ((x.toNat : Int) == 45) = false := by simp; omega
          have g3n : ((x.toNat : Int) != 45) = true := by simp; omega
          have HT := Lib.hid ht
          have hblk0 := Blk.new wr 5 #[.int .u8 ((x.toNat : Int))]
          have hown0 : (wr.alloc (.cells #[.int .u8 ((x.toNat : Int))] 5)).ownsRow w.heap.size 5 1 (.slice A n c) n (cb (Tk.clean (L.take k))) := HOW.out.alloc _
          clear ht hsx
          go_wp2_with
            (at_builtin
             refine wpList_append_lies _ rfl (.tmp 34) (.tmp 36) 33 rfl w.heap.size 5 i0 _ 1 1 Tryd.underlying33 HI.out HZ.out HZ1.out HZ2.out rfl (by decide) (.slice A n c) n (cb (Tk.clean (L.take k))) rfl hown0 ⟨wr.heap.size, 0, none⟩ 1 1 [.int .u8 ((x.toNat : Int))] rfl rfl (World.news_of_block hblk0) (by intro u hu; simp at hu; subst hu; rfl) (by omega) (by unfold maxLen; omega) (by omega) (by simp; omega) (wr.heap.size + 1) (by simp) ?_
             intro g cap w2 hown2 hgrow hat hlt2
             have HO2 := Lib.hid hown2
             have HB2 := Lib.hid ((HBW.out.alloc HBs _).grown hgrow (by simp; omega) (fun j hj => own_base HOW.out hj))
             clear hown2 hgrow hat hlt2 hown0 hblk0)
          go_roundw
          case rel => exact ⟨k + 1, n + 1, _, _, rfl, by go_num, by omega, by rw [HT.out, List.length_append, ← HN.out]; rfl, by rw [HT.out]; simpa [cb] using HO2.out, HB2.out⟩
          case measure => simp [intOf]; omega
    · obtain rfl : k = s.size := by omega
      have hno := HN.out
      have ho := HOW.out
      rw [List.take_of_length_le (by omega)] at hno ho
      rw [hno] at ho
      have hcv := run_own_text ho
      rw [← hno] at hcv
      clear ho hno
      go_wp2_with fail
      go_ret
      exact ⟨by (try rw [HL.out]); rfl, HBW.out⟩

theorem zeros_made (n : Nat) : madeCells (Value.int .u8 0).cells n = (cb (List.replicate n 0)).toArray := by
  apply Array.ext
  · simp [madeCells, cb]
  · intro i h1 h2
    simp [madeCells, cb, Value.cells, Nat.mod_one]
theorem make_bytes (n : Nat) (h : n ≤ 131072) : ∀ W : World, (Instr.makeSlice 33 (.int .i64 (n : Int)) (.int .i64 (n : Int))).run Tryd.prog W = .ok (.slice (some ⟨W.heap.size, 0, none⟩) n n) (W.alloc (.cells (cb (List.replicate n 0)).toArray 5)) := by
  intro W
  obtain ⟨i, hi, hz, hs, hb⟩ := info_u8
  have hr := run_make (P := Tryd.prog) W 33 5 i (.int .u8 0) Tryd.underlying33 hi hz .i64 .i64 n n (by omega) (by omega) (by rw [hb]; omega) (by omega)
  rw [hr, hs]
  simp only [Int.toNat_natCast, Nat.mul_one, zeros_made]
/-- The code's bytes, the last so many of them told. -/
def codeTo (r j : Nat) : List UInt8 := (List.range 6).map fun t => if t < 6 - j then 0 else Tk.cd r t
theorem codeTo_zero (r : Nat) : codeTo r 0 = List.replicate 6 0 := rfl
theorem codeTo_six (r : Nat) : codeTo r 6 = Tk.code r := rfl
theorem codeTo_set (r j : Nat) (hj : j < 6) : (codeTo r j).set (5 - j) (Tk.cd r (5 - j)) = codeTo r (j + 1) := by
  apply List.ext_getElem
  · simp [codeTo]
  · intro t h1 h2
    have ht : t < 6 := by simpa [codeTo] using h2
    rw [List.getElem_set]
    simp only [codeTo, List.getElem_map, List.getElem_range]
    by_cases e : 5 - j = t
    · rw [if_pos e, if_neg (by omega), e]
    · rw [if_neg e]
      by_cases h : t < 6 - j
      · rw [if_pos h, if_pos (by omega)]
      · rw [if_neg h, if_neg (by omega)]
theorem codeTo_length (r j : Nat) : (codeTo r j).length = 6 := by simp [codeTo]
theorem cb_set (l : List UInt8) (k : Nat) (x : UInt8) : (cb l).toArray.setIfInBounds k (.int .u8 (x.toNat : Int)) = (cb (l.set k x)).toArray := by
  simp [cb, List.map_set]
set_option maxHeartbeats 4000000 in
set_option maxRecDepth 100000 in
theorem ref_code (d : Nat) (hd : d ≤ 18446744073709551615) (w : World) :
    Calls Tryd.prog 9 #[.int .u64 (d : Int)] w fun e w' => e = .returned (.string (ba (Tk.code (d % 1000000)))) ∧ Below w.heap.size w w' := by
  obtain ⟨r, hr⟩ : ∃ r, d % 1000000 = r := ⟨_, rfl⟩
  have hri : (d : Int) % 1000000 = (r : Int) := by omega
  have hr6 : r < 1000000 := by omega
  have hmk : (Instr.makeSlice 33 (.int .i64 6) (.int .i64 6)).run Tryd.prog w = .ok (.slice (some ⟨w.heap.size, 0, none⟩) 6 6) (w.alloc (.cells (cb [0, 0, 0, 0, 0, 0]).toArray 5)) := make_bytes 6 (by decide) w
  have HB0 := Lib.hid ((Below.refl w.heap.size w).alloc (Nat.le_refl _) (.cells (cb [0, 0, 0, 0, 0, 0]).toArray 5))
  have HK0 := Lib.hid (Blk.new w 5 (cb [0, 0, 0, 0, 0, 0]).toArray)
  rw [hr]
  clear hr
  go_enter Tryd.func9, Tryd.ntmps9
  go_wp2_with fail
  generalize w.alloc _ = W1 at HB0 HK0 ⊢
  clear hmk
  go_loopw [3, 5] (fun n i wr => ∃ j : Nat, j ≤ 6 ∧ n = .int .u64 ((r / 10 ^ j : Nat) : Int) ∧ i = .int .i64 (5 - (j : Int)) ∧ Blk wr w.heap.size 5 (cb (codeTo r j)).toArray ∧ Below w.heap.size w wr) (fun _ i _ => (intOf i + 1).toNat)
  case atStart => exact ⟨0, by omega, by simp [hri], rfl, HK0.out, HB0.out⟩
  case round =>
    clear HK0 HB0
    obtain ⟨j, hj, rfl, rfl, hbk, hB⟩ := hrel
    by_cases hlt : j < 6
    · have hji : (0 : Int) ≤ 5 - (j : Int) := by omega
      obtain ⟨t, ht⟩ : ∃ t, 5 - j = t := ⟨_, rfl⟩
      have hti : 5 - (j : Int) = (t : Int) := by omega
      have hset := codeTo_set r j hlt
      have hcl := codeTo_length r j
      have hcd := Tk.cd_nat r t
      rw [show 5 - t = j by omega] at hcd
      rw [ht] at hset
      obtain ⟨x, hx⟩ : ∃ x, Tk.cd r t = x := ⟨_, rfl⟩
      rw [hx] at hset hcd
      have d1 := hbk.cell t
      have hgt := cb_get (codeTo r j) t (by omega)
      rw [List.getElem?_toArray, hgt] at d1
      generalize ((codeTo r j)[t]'(by omega)) = z at d1
      have d2 := hbk.frozen t
      have HS := Lib.hid (hbk.set_ t (.int .u8 (x.toNat : Int)))
      rw [cb_set, hset] at HS
      have HB2 := Lib.hid (hB.setCell (p := ⟨w.heap.size, t, none⟩) (Nat.le_refl _) (.int .u8 (x.toNat : Int)))
      have hdiv : r / 10 ^ j / 10 = r / 10 ^ (j + 1) := by rw [Nat.div_div_eq_div_mul, Nat.pow_succ]
      have HD := Lib.hid hdiv
      obtain ⟨m, hm⟩ : ∃ m, r / 10 ^ j = m := ⟨_, rfl⟩
      have hml : m ≤ 1000000 := by rw [← hm]; exact Nat.le_trans (Nat.div_le_self _ _) (by omega)
      rw [hm] at hcd HD
      rw [hm]
      have HXE := Lib.hid (show 48 + (m : Int) % 10 = (x.toNat : Int) by omega)
      clear hbk hB hset hcl hgt hdiv
      go_wp2_with fail
      go_roundw
      case rel => exact ⟨j + 1, by omega, by rw [← HD.out]; go_num, by go_num, by rw [HXE.out]; exact HS.out, by rw [HXE.out]; exact HB2.out⟩
      case measure => simp [intOf]; omega
    · obtain rfl : j = 6 := by omega
      have hcl := codeTo_length r 6
      have HL : BL wr w.heap.size (codeTo r 6) := fun t ht => by
        refine ⟨?_, hbk.frozen t⟩
        rw [hbk.cell t, List.getElem?_toArray, cb_get _ t ht]
      have hcv := HL.text 6 6 hcl
      rw [codeTo_six] at hcv
      have HB := Lib.hid hB
      clear hbk hB HL hcl
      go_wp2_with fail
      go_ret
      exact ⟨rfl, HB.out⟩
end Go.Proofs.YtcijkfnhjajfbaaDoor
