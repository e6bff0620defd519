/-
  Contract of token.Clean; what Token tells. Condition: texts of at most 1000000 bytes.
-/
import Derived.Test.YtfjdcopndkdbmaaGreatDoorTkm
import Derived.Test.YtfjdcopndkdbmaaGreatDoorBas
import Derived.Lib.Hide
import Derived.Lib.OthersKept
namespace Go.Proofs.YtfjdcopndkdbmaaGreatDoor
open Go.RowKit
/-- What Token and IsToken tell. -/
def tokS (l : List UInt8) : ByteArray := if l.length = 10 then ba (Tk.enc l) else ba []
theorem clean_take_succ (L : List UInt8) (k : Nat) (h : k < L.length) : Tk.clean (L.take (k + 1)) = Tk.clean (L.take k) ++ (if Tk.keep (Tk.lower L[k]) = true then [Tk.lower L[k]] else []) := by
  rw [List.take_succ_eq_append_getElem h, Tk.clean_append, Tk.clean_one]
theorem skip_byte (x : UInt8) (h : x.toNat = 32 ∨ x.toNat = 9 ∨ x.toNat = 45) : Tk.keep (Tk.lower x) = false := by
  have : ∀ n, n < 256 → (n = 32 ∨ n = 9 ∨ n = 45) → Tk.keep (Tk.lower (UInt8.ofNat n)) = false := by decide +kernel
  have h2 := this x.toNat x.toNat_lt h
  rwa [UInt8.ofNat_toNat] at h2
theorem keep_byte (x : UInt8) (h : ¬ (x.toNat = 32 ∨ x.toNat = 9 ∨ x.toNat = 45)) : Tk.keep (Tk.lower x) = true := by
  have : ∀ n, n < 256 → ¬ (n = 32 ∨ n = 9 ∨ n = 45) → Tk.keep (Tk.lower (UInt8.ofNat n)) = true := by decide +kernel
  have h2 := this x.toNat x.toNat_lt h
  rwa [UInt8.ofNat_toNat] at h2
theorem lower_up (x : UInt8) (h : 65 ≤ x.toNat ∧ x.toNat ≤ 90) : (Tk.lower x).toNat = x.toNat + 32 := by
  have : ∀ n, n < 256 → 65 ≤ n ∧ n ≤ 90 → (Tk.lower (UInt8.ofNat n)).toNat = n + 32 := by decide +kernel
  have h2 := this x.toNat x.toNat_lt h
  rwa [UInt8.ofNat_toNat] at h2
theorem lower_not (x : UInt8) (h : ¬ (65 ≤ x.toNat ∧ x.toNat ≤ 90)) : Tk.lower x = x := by
  unfold Tk.lower
  rw [if_neg h]

set_option maxHeartbeats 4000000 in
set_option maxRecDepth 100000 in
theorem clean_any (s : ByteArray) (hs : s.size ≤ 1000000) (w : World) :
    Calls Tryz.prog 69 #[.string s] w fun e w' => e = .returned (.string (ba (Tk.clean s.data.toList))) ∧ Below w.heap.size w w' := by
  obtain ⟨i0, hi, hz, hsz, hy⟩ := info_u8
  obtain ⟨w1, hmk, hown, hgr⟩ := run_make_own (P := Tryz.prog) w w.heap.size 98 5 i0 (.int .u8 0) 1 Tryz.underlying98 hi hz hsz .i64 .i64 s.size (by rw [hy]; omega) (by unfold maxLen; omega) (Nat.le_refl _)
  have HB1 : Hid (Below w.heap.size w w1) := Lib.hid ((Below.refl _ w).grown hgr (Nat.le_refl _) (fun k hk => by cases hk))
  have HO := Lib.hid hown
  have HI := Lib.hid hi
  have HZ := Lib.hid hz
  have HZ1 := Lib.hid hsz
  have HZ2 := Lib.hid hy
  obtain ⟨L, hL⟩ : ∃ L, s.data.toList = L := ⟨_, rfl⟩
  have hLl : L.length = s.size := by rw [← hL]; simp
  have HL := Lib.hid hL
  clear hown hgr hi hz hsz hy
  go_enter Tryz.func69, Tryz.ntmps69
  go_wp2_with fail
  go_loopw [3, 4, 5, 11] (fun v _ _ i wr => ∃ k n : Nat, ∃ A c, v = .slice A n c ∧ i = .int .i64 (k : Int) ∧ k ≤ s.size ∧ n = (Tk.clean (L.take k)).length ∧ wr.ownsRow w.heap.size 5 1 (.slice A n c) n (cb (Tk.clean (L.take k))) ∧ Below w.heap.size w wr) (fun _ _ _ i _ => s.size - (intOf i).toNat)
  case atStart => exact ⟨0, 0, _, _, rfl, rfl, by omega, by simp [Tk.clean], by simpa [Tk.clean, cb] using HO.out, HB1.out⟩
  case round =>
    clear HO HB1
    obtain ⟨k, n, A, c, rfl, rfl, hk, hn, ho, hB⟩ := hrel
    have hcl := Tk.clean_length (L.take k)
    rw [List.length_take] at hcl
    have HBW := Lib.hid hB
    have HBs := hB.size
    have HOW := Lib.hid ho
    have HN := Lib.hid hn
    have hn2 : n ≤ 1000000 := by omega
    clear ho hB hcl hn
    by_cases hlt : k < s.size
    · have hki : (k : Int) < (s.size : Int) := by omega
      have ht := clean_take_succ L k (by omega)
      have hsx : L[k]'(by omega) = s[k] := by subst hL; simp; rfl
      rw [hsx] at ht
      obtain ⟨x, hx⟩ : ∃ x, s[k] = x := ⟨_, rfl⟩
      rw [hx] at ht
      have hxl := x.toNat_lt
      by_cases hsk : x.toNat = 32 ∨ x.toNat = 9 ∨ x.toNat = 45
      · rw [skip_byte x hsk, if_neg (by decide), List.append_nil] at ht
        have HT := Lib.hid ht
        clear ht hsx
        by_cases h32 : x.toNat = 32
        · have g1 : (x.toNat : Int) = 32 := by omega
          clear hsk h32
          go_wp2_with fail
          go_roundw
          case rel => exact ⟨k + 1, n, A, c, rfl, by go_num, by omega, by rw [HT.out]; exact HN.out, by rw [HT.out]; exact HOW.out, HBW.out⟩
          case measure => simp [intOf]; omega
        · have g1 : ¬ ((x.toNat : Int) = 32) := by omega
          by_cases h9 : x.toNat = 9
          · have g2 : (x.toNat : Int) = 9 := by omega
            clear hsk h32 h9 g1
            go_wp2_with fail
            go_roundw
            case rel => exact ⟨k + 1, n, A, c, rfl, by go_num, by omega, by rw [HT.out]; exact HN.out, by rw [HT.out]; exact HOW.out, HBW.out⟩
            case measure => simp [intOf]; omega
          · have g3 : (x.toNat : Int) = 45 := by omega
            clear hsk h32 h9 g1
            go_wp2_with fail
            go_roundw
            case rel => exact ⟨k + 1, n, A, c, rfl, by go_num, by omega, by rw [HT.out]; exact HN.out, by rw [HT.out]; exact HOW.out, HBW.out⟩
            case measure => simp [intOf]; omega
      · rw [keep_byte x hsk, if_pos rfl] at ht
        have g1 : ((x.toNat : Int) == 32) = false := by simp; omega
        have g2 : ((x.toNat : Int) == 9) = false := by simp; omega
        have g3 : ((x.toNat : Int) == 45) = false := by simp; omega
        by_cases h65 : 65 ≤ x.toNat
        · have g4 : (65 : Int) ≤ (x.toNat : Int) := by omega
          by_cases h90 : x.toNat ≤ 90
          · have g5 : (x.toNat : Int) ≤ 90 := by omega
            have hlo := lower_up x ⟨h65, h90⟩
            generalize Tk.lower x = y at ht hlo
            have hyw : (x.toNat : Int) + 32 = (y.toNat : Int) := by omega
            have HT := Lib.hid ht
            have HYW := Lib.hid hyw
            clear hyw
            have hblk0 := Blk.new wr 5 #[.int .u8 ((x.toNat : Int) + 32)]
            have hown0 : (wr.alloc (.cells #[.int .u8 ((x.toNat : Int) + 32)] 5)).ownsRow w.heap.size 5 1 (.slice A n c) n (cb (Tk.clean (L.take k))) := HOW.out.alloc _
            clear ht hsx
            go_wp2_with
              (at_builtin
               refine wpList_append_lies _ rfl (.tmp 35) (.tmp 37) 98 rfl w.heap.size 5 i0 _ 1 1 Tryz.underlying98 HI.out HZ.out HZ1.out HZ2.out rfl (by decide) (.slice A n c) n (cb (Tk.clean (L.take k))) rfl hown0 ⟨wr.heap.size, 0, none⟩ 1 1 [.int .u8 ((x.toNat : Int) + 32)] rfl rfl (World.news_of_block hblk0) (by intro u hu; simp at hu; subst hu; rfl) (by omega) (by unfold maxLen; omega) (by omega) (by simp; omega) (wr.heap.size + 1) (by simp) ?_
               intro g cap w2 hown2 hgrow hat hlt2
               have HO2 := Lib.hid hown2
               have HB2 := Lib.hid ((HBW.out.alloc HBs _).grown hgrow (by simp; omega) (fun j hj => own_base HOW.out hj))
               clear hown2 hgrow hat hlt2 hown0 hblk0)
            go_roundw
            case rel => exact ⟨k + 1, n + 1, _, _, rfl, by go_num, by omega, by rw [HT.out, List.length_append, ← HN.out]; rfl, by rw [HT.out]; have h := HO2.out; rw [HYW.out] at h; simpa [cb] using h, HB2.out⟩
            case measure => simp [intOf]; omega
          · have g5 : ¬ ((x.toNat : Int) ≤ 90) := by omega
            rw [lower_not x (by omega)] at ht
            obtain ⟨y, hy⟩ : ∃ y, x = y := ⟨_, rfl⟩
            subst hy
            have HT := Lib.hid ht
            have hblk0 := Blk.new wr 5 #[.int .u8 (x.toNat : Int)]
            have hown0 : (wr.alloc (.cells #[.int .u8 (x.toNat : Int)] 5)).ownsRow w.heap.size 5 1 (.slice A n c) n (cb (Tk.clean (L.take k))) := HOW.out.alloc _
            clear ht hsx
            go_wp2_with
              (at_builtin
               refine wpList_append_lies _ rfl (.tmp 35) (.tmp 37) 98 rfl w.heap.size 5 i0 _ 1 1 Tryz.underlying98 HI.out HZ.out HZ1.out HZ2.out rfl (by decide) (.slice A n c) n (cb (Tk.clean (L.take k))) rfl hown0 ⟨wr.heap.size, 0, none⟩ 1 1 [.int .u8 (x.toNat : Int)] rfl rfl (World.news_of_block hblk0) (by intro u hu; simp at hu; subst hu; rfl) (by omega) (by unfold maxLen; omega) (by omega) (by simp; omega) (wr.heap.size + 1) (by simp) ?_
               intro g cap w2 hown2 hgrow hat hlt2
               have HO2 := Lib.hid hown2
               have HB2 := Lib.hid ((HBW.out.alloc HBs _).grown hgrow (by simp; omega) (fun j hj => own_base HOW.out hj))
               clear hown2 hgrow hat hlt2 hown0 hblk0)
            go_roundw
            case rel => exact ⟨k + 1, n + 1, _, _, rfl, by go_num, by omega, by rw [HT.out, List.length_append, ← HN.out]; rfl, by rw [HT.out]; simpa [cb] using HO2.out, HB2.out⟩
            case measure => simp [intOf]; omega
        · have g4 : ¬ ((65 : Int) ≤ (x.toNat : Int)) := by omega
          rw [lower_not x (by omega)] at ht
          have HT := Lib.hid ht
          have hblk0 := Blk.new wr 5 #[.int .u8 (x.toNat : Int)]
          have hown0 : (wr.alloc (.cells #[.int .u8 (x.toNat : Int)] 5)).ownsRow w.heap.size 5 1 (.slice A n c) n (cb (Tk.clean (L.take k))) := HOW.out.alloc _
          clear ht hsx
          go_wp2_with
            (at_builtin
             refine wpList_append_lies _ rfl (.tmp 35) (.tmp 37) 98 rfl w.heap.size 5 i0 _ 1 1 Tryz.underlying98 HI.out HZ.out HZ1.out HZ2.out rfl (by decide) (.slice A n c) n (cb (Tk.clean (L.take k))) rfl hown0 ⟨wr.heap.size, 0, none⟩ 1 1 [.int .u8 (x.toNat : Int)] rfl rfl (World.news_of_block hblk0) (by intro u hu; simp at hu; subst hu; rfl) (by omega) (by unfold maxLen; omega) (by omega) (by simp; omega) (wr.heap.size + 1) (by simp) ?_
             intro g cap w2 hown2 hgrow hat hlt2
             have HO2 := Lib.hid hown2
             have HB2 := Lib.hid ((HBW.out.alloc HBs _).grown hgrow (by simp; omega) (fun j hj => own_base HOW.out hj))
             clear hown2 hgrow hat hlt2 hown0 hblk0)
          go_roundw
          case rel => exact ⟨k + 1, n + 1, _, _, rfl, by go_num, by omega, by rw [HT.out, List.length_append, ← HN.out]; rfl, by rw [HT.out]; simpa [cb] using HO2.out, HB2.out⟩
          case measure => simp [intOf]; omega
    · obtain rfl : k = s.size := by omega
      have hno := HN.out
      have ho := HOW.out
      rw [List.take_of_length_le (by omega)] at hno ho
      rw [hno] at ho
      have hcv := run_own_text ho
      rw [← hno] at hcv
      clear ho hno
      go_wp2_with fail
      go_ret
      exact ⟨by rw [HL.out]; rfl, HBW.out⟩
end Go.Proofs.YtfjdcopndkdbmaaGreatDoor
