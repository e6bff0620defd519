/-
  Contracts of token.IsCode and of the document's own IsCode, value and Clean. Condition: texts of at most 1000000 bytes.
  Contracts of the document's own bit and Encode. Condition: texts of at most 1000000 bytes.
  Contracts of the document's own Clean and Code. Condition: texts of at most 1000000 bytes.
  Contracts of the document's own Token and IsToken, and of the law's tells. Condition: texts of at most 60 bytes.
-/
import Derived.Test.YtfjdcopndkdbmaaGreatDoorTkEc
import Derived.Test.YtfjdcopndkdbmaaGreatDoorTkDg
import Derived.Test.YtfjdcopndkdbmaaGreatDoorBas

namespace Go.Proofs.YtfjdcopndkdbmaaGreatDoor
open Go.RowKit
theorem num10_iff (c : UInt8) : Tk.num10 c = true ↔ 48 ≤ c.toNat ∧ c.toNat ≤ 57 := by
  unfold Tk.num10
  simp
theorem all_take_succ (L : List UInt8) (k : Nat) (h : k < L.length) (h1 : (L.take k).all Tk.num10 = true) (h2 : Tk.num10 L[k] = true) : (L.take (k + 1)).all Tk.num10 = true := by
  rw [List.take_succ_eq_append_getElem h, List.all_append, h1]
  simp [h2]
theorem isCode_not (L : List UInt8) (k : Nat) (h : k < L.length) (h2 : Tk.num10 L[k] = false) : Tk.isCode L = false := by
  unfold Tk.isCode
  have : L.all Tk.num10 = false := by
    rw [List.all_eq_false]
    exact ⟨L[k], List.getElem_mem h, by rw [h2]; decide⟩
  rw [this]
  rfl

theorem digs32 (i : Nat) (h : i < 32) (W : World) : (Instr.index 9 (.string ⟨#[97, 98, 99, 100, 101, 102, 103, 104, 105, 106, 107, 108, 109, 110, 111, 112, 113, 114, 115, 116, 117, 118, 119, 120, 121, 122, 50, 51, 52, 53, 54, 55]⟩) (.int .i64 (i : Int))).run Tryz.prog W = .ok (.int .u8 ((Tk.dig i).toNat : Int)) W := run_digit i h .i64 W
end Go.Proofs.YtfjdcopndkdbmaaGreatDoor

namespace Go.Proofs.YtfjdcopndkdbmaaGreatDoor
open Go.RowKit

theorem bitsN_get (k n j : Nat) (h : j < k) : (Tk.bitsN k n).getD j false = n.testBit (k - 1 - j) := by
  induction k generalizing j with
  | zero => omega
  | succ k ih =>
    cases j with
    | zero => simp [Tk.bitsN]
    | succ j =>
      have := ih j (by omega)
      rw [show k + 1 - 1 - (j + 1) = k - 1 - j by omega, ← this]
      simp [Tk.bitsN]
/-- The i-th bit of a text. -/
def bitv (l : List UInt8) (i : Nat) : Bool := (Tk.bits l).getD i false
theorem bitv_get (l : List UInt8) (i : Nat) (h : i / 8 < l.length) : bitv l i = l[i / 8].toNat.testBit (7 - i % 8) := by
  unfold bitv
  have h0 : 8 * (i / 8) + i % 8 = i := by omega
  have h1 := Tk.bits_append (l.take (i / 8)) (l.drop (i / 8))
  rw [List.take_append_drop, List.drop_eq_getElem_cons h] at h1
  have h2 : ∀ (b : UInt8) (t : List UInt8), Tk.bits (b :: t) = Tk.bitsN 8 b.toNat ++ Tk.bits t := fun b t => by simp [Tk.bits]
  rw [h2] at h1
  have hl1 : (Tk.bits (l.take (i / 8))).length = 8 * (i / 8) := by rw [Tk.bits_length, List.length_take, Nat.min_eq_left (by omega)]
  rw [h1, List.getD_eq_getElem?_getD, List.getElem?_append_right (by omega), hl1, List.getElem?_append_left (by rw [Tk.bitsN_length]; omega), ← List.getD_eq_getElem?_getD, show i - 8 * (i / 8) = i % 8 by omega, bitsN_get 8 _ (i % 8) (by omega)]
theorem bitv_over (l : List UInt8) (i : Nat) (h : ¬ i / 8 < l.length) : bitv l i = false := by
  unfold bitv
  rw [List.getD_eq_getElem?_getD, List.getElem?_eq_none (by rw [Tk.bits_length]; omega)]
  rfl
def bitI (b : Bool) : Int := if b then 1 else 0
theorem i64_and1 (x : Nat) (h : x < 256) : bits BinOp.and IntKind.i64 (x : Int) 1 = ((x % 2 : Nat) : Int) := by
  have : ∀ x : Nat, x < 256 → bits BinOp.and IntKind.i64 (x : Int) 1 = ((x % 2 : Nat) : Int) := by decide +kernel
  exact this x h
theorem testBit_nat (x k : Nat) : ((x / 2 ^ k % 2 : Nat) : Int) = bitI (x.testBit k) := by
  rw [Nat.testBit_eq_decide_div_mod_eq]
  unfold bitI
  rcases Nat.mod_two_eq_zero_or_one (x / 2 ^ k) with h | h
  · rw [h]; rfl
  · rw [h]; rfl
set_option maxHeartbeats 1000000 in
set_option maxRecDepth 100000 in
theorem ref_bit (s : ByteArray) (hs : s.size ≤ 1000000) (i : Nat) (hi : i ≤ 10000000) (w : World) :
    Calls Tryz.prog 100 #[.string s, .int .i64 (i : Int)] w fun e w' => e = .returned (.int .i64 (bitI (bitv s.data.toList i))) ∧ w = w' := by
  have hsl : s.data.toList.length = s.size := by simp
  obtain ⟨q, hq⟩ : ∃ q, i / 8 = q := ⟨_, rfl⟩
  have hqi : (i : Int) / 8 = (q : Int) := by omega
  by_cases h : q < s.size
  · have hqs : ¬ (s.size : Int) ≤ (q : Int) := by omega
    obtain ⟨k, hk⟩ : ∃ k, 7 - i % 8 = k := ⟨_, rfl⟩
    have hki : 7 - (i : Int) % 8 = (k : Int) := by omega
    have hk7 : k ≤ 7 := by omega
    have hb := bitv_get s.data.toList i (by omega)
    rw [hk] at hb
    simp only [hq] at hb
    have hx : s.data.toList[q]'(by omega) = s[q] := by simp; rfl
    rw [hx] at hb
    obtain ⟨x, hx2⟩ : ∃ x, s[q] = x := ⟨_, rfl⟩
    rw [hx2] at hb
    have hand : bits BinOp.and IntKind.i64 ((x.toNat : Int) / 2 ^ k) 1 = bitI (bitv s.data.toList i) := by
      rw [hb, ← testBit_nat, show ((x.toNat : Int) / 2 ^ k) = ((x.toNat / 2 ^ k : Nat) : Int) by push_cast; rfl, i64_and1 _ (Nat.lt_of_le_of_lt (Nat.div_le_self _ _) x.toNat_lt)]
    generalize bitI (bitv s.data.toList i) = r at hand ⊢
    have hx8 : x.toNat < 256 := x.toNat_lt
    clear hb hx hsl hq hk
    go_enter Tryz.func100, Tryz.ntmps100
    go_wp2_with fail
    go_ret
    exact ⟨rfl, rfl⟩
  · have hqs : (s.size : Int) ≤ (q : Int) := by omega
    rw [bitv_over s.data.toList i (by omega)]
    clear hsl hq
    go_enter Tryz.func100, Tryz.ntmps100
    go_wp2_with fail
    go_ret
    exact ⟨rfl, rfl⟩

/-- Five bits from a place on, bits 0 behind the last. -/
def win (l : List UInt8) (j : Nat) : List Bool := ((Tk.bits l).drop (5 * j)).take 5 ++ List.replicate (5 - (((Tk.bits l).drop (5 * j)).take 5).length) false
theorem win_length (l : List UInt8) (j : Nat) : (win l j).length = 5 := by
  unfold win
  simp
  omega
theorem win_num (l : List UInt8) (j : Nat) : Tk.num (win l j) = Tk.at5 (Tk.bits l) j := rfl
theorem win_get (l : List UInt8) (j k : Nat) (hk : k < (win l j).length) : (win l j)[k] = bitv l (5 * j + k) := by
  have hk5 : k < 5 := by rw [win_length] at hk; exact hk
  unfold bitv
  have h1 : (win l j)[k] = (win l j).getD k false := by
    rw [List.getD_eq_getElem?_getD, List.getElem?_eq_getElem hk]
    rfl
  rw [h1]
  unfold win
  rw [List.getD_eq_getElem?_getD, List.getD_eq_getElem?_getD]
  by_cases h : 5 * j + k < (Tk.bits l).length
  · rw [List.getElem?_append_left (by simp; omega), List.getElem?_take_of_lt hk5, List.getElem?_drop]
  · rw [List.getElem?_append_right (by simp; omega), List.getElem?_eq_none (show (Tk.bits l).length ≤ 5 * j + k by omega)]
    rw [List.getElem?_replicate]
    split <;> rfl
theorem win_step (l : List UInt8) (j k : Nat) (hk : k < 5) : (Tk.num ((win l j).take (k + 1)) : Int) = 2 * (Tk.num ((win l j).take k) : Int) + bitI (bitv l (5 * j + k)) := by
  have hl := win_length l j
  rw [List.take_succ_eq_append_getElem (by omega), Tk.num_append, win_get l j k (by omega)]
  cases bitv l (5 * j + k) <;> simp [bitI, Tk.num] <;> omega
def encTo (l : List UInt8) (j : Nat) : List UInt8 := (List.range j).map fun i => Tk.dig (Tk.at5 (Tk.bits l) i)
theorem encTo_succ (l : List UInt8) (j : Nat) : encTo l (j + 1) = encTo l j ++ [Tk.dig (Tk.at5 (Tk.bits l) j)] := by
  unfold encTo
  rw [List.range_succ, List.map_append, List.map_cons, List.map_nil]
theorem encTo_length (l : List UInt8) (j : Nat) : (encTo l j).length = j := by simp [encTo]
theorem num_small (l : List UInt8) (j k : Nat) (hk : k ≤ 5) : Tk.num ((win l j).take k) < 32 := by
  have h := Tk.num_lt ((win l j).take k)
  rw [List.length_take, win_length, Nat.min_eq_left hk] at h
  exact Nat.lt_of_lt_of_le h (Nat.pow_le_pow_right (by decide) hk)
set_option maxHeartbeats 4000000 in
set_option maxRecDepth 100000 in
theorem ref_encode (s : ByteArray) (hs : s.size ≤ 1000000) (w : World) :
    Calls Tryz.prog 84 #[.string s] w fun e w' => e = .returned (.string (ba (Tk.enc s.data.toList))) ∧ Below w.heap.size w w' := by
  obtain ⟨i0, hi, hz, hsz, hy⟩ := info_u8
  obtain ⟨L, hL⟩ : ∃ L, s.data.toList = L := ⟨_, rfl⟩
  have hLl : L.length = s.size := by rw [← hL]; simp
  have HL := Lib.hid hL
  have HI := Lib.hid hi
  have HZ := Lib.hid hz
  have HZ1 := Lib.hid hsz
  have HZ2 := Lib.hid hy
  have HBIT := Lib.hid (fun i (hi : i ≤ 10000000) W => ref_bit s hs i hi W)
  rw [hL] at HBIT
  clear hi hz hsz hy hL
  go_enter Tryz.func84, Tryz.ntmps84
  go_wp2_with fail
  go_loopw [3, 4, 5, 6] (fun v i _ _ wr => ∃ (j : Nat) (A : Option Addr) (c : Nat), v = .slice A j c ∧ i = .int .i64 (5 * (j : Int)) ∧ j ≤ (8 * s.size + 4) / 5 ∧ wr.ownsRow w.heap.size 5 1 (.slice A j c) j (cb (encTo L j)) ∧ Below w.heap.size w wr) (fun _ i _ _ _ => 8 * s.size + 5 - (intOf i).toNat)
  case atStart => exact ⟨0, none, 0, rfl, rfl, by omega, World.ownsRow_nil _ _ _ _, Below.refl _ _⟩
  case round =>
    obtain ⟨j, A, c, rfl, rfl, hj, ho, hB⟩ := hrel
    have HO := Lib.hid ho
    have HB := Lib.hid hB
    have hBs := hB.size
    clear ho hB
    by_cases hlt : 5 * j < 8 * s.size
    · have hji : 5 * (j : Int) < 8 * (s.size : Int) := by omega
      go_wp2_with fail
      go_loopw [5, 6] (fun n k wq => ∃ (q : Nat), k = .int .i64 (q : Int) ∧ q ≤ 5 ∧ n = .int .i64 (Tk.num ((win L j).take q) : Int) ∧ wq = wr) (fun _ k _ => 5 - (intOf k).toNat)
      case atStart => exact ⟨0, rfl, by omega, rfl, rfl⟩
      case round =>
        obtain ⟨q, rfl, hq, rfl, rfl⟩ := hrel
        by_cases hq5 : q < 5
        · have hqi : (q : Int) < 5 := by omega
          have hst := win_step L j q hq5
          have hn0 := num_small L j q hq
          have HC := Lib.hid (fun W => HBIT.out (5 * j + q) (by omega) W)
          obtain ⟨p, hp⟩ : ∃ p, 5 * j + q = p := ⟨_, rfl⟩
          rw [hp] at HC hst
          have hpi : 5 * (j : Int) + (q : Int) = (p : Int) := by omega
          have hbv : bitI (bitv L p) = 0 ∨ bitI (bitv L p) = 1 := by cases bitv L p <;> simp [bitI]
          generalize bitI (bitv L p) = bv at HC hst hbv
          generalize Tk.num ((win L j).take q) = n0 at hst hn0 ⊢
          have HST := Lib.hid hst
          have hb1 : 0 ≤ bv ∧ bv ≤ 1 := by omega
          clear hst hbv hp
          go_wp2_with fail
          refine (HC.out _).mono ?_
          rintro e w2 ⟨rfl, rfl⟩
          go_wp2_with fail
          go_roundw
          case rel => exact ⟨q + 1, by go_num, by omega, by rw [HST.out], by first | rfl | trivial⟩
          case measure => simp [intOf]; omega
        · obtain rfl : q = 5 := by omega
          have hfull : (win L j).take 5 = win L j := List.take_of_length_le (by rw [win_length]; omega)
          rw [hfull, win_num]
          have h32 := Tk.at5_lt (Tk.bits L) j
          have hsucc := encTo_succ L j
          have hel := encTo_length L j
          generalize Tk.at5 (Tk.bits L) j = n at h32 hsucc ⊢
          have hidx := digs32 n h32
          generalize Tk.dig n = x at hidx hsucc
          have HS := Lib.hid hsucc
          have hblk0 := Blk.new wr 5 #[.int .u8 (x.toNat : Int)]
          have hown0 : (wr.alloc (.cells #[.int .u8 (x.toNat : Int)] 5)).ownsRow w.heap.size 5 1 (.slice A j c) j (cb (encTo L j)) := HO.out.alloc _
          clear hfull hsucc hel
          go_wp2_with
            (at_builtin
             refine wpList_append_lies _ rfl (.tmp 26) (.tmp 29) 98 rfl w.heap.size 5 i0 _ 1 1 Tryz.underlying98 HI.out HZ.out HZ1.out HZ2.out rfl (by decide) (.slice A j c) j (cb (encTo L j)) rfl hown0 ⟨wr.heap.size, 0, none⟩ 1 1 [.int .u8 (x.toNat : Int)] rfl rfl (World.news_of_block hblk0) (by intro u hu; simp at hu; subst hu; rfl) (by omega) (by unfold maxLen; omega) (by omega) (by simp; omega) (wr.heap.size + 1) (by simp) ?_
             intro g cap w2 hown2 hgrow hat hlt2
             have HO2 := Lib.hid hown2
             have HB2 := Lib.hid ((HB.out.alloc hBs _).grown hgrow (by simp; omega) (fun j hj => own_base HO.out hj))
             clear hown2 hgrow hat hlt2 hown0 hblk0)
          go_roundw
          case rel => exact ⟨j + 1, _, _, rfl, by go_num, by omega, by rw [HS.out]; simpa [cb] using HO2.out, HB2.out⟩
          case measure => simp [intOf]; omega
    · obtain rfl : j = (8 * s.size + 4) / 5 := by omega
      have hji : ¬ 5 * (((8 * s.size + 4) / 5 : Nat) : Int) < 8 * (s.size : Int) := by omega
      have hen : encTo L ((8 * s.size + 4) / 5) = Tk.enc L := by unfold encTo Tk.enc; rw [hLl]
      have ho := HO.out
      rw [hen] at ho
      have hel : (Tk.enc L).length = (8 * s.size + 4) / 5 := by rw [Tk.enc_length, hLl]
      rw [← hel] at ho
      have hcv := run_own_text ho
      rw [hel] at hcv
      generalize (8 * s.size + 4) / 5 = m at hcv hji ⊢
      clear ho hen hel
      go_wp2_with fail
      go_ret
      exact ⟨by (try rw [HL.out]); rfl, HB.out⟩
end Go.Proofs.YtfjdcopndkdbmaaGreatDoor

namespace Go.Proofs.YtfjdcopndkdbmaaGreatDoor
open Go.RowKit

set_option maxHeartbeats 4000000 in
set_option maxRecDepth 100000 in
theorem ref_clean (s : ByteArray) (hs : s.size ≤ 1000000) (w : World) :
    Calls Tryz.prog 48 #[.string s] w fun e w' => e = .returned (.string (ba (Tk.clean s.data.toList))) ∧ Below w.heap.size w w' := by
  obtain ⟨i0, hi, hz, hsz, hy⟩ := info_u8
  have HI := Lib.hid hi
  have HZ := Lib.hid hz
  have HZ1 := Lib.hid hsz
  have HZ2 := Lib.hid hy
  obtain ⟨L, hL⟩ : ∃ L, s.data.toList = L := ⟨_, rfl⟩
  have hLl : L.length = s.size := by rw [← hL]; simp
  have HL := Lib.hid hL
  clear hi hz hsz hy
  go_enter Tryz.func48, Tryz.ntmps48
  go_wp2_with fail
  go_loopw [3, 4, 5] (fun v i _ wr => ∃ k n : Nat, ∃ A c, v = .slice A n c ∧ i = .int .i64 (k : Int) ∧ k ≤ s.size ∧ n = (Tk.clean (L.take k)).length ∧ wr.ownsRow w.heap.size 5 1 (.slice A n c) n (cb (Tk.clean (L.take k))) ∧ Below w.heap.size w wr) (fun _ i _ _ => s.size - (intOf i).toNat)
  case atStart => exact ⟨0, 0, none, 0, rfl, rfl, by omega, by simp [Tk.clean], World.ownsRow_nil _ _ _ _, Below.refl _ _⟩
  case round =>
    obtain ⟨k, n, A, c, rfl, rfl, hk, hn, ho, hB⟩ := hrel
    have hcl := Tk.clean_length (L.take k)
    rw [List.length_take] at hcl
    have HBW := Lib.hid hB
    have HBs := hB.size
    have HOW := Lib.hid ho
    have HN := Lib.hid hn
    have hn2 : n ≤ 1000000 := by omega
    clear ho hB hcl hn
    by_cases hlt : k < s.size
    · have hki : (k : Int) < (s.size : Int) := by omega
      have ht := clean_take_succ L k (by omega)
      have hsx : L[k]'(by omega) = s[k] := by subst hL; simp; rfl
      rw [hsx] at ht
      obtain ⟨x, hx⟩ : ∃ x, s[k] = x := ⟨_, rfl⟩
      rw [hx] at ht
      have hxl : x.toNat < 256 := x.toNat_lt
      by_cases hsk : x.toNat = 32 ∨ x.toNat = 9 ∨ x.toNat = 45
      · rw [skip_byte x hsk, if_neg (by decide), List.append_nil] at ht
        have HT := Lib.hid ht
        have g4 : ¬ ((65 : Int) ≤ (x.toNat : Int)) := by omega
        clear ht hsx
        by_cases h32 : x.toNat = 32
        · have g1 : (x.toNat : Int) = 32 := by omega
          clear hsk h32 g4
          go_wp2_with fail
          go_roundw
          case rel => exact ⟨k + 1, n, A, c, rfl, by go_num, by omega, by rw [HT.out]; exact HN.out, by rw [HT.out]; exact HOW.out, HBW.out⟩
          case measure => simp [intOf]; omega
        · have g1 : ((x.toNat : Int) == 32) = false := by simp; omega
          have g1n : ((x.toNat : Int) != 32) = true := by simp; omega
          by_cases h9 : x.toNat = 9
          · have g2 : (x.toNat : Int) = 9 := by omega
            clear hsk h32 h9 g1 g4
            go_wp2_with fail
            go_roundw
            case rel => exact ⟨k + 1, n, A, c, rfl, by go_num, by omega, by rw [HT.out]; exact HN.out, by rw [HT.out]; exact HOW.out, HBW.out⟩
            case measure => simp [intOf]; omega
          · have g3 : (x.toNat : Int) = 45 := by omega
            clear hsk h32 h9 g1 g4
            go_wp2_with fail
            go_roundw
            case rel => exact ⟨k + 1, n, A, c, rfl, by go_num, by omega, by rw [HT.out]; exact HN.out, by rw [HT.out]; exact HOW.out, HBW.out⟩
            case measure => simp [intOf]; omega
      · rw [keep_byte x hsk, if_pos rfl] at ht
        by_cases h65 : 65 ≤ x.toNat
        · have g4 : (65 : Int) ≤ (x.toNat : Int) := by omega
          by_cases h90 : x.toNat ≤ 90
          · have g5 : (x.toNat : Int) ≤ 90 := by omega
            have hlo := lower_up x ⟨h65, h90⟩
            generalize Tk.lower x = y at ht hlo
            have hyw : (x.toNat : Int) - 65 + 97 = (y.toNat : Int) := by omega
            have g1 : ((x.toNat : Int) - 65 + 97 == 32) = false := by simp; omega
            have g1n : ((x.toNat : Int) - 65 + 97 != 32) = true := by simp; omega
            have g2 : ((x.toNat : Int) - 65 + 97 == 9) = false := by simp; omega
            have g2n : ((x.toNat : Int) - 65 + 97 != 9) = true := by simp; omega
            have g3 : ((x.toNat : Int) - 65 + 97 == 45) = false := by simp; omega
            have g3n : ((x.toNat : Int) - 65 + 97 != 45) = true := by simp; omega
            have HT := Lib.hid ht
            have HYW := Lib.hid hyw
            have hblk0 := Blk.new wr 5 #[.int .u8 ((x.toNat : Int) - 65 + 97)]
            have hown0 : (wr.alloc (.cells #[.int .u8 ((x.toNat : Int) - 65 + 97)] 5)).ownsRow w.heap.size 5 1 (.slice A n c) n (cb (Tk.clean (L.take k))) := HOW.out.alloc _
            clear ht hsx hyw
            go_wp2_with
              (at_builtin
               refine wpList_append_lies _ rfl (.tmp 34) (.tmp 36) 98 rfl w.heap.size 5 i0 _ 1 1 Tryz.underlying98 HI.out HZ.out HZ1.out HZ2.out rfl (by decide) (.slice A n c) n (cb (Tk.clean (L.take k))) rfl hown0 ⟨wr.heap.size, 0, none⟩ 1 1 [.int .u8 ((x.toNat : Int) - 65 + 97)] rfl rfl (World.news_of_block hblk0) (by intro u hu; simp at hu; subst hu; rfl) (by omega) (by unfold maxLen; omega) (by omega) (by simp; omega) (wr.heap.size + 1) (by simp) ?_
               intro g cap w2 hown2 hgrow hat hlt2
               have HO2 := Lib.hid hown2
               have HB2 := Lib.hid ((HBW.out.alloc HBs _).grown hgrow (by simp; omega) (fun j hj => own_base HOW.out hj))
               clear hown2 hgrow hat hlt2 hown0 hblk0)
            go_roundw
            case rel => exact ⟨k + 1, n + 1, _, _, rfl, by go_num, by omega, by rw [HT.out, List.length_append, ← HN.out]; rfl, by rw [HT.out]; have h := HO2.out; rw [HYW.out] at h; simpa [cb] using h, HB2.out⟩
            case measure => simp [intOf]; omega
          · have g5 : ¬ ((x.toNat : Int) ≤ 90) := by omega
            rw [lower_not x (by omega)] at ht
            have g1 : ((x.toNat : Int) == 32) = false := by simp; omega
            have g1n : ((x.toNat : Int) != 32) = true := by simp; omega
            have g2 : ((x.toNat : Int) == 9) = false := by simp; omega
            have g2n : ((x.toNat : Int) != 9) = true := by simp; omega
            have g3 : ((x.toNat : Int) == 45) = false := by simp; omega
            have g3n : ((x.toNat : Int) != 45) = true := by simp; omega
            have HT := Lib.hid ht
            have hblk0 := Blk.new wr 5 #[.int .u8 ((x.toNat : Int))]
            have hown0 : (wr.alloc (.cells #[.int .u8 ((x.toNat : Int))] 5)).ownsRow w.heap.size 5 1 (.slice A n c) n (cb (Tk.clean (L.take k))) := HOW.out.alloc _
            clear ht hsx
            go_wp2_with
              (at_builtin
               refine wpList_append_lies _ rfl (.tmp 34) (.tmp 36) 98 rfl w.heap.size 5 i0 _ 1 1 Tryz.underlying98 HI.out HZ.out HZ1.out HZ2.out rfl (by decide) (.slice A n c) n (cb (Tk.clean (L.take k))) rfl hown0 ⟨wr.heap.size, 0, none⟩ 1 1 [.int .u8 ((x.toNat : Int))] rfl rfl (World.news_of_block hblk0) (by intro u hu; simp at hu; subst hu; rfl) (by omega) (by unfold maxLen; omega) (by omega) (by simp; omega) (wr.heap.size + 1) (by simp) ?_
               intro g cap w2 hown2 hgrow hat hlt2
               have HO2 := Lib.hid hown2
               have HB2 := Lib.hid ((HBW.out.alloc HBs _).grown hgrow (by simp; omega) (fun j hj => own_base HOW.out hj))
               clear hown2 hgrow hat hlt2 hown0 hblk0)
            go_roundw
            case rel => exact ⟨k + 1, n + 1, _, _, rfl, by go_num, by omega, by rw [HT.out, List.length_append, ← HN.out]; rfl, by rw [HT.out]; simpa [cb] using HO2.out, HB2.out⟩
            case measure => simp [intOf]; omega
        · have g4 : ¬ ((65 : Int) ≤ (x.toNat : Int)) := by omega
          rw [lower_not x (by omega)] at ht
          have g1 : ((x.toNat : Int) == 32) = false := by simp; omega
          have g1n : ((x.toNat : Int) != 32) = true := by simp; omega
          have g2 : ((x.toNat : Int) == 9) = false := by simp; omega
          have g2n : ((x.toNat : Int) != 9) = true := by simp; omega
          have g3 : ((x.toNat : Int) == 45) = false := by simp; omega
          have g3n : ((x.toNat : Int) != 45) = true := by simp; omega
          have HT := Lib.hid ht
          have hblk0 := Blk.new wr 5 #[.int .u8 ((x.toNat : Int))]
          have hown0 : (wr.alloc (.cells #[.int .u8 ((x.toNat : Int))] 5)).ownsRow w.heap.size 5 1 (.slice A n c) n (cb (Tk.clean (L.take k))) := HOW.out.alloc _
          clear ht hsx
          go_wp2_with
            (at_builtin
             refine wpList_append_lies _ rfl (.tmp 34) (.tmp 36) 98 rfl w.heap.size 5 i0 _ 1 1 Tryz.underlying98 HI.out HZ.out HZ1.out HZ2.out rfl (by decide) (.slice A n c) n (cb (Tk.clean (L.take k))) rfl hown0 ⟨wr.heap.size, 0, none⟩ 1 1 [.int .u8 ((x.toNat : Int))] rfl rfl (World.news_of_block hblk0) (by intro u hu; simp at hu; subst hu; rfl) (by omega) (by unfold maxLen; omega) (by omega) (by simp; omega) (wr.heap.size + 1) (by simp) ?_
             intro g cap w2 hown2 hgrow hat hlt2
             have HO2 := Lib.hid hown2
             have HB2 := Lib.hid ((HBW.out.alloc HBs _).grown hgrow (by simp; omega) (fun j hj => own_base HOW.out hj))
             clear hown2 hgrow hat hlt2 hown0 hblk0)
          go_roundw
          case rel => exact ⟨k + 1, n + 1, _, _, rfl, by go_num, by omega, by rw [HT.out, List.length_append, ← HN.out]; rfl, by rw [HT.out]; simpa [cb] using HO2.out, HB2.out⟩
          case measure => simp [intOf]; omega
    · obtain rfl : k = s.size := by omega
      have hno := HN.out
      have ho := HOW.out
      rw [List.take_of_length_le (by omega)] at hno ho
      rw [hno] at ho
      have hcv := run_own_text ho
      rw [← hno] at hcv
      clear ho hno
      go_wp2_with fail
      go_ret
      exact ⟨by (try rw [HL.out]); rfl, HBW.out⟩

theorem zeros_made (n : Nat) : madeCells (Value.int .u8 0).cells n = (cb (List.replicate n 0)).toArray := by
  apply Array.ext
  · simp [madeCells, cb]
  · intro i h1 h2
    simp [madeCells, cb, Value.cells, Nat.mod_one]
theorem make_bytes (n : Nat) (h : n ≤ 131072) : ∀ W : World, (Instr.makeSlice 98 (.int .i64 (n : Int)) (.int .i64 (n : Int))).run Tryz.prog W = .ok (.slice (some ⟨W.heap.size, 0, none⟩) n n) (W.alloc (.cells (cb (List.replicate n 0)).toArray 5)) := by
  intro W
  obtain ⟨i, hi, hz, hs, hb⟩ := info_u8
  have hr := run_make (P := Tryz.prog) W 98 5 i (.int .u8 0) Tryz.underlying98 hi hz .i64 .i64 n n (by omega) (by omega) (by rw [hb]; omega) (by omega)
  rw [hr, hs]
  simp only [Int.toNat_natCast, Nat.mul_one, zeros_made]
/-- The code's bytes, the last so many of them told. -/
def codeTo (r j : Nat) : List UInt8 := (List.range 6).map fun t => if t < 6 - j then 0 else Tk.cd r t
theorem codeTo_zero (r : Nat) : codeTo r 0 = List.replicate 6 0 := rfl
theorem codeTo_six (r : Nat) : codeTo r 6 = Tk.code r := rfl
theorem codeTo_set (r j : Nat) (hj : j < 6) : (codeTo r j).set (5 - j) (Tk.cd r (5 - j)) = codeTo r (j + 1) := by
  apply List.ext_getElem
  · simp [codeTo]
  · intro t h1 h2
    have ht : t < 6 := by simpa [codeTo] using h2
    rw [List.getElem_set]
    simp only [codeTo, List.getElem_map, List.getElem_range]
    by_cases e : 5 - j = t
    · rw [if_pos e, if_neg (by omega), e]
    · rw [if_neg e]
      by_cases h : t < 6 - j
      · rw [if_pos h, if_pos (by omega)]
      · rw [if_neg h, if_neg (by omega)]
theorem codeTo_length (r j : Nat) : (codeTo r j).length = 6 := by simp [codeTo]
theorem cb_set (l : List UInt8) (k : Nat) (x : UInt8) : (cb l).toArray.setIfInBounds k (.int .u8 (x.toNat : Int)) = (cb (l.set k x)).toArray := by
  simp [cb, List.map_set]
set_option maxHeartbeats 4000000 in
set_option maxRecDepth 100000 in
theorem ref_code (d : Nat) (hd : d ≤ 18446744073709551615) (w : World) :
    Calls Tryz.prog 71 #[.int .u64 (d : Int)] w fun e w' => e = .returned (.string (ba (Tk.code (d % 1000000)))) ∧ Below w.heap.size w w' := by
  obtain ⟨r, hr⟩ : ∃ r, d % 1000000 = r := ⟨_, rfl⟩
  have hri : (d : Int) % 1000000 = (r : Int) := by omega
  have hr6 : r < 1000000 := by omega
  have hmk : (Instr.makeSlice 98 (.int .i64 6) (.int .i64 6)).run Tryz.prog w = .ok (.slice (some ⟨w.heap.size, 0, none⟩) 6 6) (w.alloc (.cells (cb [0, 0, 0, 0, 0, 0]).toArray 5)) := make_bytes 6 (by decide) w
  have HB0 := Lib.hid ((Below.refl w.heap.size w).alloc (Nat.le_refl _) (.cells (cb [0, 0, 0, 0, 0, 0]).toArray 5))
  have HK0 := Lib.hid (Blk.new w 5 (cb [0, 0, 0, 0, 0, 0]).toArray)
  rw [hr]
  clear hr
  go_enter Tryz.func71, Tryz.ntmps71
  go_wp2_with fail
  generalize w.alloc _ = W1 at HB0 HK0 ⊢
  clear hmk
  go_loopw [3, 5] (fun n i wr => ∃ j : Nat, j ≤ 6 ∧ n = .int .u64 ((r / 10 ^ j : Nat) : Int) ∧ i = .int .i64 (5 - (j : Int)) ∧ Blk wr w.heap.size 5 (cb (codeTo r j)).toArray ∧ Below w.heap.size w wr) (fun _ i _ => (intOf i + 1).toNat)
  case atStart => exact ⟨0, by omega, by simp [hri], rfl, HK0.out, HB0.out⟩
  case round =>
    clear HK0 HB0
    obtain ⟨j, hj, rfl, rfl, hbk, hB⟩ := hrel
    by_cases hlt : j < 6
    · have hji : (0 : Int) ≤ 5 - (j : Int) := by omega
      obtain ⟨t, ht⟩ : ∃ t, 5 - j = t := ⟨_, rfl⟩
      have hti : 5 - (j : Int) = (t : Int) := by omega
      have hset := codeTo_set r j hlt
      have hcl := codeTo_length r j
      have hcd := Tk.cd_nat r t
      rw [show 5 - t = j by omega] at hcd
      rw [ht] at hset
      obtain ⟨x, hx⟩ : ∃ x, Tk.cd r t = x := ⟨_, rfl⟩
      rw [hx] at hset hcd
      have d1 := hbk.cell t
      have hgt := cb_get (codeTo r j) t (by omega)
      rw [List.getElem?_toArray, hgt] at d1
      generalize ((codeTo r j)[t]'(by omega)) = z at d1
      have d2 := hbk.frozen t
      have HS := Lib.hid (hbk.set_ t (.int .u8 (x.toNat : Int)))
      rw [cb_set, hset] at HS
      have HB2 := Lib.hid (hB.setCell (p := ⟨w.heap.size, t, none⟩) (Nat.le_refl _) (.int .u8 (x.toNat : Int)))
      have hdiv : r / 10 ^ j / 10 = r / 10 ^ (j + 1) := by rw [Nat.div_div_eq_div_mul, Nat.pow_succ]
      have HD := Lib.hid hdiv
      obtain ⟨m, hm⟩ : ∃ m, r / 10 ^ j = m := ⟨_, rfl⟩
      have hml : m ≤ 1000000 := by rw [← hm]; exact Nat.le_trans (Nat.div_le_self _ _) (by omega)
      rw [hm] at hcd HD
      rw [hm]
      have HXE := Lib.hid (show 48 + (m : Int) % 10 = (x.toNat : Int) by omega)
      clear hbk hB hset hcl hgt hdiv
      go_wp2_with fail
      go_roundw
      case rel => exact ⟨j + 1, by omega, by rw [← HD.out]; go_num, by go_num, by rw [HXE.out]; exact HS.out, by rw [HXE.out]; exact HB2.out⟩
      case measure => simp [intOf]; omega
    · obtain rfl : j = 6 := by omega
      have hcl := codeTo_length r 6
      have HL : BL wr w.heap.size (codeTo r 6) := fun t ht => by
        refine ⟨?_, hbk.frozen t⟩
        rw [hbk.cell t, List.getElem?_toArray, cb_get _ t ht]
      have hcv := HL.text 6 6 hcl
      rw [codeTo_six] at hcv
      have HB := Lib.hid hB
      clear hbk hB HL hcl
      go_wp2_with fail
      go_ret
      exact ⟨rfl, HB.out⟩
end Go.Proofs.YtfjdcopndkdbmaaGreatDoor

namespace Go.Proofs.YtfjdcopndkdbmaaGreatDoor
open Go.RowKit
theorem ref_token (s : ByteArray) (hs : s.size ≤ 100000) (w : World) :
    Calls Tryz.prog 70 #[.string s] w fun e w' => e = .returned (.string (tokS s.data.toList)) ∧ Below w.heap.size w w' := by
  have HE := Lib.hid (ref_encode s (by omega) w)
  have hl : s.data.toList.length = s.size := by simp
  unfold tokS
  rw [hl]
  by_cases h : s.size = 10
  · rw [if_pos h]
    have hz : (s.size : Int) = 10 := by omega
    clear hl
    go_enter Tryz.func70, Tryz.ntmps70
    go_wp2_with fail
    refine HE.out.mono ?_
    rintro e w1 ⟨rfl, hb⟩
    have HB := Lib.hid hb
    clear hb HE
    go_wp2_with fail
    go_ret
    exact ⟨rfl, HB.out⟩
  · rw [if_neg h]
    have hz : ¬ ((s.size : Int) = 10) := by omega
    clear hl HE
    go_enter Tryz.func70, Tryz.ntmps70
    go_wp2_with fail
    go_ret
    exact ⟨rfl, Below.refl _ _⟩
end Go.Proofs.YtfjdcopndkdbmaaGreatDoor
