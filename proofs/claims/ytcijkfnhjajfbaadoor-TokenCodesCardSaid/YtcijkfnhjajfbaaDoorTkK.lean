/-
  Contracts of the document's own bit and Encode. Condition: texts of at most 1000000 bytes.
-/
import Derived.Test.YtcijkfnhjajfbaaDoorTkJ
namespace Go.Proofs.YtcijkfnhjajfbaaDoor
open Go.RowKit

theorem bitsN_get (k n j : Nat) (h : j < k) : (Tk.bitsN k n).getD j false = n.testBit (k - 1 - j) := by
  induction k generalizing j with
  | zero => omega
  | succ k ih =>
    cases j with
    | zero => simp [Tk.bitsN]
    | succ j =>
      have := ih j (by omega)
      rw [show k + 1 - 1 - (j + 1) = k - 1 - j by omega, ← this]
      simp [Tk.bitsN]
/-- The i-th bit of a text. -/
def bitv (l : List UInt8) (i : Nat) : Bool := (Tk.bits l).getD i false
theorem bitv_get (l : List UInt8) (i : Nat) (h : i / 8 < l.length) : bitv l i = l[i / 8].toNat.testBit (7 - i % 8) := by
  unfold bitv
  have h0 : 8 * (i / 8) + i % 8 = i := by omega
  have h1 := Tk.bits_append (l.take (i / 8)) (l.drop (i / 8))
  rw [List.take_append_drop, List.drop_eq_getElem_cons h] at h1
  have h2 : ∀ (b : UInt8) (t : List UInt8), Tk.bits (b :: t) = Tk.bitsN 8 b.toNat ++ Tk.bits t := fun b t => by simp [Tk.bits]
  rw [h2] at h1
  have hl1 : (Tk.bits (l.take (i / 8))).length = 8 * (i / 8) := by rw [Tk.bits_length, List.length_take, Nat.min_eq_left (by omega)]
  rw [h1, List.getD_eq_getElem?_getD, List.getElem?_append_right (by omega), hl1, List.getElem?_append_left (by rw [Tk.bitsN_length]; omega), ← List.getD_eq_getElem?_getD, show i - 8 * (i / 8) = i % 8 by omega, bitsN_get 8 _ (i % 8) (by omega)]
theorem bitv_over (l : List UInt8) (i : Nat) (h : ¬ i / 8 < l.length) : bitv l i = false := by
  unfold bitv
  rw [List.getD_eq_getElem?_getD, List.getElem?_eq_none (by rw [Tk.bits_length]; omega)]
  rfl
def bitI (b : Bool) : Int := if b then 1 else 0
theorem i64_and1 (x : Nat) (h : x < 256) : bits BinOp.and IntKind.i64 (x : Int) 1 = ((x % 2 : Nat) : Int) := by
  have : ∀ x : Nat, x < 256 → bits BinOp.and IntKind.i64 (x : Int) 1 = ((x % 2 : Nat) : Int) := by decide +kernel
  exact this x h
theorem testBit_nat (x k : Nat) : ((x / 2 ^ k % 2 : Nat) : Int) = bitI (x.testBit k) := by
  rw [Nat.testBit_eq_decide_div_mod_eq]
  unfold bitI
  rcases Nat.mod_two_eq_zero_or_one (x / 2 ^ k) with h | h
  · rw [h]; rfl
  · rw [h]; rfl
set_option maxHeartbeats 1000000 in
set_option maxRecDepth 100000 in
theorem ref_bit (s : ByteArray) (hs : s.size ≤ 1000000) (i : Nat) (hi : i ≤ 10000000) (w : World) :
    Calls Tryd.prog 27 #[.string s, .int .i64 (i : Int)] w fun e w' => e = .returned (.int .i64 (bitI (bitv s.data.toList i))) ∧ w = w' := by
  have hsl : s.data.toList.length = s.size := by simp
  obtain ⟨q, hq⟩ : ∃ q, i / 8 = q := ⟨_, rfl⟩
  have hqi : (i : Int) / 8 = (q : Int) := by omega
  by_cases h : q < s.size
  · have hqs : ¬ (s.size : Int) ≤ (q : Int) := by omega
    obtain ⟨k, hk⟩ : ∃ k, 7 - i % 8 = k := ⟨_, rfl⟩
    have hki : 7 - (i : Int) % 8 = (k : Int) := by omega
    have hk7 : k ≤ 7 := by omega
    have hb := bitv_get s.data.toList i (by omega)
    rw [hk] at hb
    simp only [hq] at hb
    have hx : s.data.toList[q]'(by omega) = s[q] := by simp; rfl
    rw [hx] at hb
    obtain ⟨x, hx2⟩ : ∃ x, s[q] = x := ⟨_, rfl⟩
    rw [hx2] at hb
    have hand : bits BinOp.and IntKind.i64 ((x.toNat : Int) / 2 ^ k) 1 = bitI (bitv s.data.toList i) := by
      rw [hb, ← testBit_nat, show ((x.toNat : Int) / 2 ^ k) = ((x.toNat / 2 ^ k : Nat) : Int) by push_cast; rfl, i64_and1 _ (Nat.lt_of_le_of_lt (Nat.div_le_self _ _) x.toNat_lt)]
    generalize bitI (bitv s.data.toList i) = r at hand ⊢
    have hx8 : x.toNat < 256 := x.toNat_lt
    clear hb hx hsl hq hk
    go_enter Tryd.func27, Tryd.ntmps27
    go_wp2_with fail
    go_ret
    exact ⟨rfl, rfl⟩
  · have hqs : (s.size : Int) ≤ (q : Int) := by omega
    rw [bitv_over s.data.toList i (by omega)]
    clear hsl hq
    go_enter Tryd.func27, Tryd.ntmps27
    go_wp2_with fail
    go_ret
    exact ⟨rfl, rfl⟩

/-- Five bits from a place on, bits 0 behind the last. -/
def win (l : List UInt8) (j : Nat) : List Bool := ((Tk.bits l).drop (5 * j)).take 5 ++ List.replicate (5 - (((Tk.bits l).drop (5 * j)).take 5).length) false
theorem win_length (l : List UInt8) (j : Nat) : (win l j).length = 5 := by
  unfold win
  simp
  omega
theorem win_num (l : List UInt8) (j : Nat) : Tk.num (win l j) = Tk.at5 (Tk.bits l) j := rfl
theorem win_get (l : List UInt8) (j k : Nat) (hk : k < (win l j).length) : (win l j)[k] = bitv l (5 * j + k) := by
  have hk5 : k < 5 := by rw [win_length] at hk; exact hk
  unfold bitv
  have h1 : (win l j)[k] = (win l j).getD k false := by
    rw [List.getD_eq_getElem?_getD, List.getElem?_eq_getElem hk]
    rfl
  rw [h1]
  unfold win
  rw [List.getD_eq_getElem?_getD, List.getD_eq_getElem?_getD]
  by_cases h : 5 * j + k < (Tk.bits l).length
  · rw [List.getElem?_append_left (by simp; omega), List.getElem?_take_of_lt hk5, List.getElem?_drop]
  · rw [List.getElem?_append_right (by simp; omega), List.getElem?_eq_none (show (Tk.bits l).length ≤ 5 * j + k by omega)]
    rw [List.getElem?_replicate]
    split <;> rfl
theorem win_step (l : List UInt8) (j k : Nat) (hk : k < 5) : (Tk.num ((win l j).take (k + 1)) : Int) = 2 * (Tk.num ((win l j).take k) : Int) + bitI (bitv l (5 * j + k)) := by
  have hl := win_length l j
  rw [List.take_succ_eq_append_getElem (by omega), Tk.num_append, win_get l j k (by omega)]
  cases bitv l (5 * j + k) <;> simp [bitI, Tk.num] <;> omega
def encTo (l : List UInt8) (j : Nat) : List UInt8 := (List.range j).map fun i => Tk.dig (Tk.at5 (Tk.bits l) i)
theorem encTo_succ (l : List UInt8) (j : Nat) : encTo l (j + 1) = encTo l j ++ [Tk.dig (Tk.at5 (Tk.bits l) j)] := by
  unfold encTo
  rw [List.range_succ, List.map_append, List.map_cons, List.map_nil]
theorem encTo_length (l : List UInt8) (j : Nat) : (encTo l j).length = j := by simp [encTo]
theorem num_small (l : List UInt8) (j k : Nat) (hk : k ≤ 5) : Tk.num ((win l j).take k) < 32 := by
  have h := Tk.num_lt ((win l j).take k)
  rw [List.length_take, win_length, Nat.min_eq_left hk] at h
  exact Nat.lt_of_lt_of_le h (Nat.pow_le_pow_right (by decide) hk)
set_option maxHeartbeats 4000000 in
set_option maxRecDepth 100000 in
theorem ref_encode (s : ByteArray) (hs : s.size ≤ 1000000) (w : World) :
    Calls Tryd.prog 15 #[.string s] w fun e w' => e = .returned (.string (ba (Tk.enc s.data.toList))) ∧ Below w.heap.size w w' := by
  obtain ⟨i0, hi, hz, hsz, hy⟩ := info_u8
  obtain ⟨L, hL⟩ : ∃ L, s.data.toList = L := ⟨_, rfl⟩
  have hLl : L.length = s.size := by rw [← hL]; simp
  have HL := Lib.hid hL
  have HI := Lib.hid hi
  have HZ := Lib.hid hz
  have HZ1 := Lib.hid hsz
  have HZ2 := Lib.hid hy
  have HBIT := Lib.hid (fun i (hi : i ≤ 10000000) W => ref_bit s hs i hi W)
  rw [hL] at HBIT
  clear hi hz hsz hy hL
  go_enter Tryd.func15, Tryd.ntmps15
  go_wp2_with fail
  go_loopw [3, 4, 5, 6] (fun v i _ _ wr => ∃ (j : Nat) (A : Option Addr) (c : Nat), v = .slice A j c ∧ i = .int .i64 (5 * (j : Int)) ∧ j ≤ (8 * s.size + 4) / 5 ∧ wr.ownsRow w.heap.size 5 1 (.slice A j c) j (cb (encTo L j)) ∧ Below w.heap.size w wr) (fun _ i _ _ _ => 8 * s.size + 5 - (intOf i).toNat)
  case atStart => exact ⟨0, none, 0, rfl, rfl, by omega, World.ownsRow_nil _ _ _ _, Below.refl _ _⟩
  case round =>
    obtain ⟨j, A, c, rfl, rfl, hj, ho, hB⟩ := hrel
    have HO := Lib.hid ho
    have HB := Lib.hid hB
    have hBs := hB.size
    clear ho hB
    by_cases hlt : 5 * j < 8 * s.size
    · have hji : 5 * (j : Int) < 8 * (s.size : Int) := by omega
      go_wp2_with fail
      go_loopw [5, 6] (fun n k wq => ∃ (q : Nat), k = .int .i64 (q : Int) ∧ q ≤ 5 ∧ n = .int .i64 (Tk.num ((win L j).take q) : Int) ∧ wq = wr) (fun _ k _ => 5 - (intOf k).toNat)
      case atStart => exact ⟨0, rfl, by omega, rfl, rfl⟩
      case round =>
        obtain ⟨q, rfl, hq, rfl, rfl⟩ := hrel
        by_cases hq5 : q < 5
        · have hqi : (q : Int) < 5 := by omega
          have hst := win_step L j q hq5
          have hn0 := num_small L j q hq
          have HC := Lib.hid (fun W => HBIT.out (5 * j + q) (by omega) W)
          obtain ⟨p, hp⟩ : ∃ p, 5 * j + q = p := ⟨_, rfl⟩
          rw [hp] at HC hst
          have hpi : 5 * (j : Int) + (q : Int) = (p : Int) := by omega
          have hbv : bitI (bitv L p) = 0 ∨ bitI (bitv L p) = 1 := by cases bitv L p <;> simp [bitI]
          generalize bitI (bitv L p) = bv at HC hst hbv
          generalize Tk.num ((win L j).take q) = n0 at hst hn0 ⊢
          have HST := Lib.hid hst
          have hb1 : 0 ≤ bv ∧ bv ≤ 1 := by omega
          clear hst hbv hp
          go_wp2_with fail
          refine (HC.out _).mono ?_
          rintro e w2 ⟨rfl, rfl⟩
          go_wp2_with fail
          go_roundw
          case rel => exact ⟨q + 1, by go_num, by omega, by rw [HST.out], by first | rfl | trivial⟩
          case measure => simp [intOf]; omega
        · obtain rfl : q = 5 := by omega
          have hfull : (win L j).take 5 = win L j := List.take_of_length_le (by rw [win_length]; omega)
          rw [hfull, win_num]
          have h32 := Tk.at5_lt (Tk.bits L) j
          have hsucc := encTo_succ L j
          have hel := encTo_length L j
          generalize Tk.at5 (Tk.bits L) j = n at h32 hsucc ⊢
          have hidx := digs32 n h32
          generalize Tk.dig n = x at hidx hsucc
          have HS := Lib.hid hsucc
          have hblk0 := Blk.new wr 5 #[.int .u8 (x.toNat : Int)]
          have hown0 : (wr.alloc (.cells #[.int .u8 (x.toNat : Int)] 5)).ownsRow w.heap.size 5 1 (.slice A j c) j (cb (encTo L j)) := HO.out.alloc _
          clear hfull hsucc hel
          go_wp2_with
            (at_builtin
             refine wpList_append_lies _ rfl (.tmp 26) (.tmp 29) 33 rfl w.heap.size 5 i0 _ 1 1 Tryd.underlying33 HI.out HZ.out HZ1.out HZ2.out rfl (by decide) (.slice A j c) j (cb (encTo L j)) rfl hown0 ⟨wr.heap.size, 0, none⟩ 1 1 [.int .u8 (x.toNat : Int)] rfl rfl (World.news_of_block hblk0) (by intro u hu; simp at hu; subst hu; rfl) (by omega) (by unfold maxLen; omega) (by omega) (by simp; omega) (wr.heap.size + 1) (by simp) ?_
             intro g cap w2 hown2 hgrow hat hlt2
             have HO2 := Lib.hid hown2
             have HB2 := Lib.hid ((HB.out.alloc hBs _).grown hgrow (by simp; omega) (fun j hj => own_base HO.out hj))
             clear hown2 hgrow hat hlt2 hown0 hblk0)
          go_roundw
          case rel => exact ⟨j + 1, _, _, rfl, by go_num, by omega, by rw [HS.out]; simpa [cb] using HO2.out, HB2.out⟩
          case measure => simp [intOf]; omega
    · obtain rfl : j = (8 * s.size + 4) / 5 := by omega
      have hji : ¬ 5 * (((8 * s.size + 4) / 5 : Nat) : Int) < 8 * (s.size : Int) := by omega
      have hen : encTo L ((8 * s.size + 4) / 5) = Tk.enc L := by unfold encTo Tk.enc; rw [hLl]
      have ho := HO.out
      rw [hen] at ho
      have hel : (Tk.enc L).length = (8 * s.size + 4) / 5 := by rw [Tk.enc_length, hLl]
      rw [← hel] at ho
      have hcv := run_own_text ho
      rw [hel] at hcv
      generalize (8 * s.size + 4) / 5 = m at hcv hji ⊢
      clear ho hen hel
      go_wp2_with fail
      go_ret
      exact ⟨by (try rw [HL.out]); rfl, HB.out⟩
end Go.Proofs.YtcijkfnhjajfbaaDoor
