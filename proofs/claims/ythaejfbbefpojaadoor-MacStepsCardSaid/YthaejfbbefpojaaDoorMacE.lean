/-
  Contracts of mac.Equal, mac.valid, mac.Cost; the chapter's example. Condition: the tables hold what their text says.
-/
import Derived.Test.YthaejfbbefpojaaDoorMacD
import Derived.BigQuiet
import Derived.LoopTactic
namespace Go.Proofs.YthaejfbbefpojaaDoor
open Go.RowKit

theorem or_zero (x y : UInt8) : x ||| y = 0 ↔ x = 0 ∧ y = 0 := by
  constructor
  · intro h
    have h1 : (x ||| y).toNat = 0 := by rw [h]; rfl
    rw [UInt8.toNat_or, Nat.or_eq_zero_iff] at h1
    exact ⟨UInt8.toNat_inj.1 h1.1, UInt8.toNat_inj.1 h1.2⟩
  · rintro ⟨rfl, rfl⟩
    rfl
theorem xor_zero (x y : UInt8) : x ^^^ y = 0 ↔ x = y := by simp
theorem take_both (l m : List UInt8) (k : Nat) (hl : k < l.length) (hm : k < m.length) : l.take (k + 1) = m.take (k + 1) ↔ (l.take k = m.take k ∧ l[k] = m[k]) := by
  rw [take_more l k hl, take_more m k hm]
  constructor
  · intro h
    have := List.append_inj' h rfl
    exact ⟨this.1, by simpa using this.2⟩
  · rintro ⟨h1, h2⟩
    rw [h1, h2]
set_option maxRecDepth 100000 in
set_option maxHeartbeats 2000000 in
theorem equal_any (a b : ByteArray) (ha : a.size ≤ 100000) (w : World) :
    Calls Tryd.prog 28 #[.string a, .string b] w fun e w' => e = .returned (.bool (decide (a = b))) ∧ Below w.heap.size w w' := by
  obtain ⟨r, hr⟩ : ∃ r, decide (a = b) = r := ⟨_, rfl⟩
  have HR := Lib.hid hr
  rw [hr]
  clear hr
  go_enter Tryd.func28, Tryd.ntmps28
  by_cases hs : a.size = b.size
  · have hsi : ((a.size : Int) == (b.size : Int)) = true := by simp; omega
    have hsi2 : (a.size : Int) = (b.size : Int) := by omega
    have hla : a.data.toList.length = a.size := by simp
    have hlb : b.data.toList.length = a.size := by simp; omega
    go_wp2_with fail
    clear hsi hsi2
    go_loopw [5, 6, 14] (fun d _ i wr => ∃ (k q : Nat) (x : UInt8), i = .int .i64 (k : Int) ∧ k ≤ a.size ∧ d = .int .u8 (x.toNat : Int) ∧ (x = 0 ↔ a.data.toList.take k = b.data.toList.take k) ∧ wr = w.drewN q)
      (fun _ _ i _ => a.size - (intOf i).toNat)
    case atStart => exact ⟨0, 0, 0, rfl, by omega, rfl, by simp, rfl⟩
    case round =>
      obtain ⟨k, q, x, rfl, hk, rfl, hx, rfl⟩ := hrel
      by_cases hlt : k < a.size
      · have ha1 := byte_in a k hlt
        have hb1 := byte_in b k (by omega)
        have e1 : a.data.toList.getD k 0 = a.data.toList[k] := by simp [List.getD_eq_getElem?_getD, hlt]
        have e2 : b.data.toList.getD k 0 = b.data.toList[k] := by simp [List.getD_eq_getElem?_getD, show k < b.size by omega]
        have HT := Lib.hid (take_both a.data.toList b.data.toList k (by omega) (by omega))
        rw [e1] at ha1
        rw [e2] at hb1
        generalize a.data.toList[k] = y at ha1 HT
        generalize b.data.toList[k] = z at hb1 HT
        have h1 := xor_byte y z
        have h2 := or_byte x (y ^^^ z)
        have hxz := or_zero x (y ^^^ z)
        rw [xor_zero] at hxz
        generalize y ^^^ z = v at h1 h2 hxz
        generalize x ||| v = x2 at h2 hxz
        have HX := Lib.hid hx
        have HXZ := Lib.hid hxz
        clear hxz
        have ki : (k : Int) < (a.size : Int) := by omega
        clear hx e1 e2 hla hlb
        go_wp2_with fail
        go_quiet (fail)
        go_wp2_with fail
        go_roundw
        case rel => exact ⟨k + 1, _, x2, by go_num, by omega, rfl, by rw [HXZ.out, HT.out, HX.out], rfl⟩
        case measure => simp [intOf]; omega
      · obtain rfl : k = a.size := by omega
        rw [List.take_of_length_le (by omega), List.take_of_length_le (by omega)] at hx
        have hxe : r = decide (x = 0) := by
          rw [← HR.out, Bool.eq_iff_iff, decide_eq_true_eq, decide_eq_true_eq, hx]
          constructor
          · intro h; rw [h]
          · intro h
            apply ByteArray.ext
            exact Array.toList_inj.1 h
        have HRE := Lib.hid hxe
        by_cases h0 : x = 0
        · have HRT : Hid (r = true) := Lib.hid (by rw [hxe]; exact decide_eq_true h0)
          have hz : ((x.toNat : Int) == 0) = true := by subst h0; rfl
          have hz2 : (x.toNat : Int) = 0 := by subst h0; rfl
          clear hx hxe hla hlb h0
          go_wp2_with fail
          go_ret
          exact ⟨by rw [HRT.out]; rfl, below_drewN (Below.refl _ _) _⟩
        · have HRT : Hid (r = false) := Lib.hid (by rw [hxe]; exact decide_eq_false h0)
          have hz2 : ¬ (x.toNat : Int) = 0 := fun h => h0 (UInt8.toNat_inj.1 (by simpa using h))
          have hz : ((x.toNat : Int) == 0) = false := by simpa using hz2
          clear hx hxe hla hlb h0
          go_wp2_with fail
          go_ret
          exact ⟨by rw [HRT.out]; rfl, below_drewN (Below.refl _ _) _⟩
  · have hsi : ((a.size : Int) == (b.size : Int)) = false := by simp; omega
    have hsi2 : ¬ (a.size : Int) = (b.size : Int) := by omega
    have HRT : Hid (r = false) := Lib.hid (by rw [← HR.out]; exact decide_eq_false (fun h => hs (by rw [h])))
    go_wp2_with fail
    go_ret
    exact ⟨by rw [HRT.out]; rfl, Below.refl _ _⟩
set_option maxHeartbeats 1000000 in
theorem valid_any (n : Int) (w : World) : Calls Tryd.prog 45 #[.int .i64 n] w fun e w' => e = .returned (.bool (decide (1 ≤ n ∧ n ≤ 1000))) ∧ w' = w := by
  by_cases h1 : 1 ≤ n
  · by_cases h2 : n ≤ 1000
    · rw [decide_eq_true ⟨h1, h2⟩]
      go_enter Tryd.func45, Tryd.ntmps45
      go_wp2
      go_ret
      exact ⟨rfl, rfl⟩
    · rw [decide_eq_false (fun h => h2 h.2)]
      go_enter Tryd.func45, Tryd.ntmps45
      go_wp2
      go_ret
      exact ⟨rfl, rfl⟩
  · rw [decide_eq_false (fun h => h1 h.1)]
    go_enter Tryd.func45, Tryd.ntmps45
    go_wp2
    go_ret
    exact ⟨rfl, rfl⟩
/-- What a derivation costs. -/
def cost (n r : Nat) : Nat := if r = 0 then 0 else if 64 < n then 4 * r else 2 * r
set_option maxHeartbeats 1000000 in
theorem cost_any (n r : Nat) (hr : r ≤ 1000) (w : World) : Calls Tryd.prog 27 #[.int .i64 (n : Int), .int .i64 (r : Int)] w fun e w' => e = .returned (.int .i64 (cost n r : Int)) ∧ w' = w := by
  have hv := valid_any (r : Int) w
  have HV := Lib.hid hv
  clear hv
  obtain ⟨C, hC⟩ : ∃ C, (cost n r : Int) = C := ⟨_, rfl⟩
  rw [hC]
  by_cases h0 : r = 0
  · subst h0
    rw [show (cost n 0 : Int) = 0 by rfl] at hC
    subst hC
    go_enter Tryd.func27, Tryd.ntmps27
    go_wp2_with fail
    refine HV.out.mono ?_
    rintro e w1 ⟨rfl, rfl⟩
    rw [show decide (1 ≤ ((0 : Nat) : Int) ∧ ((0 : Nat) : Int) ≤ 1000) = false by decide]
    go_wp2_with fail
    go_ret
    exact ⟨rfl, rfl⟩
  · by_cases h6 : 64 < n
    · rw [show (cost n r : Int) = 4 * (r : Int) by unfold cost; rw [if_neg h0, if_pos h6]; omega] at hC
      have HC := Lib.hid hC
      have hni : (64 : Int) < (n : Int) := by omega
      clear hC
      go_enter Tryd.func27, Tryd.ntmps27
      go_wp2_with fail
      refine HV.out.mono ?_
      rintro e w1 ⟨rfl, rfl⟩
      rw [decide_eq_true (by omega)]
      go_wp2_with fail
      go_ret
      exact ⟨by rw [← HC.out]; rfl, rfl⟩
    · rw [show (cost n r : Int) = 2 * (r : Int) by unfold cost; rw [if_neg h0, if_neg h6]; omega] at hC
      have HC := Lib.hid hC
      have hni : ¬ (64 : Int) < (n : Int) := by omega
      clear hC
      go_enter Tryd.func27, Tryd.ntmps27
      go_wp2_with fail
      refine HV.out.mono ?_
      rintro e w1 ⟨rfl, rfl⟩
      rw [decide_eq_true (by omega)]
      go_wp2_with fail
      go_ret
      exact ⟨by rw [← HC.out]; rfl, rfl⟩
theorem awake_mac : Sh.hex (hmac [107, 101, 121] [84, 104, 101, 32, 113, 117, 105, 99, 107, 32, 98, 114, 111, 119, 110, 32, 102, 111, 120, 32, 106, 117, 109, 112, 115, 32, 111, 118, 101, 114, 32, 116, 104, 101, 32, 108, 97, 122, 121, 32, 100, 111, 103]) = [102, 55, 98, 99, 56, 51, 102, 52, 51, 48, 53, 51, 56, 52, 50, 52, 98, 49, 51, 50, 57, 56, 101, 54, 97, 97, 54, 102, 98, 49, 52, 51, 101, 102, 52, 100, 53, 57, 97, 49, 52, 57, 52, 54, 49, 55, 53, 57, 57, 55, 52, 55, 57, 100, 98, 99, 50, 100, 49, 97, 51, 99, 100, 56] := by
  have e : hmac [107, 101, 121] [84, 104, 101, 32, 113, 117, 105, 99, 107, 32, 98, 114, 111, 119, 110, 32, 102, 111, 120, 32, 106, 117, 109, 112, 115, 32, 111, 118, 101, 114, 32, 116, 104, 101, 32, 108, 97, 122, 121, 32, 100, 111, 103] = Sh.sum (xr 0x5c ([107, 101, 121] ++ List.replicate 61 0) ++ Sh.sum (xr 0x36 ([107, 101, 121] ++ List.replicate 61 0) ++ [84, 104, 101, 32, 113, 117, 105, 99, 107, 32, 98, 114, 111, 119, 110, 32, 102, 111, 120, 32, 106, 117, 109, 112, 115, 32, 111, 118, 101, 114, 32, 116, 104, 101, 32, 108, 97, 122, 121, 32, 100, 111, 103])) := by
    unfold hmac
    have hp : padk [107, 101, 121] = [107, 101, 121] ++ List.replicate 61 0 := by
      unfold padk
      have hk : key1 [107, 101, 121] = [107, 101, 121] := by unfold key1; rw [if_neg (by decide)]
      rw [hk]
      rfl
    rw [hp, dig_eq, dig_eq]
  rw [e]
  decide +kernel
theorem awake_same : ((ba (Sh.hex (hmac [107, 101, 121] [84, 104, 101, 32, 113, 117, 105, 99, 107, 32, 98, 114, 111, 119, 110, 32, 102, 111, 120, 32, 106, 117, 109, 112, 115, 32, 111, 118, 101, 114, 32, 116, 104, 101, 32, 108, 97, 122, 121, 32, 100, 111, 103]))).toList == ([102, 55, 98, 99, 56, 51, 102, 52, 51, 48, 53, 51, 56, 52, 50, 52, 98, 49, 51, 50, 57, 56, 101, 54, 97, 97, 54, 102, 98, 49, 52, 51, 101, 102, 52, 100, 53, 57, 97, 49, 52, 57, 52, 54, 49, 55, 53, 57, 57, 55, 52, 55, 57, 100, 98, 99, 50, 100, 49, 97, 51, 99, 100, 56] : List UInt8)) = true := by
  rw [ByteArray.toList_eq, ba_list, awake_mac]
  decide
set_option maxRecDepth 100000 in
set_option maxHeartbeats 1000000 in
theorem awake7 (w : World) (ht : Tab w) :
    Calls Tryd.prog 22 #[] w fun e w' => e = .returned (.bool true) ∧ Below w.heap.size w w' := by
  have HMc := Lib.hid (fun W (h : Tab W) => mac_any Mt.nil [107, 101, 121] (by decide) [⟨#[84, 104, 101, 32, 113, 117, 105, 99, 107, 32, 98, 114, 111, 119, 110, 32, 102, 111, 120, 32]⟩, ⟨#[106, 117, 109, 112, 115, 32, 111, 118, 101, 114, 32, 116, 104, 101, 32, 108, 97, 122, 121, 32, 100, 111, 103]⟩] (by decide) (by decide) (some ⟨W.heap.size, 0, none⟩) 2 0 (by omega) (W.alloc (.cells (cs [⟨#[84, 104, 101, 32, 113, 117, 105, 99, 107, 32, 98, 114, 111, 119, 110, 32, 102, 111, 120, 32]⟩, ⟨#[106, 117, 109, 112, 115, 32, 111, 118, 101, 114, 32, 116, 104, 101, 32, 108, 97, 122, 121, 32, 100, 111, 103]⟩]).toArray 9)) (lies_lit _ [⟨#[84, 104, 101, 32, 113, 117, 105, 99, 107, 32, 98, 114, 111, 119, 110, 32, 102, 111, 120, 32]⟩, ⟨#[106, 117, 109, 112, 115, 32, 111, 118, 101, 114, 32, 116, 104, 101, 32, 108, 97, 122, 121, 32, 100, 111, 103]⟩] W (fun h => h)) trivial (h.next ((Below.refl _ W).alloc (Nat.le_refl _) _)))
  rw [show (tx [⟨#[84, 104, 101, 32, 113, 117, 105, 99, 107, 32, 98, 114, 111, 119, 110, 32, 102, 111, 120, 32]⟩, ⟨#[106, 117, 109, 112, 115, 32, 111, 118, 101, 114, 32, 116, 104, 101, 32, 108, 97, 122, 121, 32, 100, 111, 103]⟩]).flatten = [84, 104, 101, 32, 113, 117, 105, 99, 107, 32, 98, 114, 111, 119, 110, 32, 102, 111, 120, 32, 106, 117, 109, 112, 115, 32, 111, 118, 101, 114, 32, 116, 104, 101, 32, 108, 97, 122, 121, 32, 100, 111, 103] from rfl, show ba [107, 101, 121] = ⟨#[107, 101, 121]⟩ from rfl] at HMc
  have hH := fun W => hex_any (ba (hmac [107, 101, 121] [84, 104, 101, 32, 113, 117, 105, 99, 107, 32, 98, 114, 111, 119, 110, 32, 102, 111, 120, 32, 106, 117, 109, 112, 115, 32, 111, 118, 101, 114, 32, 116, 104, 101, 32, 108, 97, 122, 121, 32, 100, 111, 103])) (by rw [ba_size, hmac_length]; decide) W
  rw [ba_list] at hH
  have hx := awake_same
  generalize ba (Sh.hex (hmac [107, 101, 121] [84, 104, 101, 32, 113, 117, 105, 99, 107, 32, 98, 114, 111, 119, 110, 32, 102, 111, 120, 32, 106, 117, 109, 112, 115, 32, 111, 118, 101, 114, 32, 116, 104, 101, 32, 108, 97, 122, 121, 32, 100, 111, 103])) = Z at hH hx
  generalize ba (hmac [107, 101, 121] [84, 104, 101, 32, 113, 117, 105, 99, 107, 32, 98, 114, 111, 119, 110, 32, 102, 111, 120, 32, 106, 117, 109, 112, 115, 32, 111, 118, 101, 114, 32, 116, 104, 101, 32, 108, 97, 122, 121, 32, 100, 111, 103]) = D at hH HMc
  have HH := Lib.hid hH
  have HT := Lib.hid ht
  clear hH ht
  go_enter Tryd.func22, Tryd.ntmps22
  go_wp2_with fail
  refine (HMc.out _ HT.out).mono ?_
  rintro e w1 ⟨rfl, -, hb1⟩
  have HB1 := Lib.hid (((Below.refl w.heap.size w).alloc (Nat.le_refl _) (.cells (cs [⟨#[84, 104, 101, 32, 113, 117, 105, 99, 107, 32, 98, 114, 111, 119, 110, 32, 102, 111, 120, 32]⟩, ⟨#[106, 117, 109, 112, 115, 32, 111, 118, 101, 114, 32, 116, 104, 101, 32, 108, 97, 122, 121, 32, 100, 111, 103]⟩]).toArray 9)).trans (Kept.below (Below.refl _ _) hb1 (fun _ h => h.elim) (by simp)))
  clear hb1
  go_wp2_with fail
  refine (HH.out _).mono ?_
  rintro e w2 ⟨rfl, hb2⟩
  have HB2 := Lib.hid (HB1.out.trans (hb2.mono HB1.out.size))
  clear hb2
  go_wp2_with fail
  go_ret
  exact ⟨rfl, HB2.out⟩
theorem mac_nil_new (key : ByteArray) (hk : key.size ≤ 40000) (l : List ByteArray) (hl : l.length ≤ 100) (hls : len l ≤ 40000) (W : World) (hT : Tab W) :
    Calls Tryd.prog 24 #[.pointer none, .string key, .slice (some ⟨W.heap.size, 0, none⟩) l.length l.length] (W.alloc (.cells (cs l).toArray 9)) fun e w' => e = .returned (.string (ba (hmac key.data.toList (tx l).flatten))) ∧ Below W.heap.size W w' := by
  have hb : Below W.heap.size W (W.alloc (.cells (cs l).toArray 9)) := (Below.refl _ W).alloc (Nat.le_refl _) _
  have h := mac_any Mt.nil key.data.toList (by simpa using hk) l hl hls (some ⟨W.heap.size, 0, none⟩) l.length 0 (by omega) (W.alloc (.cells (cs l).toArray 9)) (lies_lit _ l W (fun h => h)) trivial (hT.next hb)
  rw [ba_back] at h
  exact h.mono fun e w' h => ⟨h.1, Kept.below hb h.2.2 (fun _ h => h.elim) (by simp)⟩
theorem mac_nil_none (key : ByteArray) (hk : key.size ≤ 40000) (W : World) (hT : Tab W) :
    Calls Tryd.prog 24 #[.pointer none, .string key, .slice none 0 0] W fun e w' => e = .returned (.string (ba (hmac key.data.toList []))) ∧ Below W.heap.size W w' := by
  have h := mac_any Mt.nil key.data.toList (by simpa using hk) [] (by simp) (by simp [len]) none 0 0 (by omega) W (Lies.none W none) trivial hT
  rw [ba_back] at h
  exact h.mono fun e w' h => ⟨h.1, Kept.below (Below.refl _ _) h.2.2 (fun _ h => h.elim) (Nat.le_refl _)⟩
theorem ref_mac_of (key s : ByteArray) (hk : key.size ≤ 40000) (hs : s.size ≤ 40000) (w : World) :
    Calls Tryd.prog 25 #[.string key, .string s] w fun e w' => e = .returned (.string (ba (hmac key.data.toList s.data.toList))) ∧ Below w.heap.size w w' := by
  have h := ref_mac key.data.toList s.data.toList (by simpa using hk) (by simpa using hs) w
  rw [ba_back, ba_back] at h
  exact h
theorem hmac_zero (key s : List UInt8) (h : key.length ≤ 63) : hmac (key ++ [0]) s = hmac key s := by
  have hp : padk (key ++ [0]) = padk key := by
    have h1 : key1 (key ++ [0]) = key ++ [0] := by unfold key1; rw [if_neg (by simp; omega)]
    have h2 : key1 key = key := by unfold key1; rw [if_neg (by omega)]
    unfold padk
    rw [h1, h2, List.append_assoc, List.length_append]
    congr 1
    rw [show 64 - key.length = (64 - (key.length + [(0 : UInt8)].length)) + 1 by simp; omega, List.replicate_succ]
    rfl
  unfold hmac
  rw [hp]
theorem hmac_long (key s : List UInt8) (h : 64 < key.length) : hmac key s = hmac (dig key) s := by
  have hp : padk key = padk (dig key) := by
    have h1 : key1 key = dig key := by unfold key1; rw [if_pos h]
    have h2 : key1 (dig key) = dig key := by unfold key1; rw [if_neg (by rw [dig_length]; omega)]
    unfold padk
    rw [h1, h2]
  unfold hmac
  rw [hp]
end Go.Proofs.YthaejfbbefpojaaDoor
