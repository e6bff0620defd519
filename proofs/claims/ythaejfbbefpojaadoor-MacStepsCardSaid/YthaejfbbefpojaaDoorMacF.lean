/-
  Contract of mac.Derive: the chain of keyed digests, its sum by exclusive or, and how many digests it makes. Condition: texts of 30000 bytes at most; the tables hold what their text says.
-/
import Derived.Test.YthaejfbbefpojaaDoorMacE
namespace Go.Proofs.YthaejfbbefpojaaDoor
open Go.RowKit

/-- THE CHAIN: the first value behind a salt, and those that follow. -/
noncomputable def us (key s : List UInt8) : Nat → List UInt8
  | 0 => hmac key s
  | n + 1 => hmac key (us key s n)
/-- Two rows, turned by one another. -/
def xx (a b : List UInt8) : List UInt8 := List.zipWith (· ^^^ ·) a b
/-- THE DERIVED DIGEST of one round more than so many. -/
noncomputable def dv (key s : List UInt8) : Nat → List UInt8
  | 0 => us key s 0
  | n + 1 => xx (dv key s n) (us key s (n + 1))
theorem us_length (key s : List UInt8) (n : Nat) : (us key s n).length = 32 := by
  cases n <;> exact hmac_length _ _
theorem xx_length (a b : List UInt8) (h : a.length = b.length) : (xx a b).length = b.length := by
  unfold xx
  rw [List.length_zipWith, h, Nat.min_self]
theorem dv_length (key s : List UInt8) (n : Nat) : (dv key s n).length = 32 := by
  induction n with
  | zero => exact us_length key s 0
  | succ n ih => rw [dv, xx_length _ _ (by rw [ih, us_length]), us_length]
theorem xx_at (a b : List UInt8) (k : Nat) (h : k < (xx a b).length) (h1 : k < a.length) (h2 : k < b.length) : (xx a b)[k] = a[k] ^^^ b[k] := by
  simp [xx]
theorem us_succ (key s : List UInt8) (n : Nat) : hmac key (us key s n) = us key s (n + 1) := rfl
theorem dv_succ (key s : List UInt8) (n : Nat) : xx (dv key s n) (us key s (n + 1)) = dv key s (n + 1) := rfl

set_option maxRecDepth 100000 in
set_option maxHeartbeats 4000000 in
theorem derive_any {mp : Option Addr} {S : Nat → Prop} {st : World → Nat → Prop} (M : Mt mp S st) (key : ByteArray) (hks : key.size ≤ 30000) (salt : ByteArray) (hss : salt.size ≤ 30000) (r : Nat) (hr1 : 1 ≤ r) (hr2 : r ≤ 1000) (k : Nat) (hk : k ≤ 700000) (w : World)
    (hst : st w k) (hT : Tab w) :
    Calls Tryd.prog 26 #[.pointer mp, .string key, .string salt, .int .i64 (r : Int)] w fun e w' => e = .returned (.string (ba (dv key.data.toList (salt.data.toList ++ [0, 0, 0, 1]) (r - 1)))) ∧ st w' (k + r * (2 * one key.data.toList + 2)) ∧ Kept S w w' := by
  have hone : one key.data.toList ≤ 1 := by unfold one; split <;> omega
  have HV := Lib.hid (fun W => valid_any (r : Int) W)
  rw [decide_eq_true (show (1 ≤ (r : Int) ∧ (r : Int) ≤ 1000) by omega)] at HV
  have HC1 := Lib.hid (fun A c k W h1 h2 h3 h4 => mac_any M key.data.toList (by simpa using Nat.le_trans hks (by omega)) [salt, ⟨#[0, 0, 0, 1]⟩] (by simp) (by rw [show len [salt, (⟨#[0, 0, 0, 1]⟩ : ByteArray)] = salt.size + 4 from rfl]; omega) A c k h1 W h2 h3 h4)
  rw [show (tx [salt, ⟨#[0, 0, 0, 1]⟩]).flatten = salt.data.toList ++ [0, 0, 0, 1] by simp [tx], ba_back] at HC1
  generalize salt.data.toList ++ [0, 0, 0, 1] = s1 at HC1 ⊢
  have HC2 := Lib.hid (fun (n : Nat) A c k W h1 h2 h3 h4 => mac_any M key.data.toList (by simpa using Nat.le_trans hks (by omega)) [ba (us key.data.toList s1 n)] (by simp) (by simp [len, ba_size, us_length]) A c k h1 W h2 h3 h4)
  simp only [show ∀ n, (tx [ba (us key.data.toList s1 n)]).flatten = us key.data.toList s1 n from fun n => by simp [tx, ba_list], us_succ, ba_back] at HC2
  rw [show hmac key.data.toList s1 = us key.data.toList s1 0 from rfl] at HC1
  have HUL := Lib.hid (us_length key.data.toList s1)
  have HDL := Lib.hid (dv_length key.data.toList s1)
  have HDS := Lib.hid (dv_succ key.data.toList s1)
  have HD0 : Hid (dv key.data.toList s1 0 = us key.data.toList s1 0) := Lib.hid rfl
  generalize us key.data.toList s1 = U at HC1 HC2 HUL HDS HD0
  generalize dv key.data.toList s1 = D at HDL HDS HD0 ⊢
  obtain ⟨q, hq⟩ : ∃ q, 2 * one key.data.toList + 2 = q := ⟨_, rfl⟩
  have hq4 : q ≤ 4 := by omega
  rw [hq] at HC1 HC2 ⊢
  clear hq hone
  obtain ⟨n, rfl⟩ : ∃ n, r = n + 1 := ⟨r - 1, by omega⟩
  rw [Nat.add_sub_cancel]
  have hcv := run_bytes_of
  have hkq : ∀ i : Nat, i ≤ n → k + (i + 1) * q ≤ 710000 := fun i hi => by
    have : (i + 1) * q ≤ (n + 1) * 4 := Nat.mul_le_mul (by omega) hq4
    omega
  have HKQ := Lib.hid hkq
  have HKS : Hid (∀ i : Nat, k + (i + 1) * q + q = k + (i + 1 + 1) * q) := Lib.hid (fun i => by rw [Nat.add_mul (i + 1) 1 q]; omega)
  have HST := Lib.hid hst
  have HT := Lib.hid hT
  have HLW := Lib.hid (fun W k (h : st W k) b (hS : S b) => M.low W k h b hS)
  have HNW : Hid (¬ S w.heap.size) := Lib.hid (fun h => Nat.lt_irrefl _ (M.low w k hst _ h))
  clear hst hT hkq
  obtain ⟨N, hN⟩ : ∃ N : Int, ((n + 1 : Nat) : Int) = N := ⟨_, rfl⟩
  rw [hN] at HV ⊢
  have hN1 : N - 1 = (n : Int) := by omega
  have hNw := IntWalk.i64_in (N - 1) (by omega)
  rw [hN1] at hNw
  clear hN
  go_enter Tryd.func26, Tryd.ntmps26
  go_wp2_with fail
  refine (HV.out _).mono ?_
  rintro e w1 ⟨rfl, rfl⟩
  go_wp2_with fail
  refine (HC1.out (some ⟨w1.heap.size, 0, none⟩) 2 k (w1.alloc (.cells #[.string salt, .string ⟨#[0, 0, 0, 1]⟩] 9)) (by omega) (lies_lit S [salt, ⟨#[0, 0, 0, 1]⟩] w1 HNW.out) (M.below HST.out ((Below.refl _ _).alloc (Nat.le_refl _) _)) (HT.out.next ((Below.refl _ _).alloc (Nat.le_refl _) _))).mono ?_
  rintro e w2 ⟨rfl, s2, k2⟩
  have K2 := Lib.hid ((Kept.of_below (S := S) ((Below.refl _ w1).alloc (Nat.le_refl _) (.cells #[.string salt, .string ⟨#[0, 0, 0, 1]⟩] 9))).trans k2 (fun _ h => .inl h))
  have S2 := Lib.hid s2
  have HNG : Hid (¬ S w2.heap.size) := Lib.hid (fun h => Nat.lt_irrefl _ (M.low w2 _ s2 _ h))
  have S3 := Lib.hid (M.below s2 (below_bytes w2 (ba (U 0))))
  have K3 := Lib.hid (K2.out.trans (Kept.of_below (S := S) (below_bytes w2 (ba (U 0)))) (fun _ h => .inl h))
  have L3 := Lib.hid (BL.new w2 (ba (U 0)))
  have hz3 : w2.heap.size < (Lib.bytesWorld w2 5 (ba (U 0))).heap.size := by rw [Lib.bytesWorld_size]; omega
  rw [ba_list] at L3
  have hsz : (ba (U 0)).size = 32 := by rw [ba_size, HUL.out]
  have hcg := hcv w2 (ba (U 0))
  rw [hsz] at hcg
  clear hcv s2 k2
  generalize grownCap w2 32 0 5 = cp at hcg
  generalize Lib.bytesWorld w2 5 (ba (U 0)) = w3 at hcg S3 K3 L3 hz3
  rw [← HD0.out] at L3
  obtain ⟨g, hg⟩ : ∃ g, w2.heap.size = g := ⟨_, rfl⟩
  have HGW : Hid (w1.heap.size ≤ g) := Lib.hid (by rw [← hg]; exact K2.out.size)
  rw [hg] at hcg L3 hz3 HNG
  have HZ3 := Lib.hid hz3
  clear hg hz3 hsz
  go_wp2_with fail
  clear hcg
  go_loopw [9, 11, 24] (fun u _ i wr => ∃ j : Nat, i = .int .i64 (j : Int) ∧ j ≤ n ∧ u = .string (ba (U j)) ∧ BL wr g (D j) ∧ g < wr.heap.size ∧ st wr (k + (j + 1) * q) ∧ Kept S w1 wr) (fun _ _ i _ => n - (intOf i).toNat)
  case atStart => exact ⟨0, rfl, by omega, rfl, L3.out, HZ3.out, by rw [Nat.zero_add, Nat.one_mul]; exact S3.out, K3.out⟩
  case round =>
    clear S2 S3 K2 K3 L3 HZ3 HC1
    obtain ⟨j, rfl, hj, rfl, hbl, hgw, hst, hkp⟩ := hrel
    by_cases hlt : j < n
    · have hlti : (j : Int) < (n : Int) := by omega
      have HNW2 : Hid (¬ S wr.heap.size) := Lib.hid (fun h => Nat.lt_irrefl _ (M.low wr _ hst _ h))
      have HST2 := Lib.hid hst
      have HBL := Lib.hid hbl
      have HKP := Lib.hid hkp
      have HT2 := Lib.hid (M.tab HT.out hkp)
      clear hbl hst hkp
      go_wp2_with fail
      refine (HC2.out j (some ⟨wr.heap.size, 0, none⟩) 1 (k + (j + 1) * q) (wr.alloc (.cells #[.string (ba (U j))] 9)) (by have := HKQ.out j hj; omega) (lies_lit S [ba (U j)] wr HNW2.out) (M.below HST2.out ((Below.refl _ _).alloc (Nat.le_refl _) _)) (HT2.out.next ((Below.refl _ _).alloc (Nat.le_refl _) _))).mono ?_
      rintro e w4 ⟨rfl, s4, k4⟩
      have k4' := (Kept.of_below (S := S) ((Below.refl _ wr).alloc (Nat.le_refl _) (.cells #[.string (ba (U j))] 9))).trans k4 (fun _ h => .inl h)
      have K4 := Lib.hid (HKP.out.trans k4' (fun _ h => .inl h))
      have S4 := Lib.hid s4
      rw [HKS.out] at S4
      have L4 : Hid (BL w4 g (D j)) := Lib.hid (fun i hi => ⟨(World.cell?_of_block (a := ⟨g, i, none⟩) (k4'.block g hgw HNG.out)).trans (HBL.out i hi).1, (World.frozen?_of_block (a := ⟨g, i, none⟩) (k4'.block g hgw HNG.out)).trans (HBL.out i hi).2⟩)
      have hg4 : g < w4.heap.size := Nat.lt_of_lt_of_le hgw k4'.size
      have hsz : (ba (U (j + 1))).size = 32 := by rw [ba_size, HUL.out]
      have hul := HUL.out (j + 1)
      have hdl := HDL.out j
      have hby := fun i (h : i < (U (j + 1)).length) W => byte_in (ba (U (j + 1))) i (by rw [ba_size]; exact h) W
      rw [ba_list] at hby
      have HBY := Lib.hid hby
      have hX := HDS.out j
      have hXl := xx_length (D j) (U (j + 1)) (by rw [hul, hdl])
      have HXA := Lib.hid (xx_at (D j) (U (j + 1)))
      rw [hX] at hXl HXA
      obtain ⟨X, hDX⟩ : ∃ X, D (j + 1) = X := ⟨_, rfl⟩
      have HDX := Lib.hid hDX
      rw [hDX] at hXl HXA
      clear hDX
      rw [hul] at hXl
      generalize D j = Y at hdl HXA L4
      have HXY : Hid (X.length = Y.length) := Lib.hid (by omega)
      have HUL2 := Lib.hid hul
      have HYL := Lib.hid hdl
      have HXL := Lib.hid hXl
      clear s4 k4 k4' HST2 HBL HKP HT2 HNW2 hgw hby hX hul hdl hXl
      obtain ⟨VB, hVB⟩ : ∃ VB, ba (U (j + 1)) = VB := ⟨_, rfl⟩
      have HVB := Lib.hid hVB
      rw [hVB] at hsz HBY ⊢
      clear hVB
      obtain ⟨V, hV⟩ : ∃ V, U (j + 1) = V := ⟨_, rfl⟩
      rw [hV] at HUL2 HBY HXA
      clear hV
      go_wp2_with fail
      go_loopw [11, 33] (fun _ i wr' => ∃ m : Nat, i = .int .i64 (m : Int) ∧ m ≤ 32 ∧ BL wr' g (upto X Y m) ∧ g < wr'.heap.size ∧ st wr' (k + (j + 1 + 1) * q) ∧ Kept S w1 wr') (fun _ i _ => 32 - (intOf i).toNat)
      case atStart => exact ⟨0, rfl, by omega, by rw [show upto X Y 0 = Y by simp [upto]]; exact L4.out, hg4, S4.out, K4.out⟩
      case round =>
        clear L4 S4 K4 hg4
        obtain ⟨m, rfl, hm, hbl, hgw, hst, hkp⟩ := hrel
        by_cases hm32 : m < 32
        · have hmi : (m : Int) < 32 := by omega
          have hul := upto_length X Y HXY.out m
          rw [HYL.out] at hul
          obtain ⟨d1, d2⟩ := hbl m (by omega)
          rw [upto_at X Y HXY.out m (by rw [HYL.out]; omega)] at d1
          have hby := HBY.out m (by rw [HUL2.out]; omega)
          have hge : V.getD m 0 = V[m]'(by rw [HUL2.out]; omega) := by rw [List.getD_eq_getElem?_getD, List.getElem?_eq_getElem (by rw [HUL2.out]; omega)]; rfl
          rw [hge] at hby
          have hxa := HXA.out m (by rw [HXL.out]; omega) (by rw [HYL.out]; omega) (by rw [HUL2.out]; omega)
          have hset := upto_set X Y HXY.out m (by rw [HXL.out]; omega)
          generalize V[m]'(by rw [HUL2.out]; omega) = b at hby hxa
          generalize Y[m]'(by rw [HYL.out]; omega) = c at d1 hxa
          have hxr := xor_byte c b
          rw [← hxa] at hxr
          have HL := Lib.hid (hbl.set m (by omega) (X[m]'(by rw [HXL.out]; omega)))
          rw [hset] at HL
          have HSS := Lib.hid (M.stay wr ((wr.setCell ⟨g, m, none⟩ (.int .u8 ((X[m]'(by rw [HXL.out]; omega)).toNat : Int))).drew) _ hst (fun b hS => setCell_other_block wr g m _ b (fun e => HNG.out (e ▸ hS))))
          have HKS2 := Lib.hid (hkp.setCell (p := ⟨g, m, none⟩) (.inr HGW.out) (.int .u8 ((X[m]'(by rw [HXL.out]; omega)).toNat : Int)))
          generalize X[m]'(by rw [HXL.out]; omega) = x at hxr HL HSS HKS2
          clear hbl hst hkp hul hge hxa hset
          go_wp2_with fail
          go_region
          go_wp2_with fail
          go_roundw
          case rel => exact ⟨m + 1, by go_num, by omega, HL.out, by simpa using hgw, HSS.out, HKS2.out.drew⟩
          case measure => simp [intOf]; omega
        · obtain rfl : m = 32 := by omega
          have hfin : upto X Y 32 = X := by
            unfold upto
            rw [List.take_of_length_le (by rw [HXL.out]; omega), List.drop_eq_nil_of_le (by rw [HYL.out]; omega), List.append_nil]
          rw [hfin] at hbl
          have HL := Lib.hid hbl
          have HSS := Lib.hid hst
          have HKS2 := Lib.hid hkp
          clear hbl hst hkp hfin
          go_wp2_with fail
          go_roundw
          case rel => exact ⟨j + 1, by go_num, by omega, by rw [HVB.out], by rw [HDX.out]; exact HL.out, hgw, HSS.out, HKS2.out⟩
          case measure => simp [intOf]; omega
    · obtain rfl : j = n := by omega
      have HF := Lib.hid hst
      have HKF := Lib.hid hkp
      have hcv := fun cap => hbl.text 32 cap (HDL.out j)
      clear hbl hst hkp
      go_wp2_with fail
      go_ret
      exact ⟨rfl, HF.out, HKF.out⟩
end Go.Proofs.YthaejfbbefpojaaDoor
