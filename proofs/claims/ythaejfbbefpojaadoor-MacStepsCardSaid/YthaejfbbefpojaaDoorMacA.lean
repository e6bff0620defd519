/-
  The mathematics of layer 7: keys padded and turned, keyed digests; contract of the document's lay and Mac. Condition: texts of 50000 bytes at most.
-/
import Derived.Test.YthaejfbbefpojaaDoorShM
import Derived.Test.YthaejfbbefpojaaDoorByt
namespace Go.Proofs.YthaejfbbefpojaaDoor
open Go.RowKit

/-- Each byte turned. -/
def xr (b : UInt8) (l : List UInt8) : List UInt8 := l.map (· ^^^ b)
theorem xr_length (b : UInt8) (l : List UInt8) : (xr b l).length = l.length := by simp [xr]
/-- A key, its digest if it is long. -/
noncomputable def key1 (key : List UInt8) : List UInt8 := if 64 < key.length then dig key else key
theorem key1_length (key : List UInt8) : (key1 key).length ≤ 64 := by
  unfold key1
  split
  · rw [dig_length]; omega
  · omega
/-- A key, padded. -/
noncomputable def padk (key : List UInt8) : List UInt8 := key1 key ++ List.replicate (64 - (key1 key).length) 0
theorem padk_length (key : List UInt8) : (padk key).length = 64 := by
  have := key1_length key
  simp [padk]
  omega
/-- THE KEYED DIGEST. -/
noncomputable def hmac (key s : List UInt8) : List UInt8 := dig (xr 0x5c (padk key) ++ dig (xr 0x36 (padk key) ++ s))
theorem hmac_length (key s : List UInt8) : (hmac key s).length = 32 := dig_length _
theorem xor_byte (x y : UInt8) : bits .xor .u8 (x.toNat : Int) (y.toNat : Int) = ((x ^^^ y).toNat : Int) := by
  rw [u8_xor_nat _ _ x.toNat_lt y.toNat_lt, UInt8.toNat_xor]
theorem or_byte (x y : UInt8) : bits .or .u8 (x.toNat : Int) (y.toNat : Int) = ((x ||| y).toNat : Int) := by
  rw [u8_or_nat _ _ x.toNat_lt y.toNat_lt, UInt8.toNat_or]
theorem u8_info : (Tryd.prog.info? 5).map (fun i => (i.zero, i.size, i.bytes)) = some (some (.int .u8 0), 1, 1) := by kernel_rfl
theorem zeros_made (n : Nat) : madeCells (Value.int .u8 0).cells n = (cb (List.replicate n 0)).toArray := by
  apply Array.ext
  · simp [madeCells, cb]
  · intro i h1 h2
    simp [madeCells, cb, Value.cells, Nat.mod_one]
theorem make_bytes (n : Nat) (h : n ≤ 131072) : ∀ W : World, (Instr.makeSlice 27 (.int .i64 (n : Int)) (.int .i64 (n : Int))).run Tryd.prog W = .ok (.slice (some ⟨W.heap.size, 0, none⟩) n n) (W.alloc (.cells (cb (List.replicate n 0)).toArray 5)) := by
  intro W
  obtain ⟨i, hi, hz, hs, hb⟩ := info_u8
  have hr := run_make (P := Tryd.prog) W 27 5 i (.int .u8 0) Tryd.underlying27 hi hz .i64 .i64 n n (by omega) (by omega) (by rw [hb]; omega) (by omega)
  rw [hr, hs]
  simp only [Int.toNat_natCast, Nat.mul_one, zeros_made]
theorem cb_set (l : List UInt8) (k : Nat) (c : UInt8) : (cb l).toArray.setIfInBounds k (.int .u8 (c.toNat : Int)) = (cb (l.set k c)).toArray := by
  simp [cb, List.map_set]
theorem run_text (W : World) (g n cap : Nat) (t : TypeId) (l : List UInt8) (hn : l.length = n) (h : Blk W g t (cb l).toArray) : (convert 27 9 (.slice (some ⟨g, 0, none⟩) n cap)).run Tryd.prog W = .ok (.string (ba l)) W := by
  refine BL.text (l := l) (fun j hj => ⟨?_, h.frozen j⟩) n cap hn
  rw [h.cell]
  have := cb_get l j hj
  simpa using this
/-- A row that is made another one, place by place. -/
def upto (P Q : List UInt8) (k : Nat) : List UInt8 := P.take k ++ Q.drop k
theorem upto_length (P Q : List UInt8) (h : P.length = Q.length) (k : Nat) : (upto P Q k).length = Q.length := by
  simp [upto]
  omega
theorem upto_at (P Q : List UInt8) (h : P.length = Q.length) (k : Nat) (hk : k < Q.length) : (upto P Q k)[k]'(by rw [upto_length P Q h]; exact hk) = Q[k] := by
  unfold upto
  rw [List.getElem_append_right (by simp; omega)]
  simp
  congr 1
  omega
theorem upto_set (P Q : List UInt8) (h : P.length = Q.length) (k : Nat) (hk : k < P.length) : (upto P Q k).set k P[k] = upto P Q (k + 1) := by
  unfold upto
  have e1 : Q.drop k = Q[k]'(by omega) :: Q.drop (k + 1) := (List.getElem_cons_drop (h := by omega)).symm
  rw [e1, take_more P k hk, List.set_append_right _ _ (by simp; omega)]
  have e2 : k - (P.take k).length = 0 := by simp; omega
  rw [e2, List.set_cons_zero, List.append_assoc]
  rfl
theorem key1_at (key : List UInt8) (k : Nat) (h : k < (key1 key).length) (h2 : k < (padk key).length) : (padk key)[k] = (key1 key)[k] := by
  have : (padk key)[k]? = some ((key1 key)[k]) := by unfold padk; rw [List.getElem?_append_left h]; simp
  exact (List.getElem?_eq_some_iff.1 this).2
theorem pad_at (key : List UInt8) (k : Nat) (h : ¬ k < (key1 key).length) (h2 : k < (padk key).length) : (padk key)[k] = 0 := by
  have h64 := padk_length key
  have hl := key1_length key
  have : (padk key)[k]? = some 0 := by
    unfold padk
    rw [List.getElem?_append_right (by omega), List.getElem?_replicate, if_pos (by omega)]
  exact (List.getElem?_eq_some_iff.1 this).2
theorem zeros_at (k : Nat) (h : k < (List.replicate 64 (0 : UInt8)).length) : (List.replicate 64 (0 : UInt8))[k] = 0 := List.getElem_replicate h

set_option maxRecDepth 100000 in
set_option maxHeartbeats 4000000 in
/-- lay, behind its first statement. -/
theorem lay_any (key : List UInt8) (hk : key.length ≤ 100000) (b : UInt8) (w : World) :
    Calls Tryd.prog 44 #[.string (ba key), .int .u8 (b.toNat : Int)] w fun e w' => e = .returned (.string (ba (xr b (padk key)))) ∧ Below w.heap.size w w' := by
  have hmk : ∀ W : World, (Instr.makeSlice 27 (.int .i64 (64 : Int)) (.int .i64 (64 : Int))).run Tryd.prog W = .ok (.slice (some ⟨W.heap.size, 0, none⟩) 64 64) (W.alloc (.cells (cb (List.replicate 64 0)).toArray 5)) := make_bytes 64 (by decide)
  obtain ⟨Z, hZ⟩ : ∃ Z, List.replicate 64 (0 : UInt8) = Z := ⟨_, rfl⟩
  have hZl : Z.length = 64 := by rw [← hZ, List.length_replicate]
  have HZ0 : Hid (∀ k (h : k < Z.length), Z[k] = 0) := Lib.hid (fun k h => by subst hZ; exact List.getElem_replicate h)
  rw [hZ] at hmk
  have HZL := Lib.hid hZl
  clear hZl hZ
  have hks : (ba key).size = key.length := ba_size key
  have HRS := Lib.hid (fun W => ref_sum key hk W)
  obtain ⟨X, hX⟩ : ∃ X, xr b (padk key) = X := ⟨_, rfl⟩
  have hXl : X.length = 64 := by rw [← hX, xr_length, padk_length]
  have hXa : ∀ k (h : k < (padk key).length) (h2 : k < X.length), X[k] = (padk key)[k] ^^^ b := fun k h h2 => by subst hX; simp [xr]
  have HXA := Lib.hid hXa
  have HXL := Lib.hid hXl
  rw [hX]
  clear hXa hXl hX
  go_enter Tryd.func44, Tryd.ntmps44
  by_cases h64 : 64 < key.length
  · have hgt : ((64 : Int) < (key.length : Int)) := by omega
    have hk1 : key1 key = dig key := by unfold key1; rw [if_pos h64]
    have HK1 := Lib.hid hk1
    clear hk1
    go_wp2_with fail
    refine (HRS.out _).mono ?_
    rintro e w1 ⟨rfl, hb1⟩
    rw [← HK1.out]
    have HB1 := Lib.hid hb1
    clear hb1
    have hl1 : (ba (key1 key)).size = (key1 key).length := ba_size _
    have hlle := key1_length key
    have HKA := Lib.hid (key1_at key)
    have HPA := Lib.hid (pad_at key)
    have HPL := Lib.hid (padk_length key)
    have HBY := Lib.hid (fun k (h : k < (key1 key).length) W => byte_in (ba (key1 key)) k (by rw [ba_size]; exact h) W)
    rw [ba_list] at HBY
    generalize key1 key = L at hl1 hlle HKA HPA HBY ⊢
    generalize padk key = PK at HKA HPA HPL HXA
    obtain ⟨s, hsL⟩ : ∃ s, ba L = s := ⟨_, rfl⟩
    rw [hsL] at hl1 HBY ⊢
    clear hsL
    go_wp2_with fail
    clear hmk
    go_loopw [6] (fun i wr => ∃ k : Nat, i = .int .i64 (k : Int) ∧ k ≤ 64 ∧ Blk wr w1.heap.size 5 (cb (upto X Z k)).toArray ∧ Below w1.heap.size w1 wr) (fun i _ => 64 - (intOf i).toNat)
    case atStart => exact ⟨0, rfl, by omega, Blk.new _ _ _, (Below.refl _ _).alloc (Nat.le_refl _) _⟩
    case round =>
      obtain ⟨k, rfl, hk, hbk, hb⟩ := hrel
      have HK := Lib.hid hbk
      have HB := Lib.hid hb
      have hXl := HXL.out
      have hZl := HZL.out
      have hXZ : X.length = Z.length := by omega
      have hul := upto_length X Z hXZ k
      rw [hZl] at hul
      by_cases hlt : k < 64
      · have d1 := hbk.cell k
        have hg := cb_get (upto X Z k) k (by rw [hul]; exact hlt)
        rw [List.getElem?_toArray, hg, upto_at X Z hXZ k (by omega), HZ0.out k (by omega)] at d1
        rw [show ((0 : UInt8).toNat : Int) = 0 from rfl] at d1
        have d2 := hbk.frozen k
        have ki : (k : Int) < 64 := by omega
        have hset := upto_set X Z hXZ k (by omega)
        have hxa := HXA.out k (by rw [HPL.out]; exact hlt) (by omega)
        by_cases hkL : k < L.length
        · have kl : (k : Int) < (L.length : Int) := by omega
          have hby := HBY.out k hkL
          have hke := HKA.out k hkL (by rw [HPL.out]; exact hlt)
          have hge : L.getD k 0 = L[k] := by simp [List.getD_eq_getElem?_getD, hkL]
          rw [hge] at hby
          rw [hke] at hxa
          generalize L[k] = c at hby hxa
          have hxr := xor_byte c b
          rw [← hxa] at hxr
          have HS := Lib.hid ((hbk.set_ k (.int .u8 (c.toNat : Int))).set_ k (.int .u8 ((X[k]'(by omega)).toNat : Int)))
          rw [cb_set, cb_set, List.set_set, hset] at HS
          generalize X[k]'(by omega) = x at hxr HS
          clear hbk hb hg hke hge hset hxa hul hXl hXZ hZl
          go_wp2_with fail
          go_roundw
          case rel => exact ⟨k + 1, by go_num, by omega, HS.out, (HB.out.setCell (Nat.le_refl _) _).setCell (Nat.le_refl _) _⟩
          case measure => simp [intOf]; omega
        · have kl : ¬ (k : Int) < (L.length : Int) := by omega
          have hke := HPA.out k hkL (by rw [HPL.out]; exact hlt)
          rw [hke] at hxa
          have hxr := xor_byte 0 b
          rw [← hxa, show ((0 : UInt8).toNat : Int) = 0 from rfl] at hxr
          have HS := Lib.hid (hbk.set_ k (.int .u8 ((X[k]'(by omega)).toNat : Int)))
          rw [cb_set, hset] at HS
          generalize X[k]'(by omega) = x at hxr HS
          clear hbk hb hg hke hset hxa hul hXl hXZ hZl
          go_wp2_with fail
          go_roundw
          case rel => exact ⟨k + 1, by go_num, by omega, HS.out, HB.out.setCell (Nat.le_refl _) _⟩
          case measure => simp [intOf]; omega
      · obtain rfl : k = 64 := by omega
        have hfin : upto X Z 64 = X := by
          unfold upto
          rw [List.take_of_length_le (by omega), List.drop_eq_nil_of_le (by omega), List.append_nil]
        rw [hfin] at hbk
        have hcv := run_text wr w1.heap.size 64 64 5 X hXl hbk
        have HBF := Lib.hid (HB1.out.trans (hb.mono HB1.out.size))
        clear hbk hb hul hXl hXZ hZl HK hfin
        go_wp2_with fail
        go_ret
        exact ⟨rfl, HBF.out⟩
  · have hgt : ¬ ((64 : Int) < (key.length : Int)) := by omega
    have hk1 : key1 key = key := by unfold key1; rw [if_neg h64]
    have HB1 := Lib.hid (Below.refl w.heap.size w)
    rw [← hk1] at hks ⊢
    obtain ⟨w1, hw1⟩ : ∃ x, x = w := ⟨_, rfl⟩
    have hl1 : (ba (key1 key)).size = (key1 key).length := ba_size _
    have hlle := key1_length key
    have HKA := Lib.hid (key1_at key)
    have HPA := Lib.hid (pad_at key)
    have HPL := Lib.hid (padk_length key)
    have HBY := Lib.hid (fun k (h : k < (key1 key).length) W => byte_in (ba (key1 key)) k (by rw [ba_size]; exact h) W)
    rw [ba_list] at HBY
    generalize key1 key = L at hl1 hlle HKA HPA HBY ⊢
    generalize padk key = PK at HKA HPA HPL HXA
    obtain ⟨s, hsL⟩ : ∃ s, ba L = s := ⟨_, rfl⟩
    rw [hsL] at hl1 HBY ⊢
    clear hsL
    rw [← hw1] at HB1
    subst hw1
    go_wp2_with fail
    clear hmk
    go_loopw [6] (fun i wr => ∃ k : Nat, i = .int .i64 (k : Int) ∧ k ≤ 64 ∧ Blk wr w1.heap.size 5 (cb (upto X Z k)).toArray ∧ Below w1.heap.size w1 wr) (fun i _ => 64 - (intOf i).toNat)
    case atStart => exact ⟨0, rfl, by omega, Blk.new _ _ _, (Below.refl _ _).alloc (Nat.le_refl _) _⟩
    case round =>
      obtain ⟨k, rfl, hk, hbk, hb⟩ := hrel
      have HK := Lib.hid hbk
      have HB := Lib.hid hb
      have hXl := HXL.out
      have hZl := HZL.out
      have hXZ : X.length = Z.length := by omega
      have hul := upto_length X Z hXZ k
      rw [hZl] at hul
      by_cases hlt : k < 64
      · have d1 := hbk.cell k
        have hg := cb_get (upto X Z k) k (by rw [hul]; exact hlt)
        rw [List.getElem?_toArray, hg, upto_at X Z hXZ k (by omega), HZ0.out k (by omega)] at d1
        rw [show ((0 : UInt8).toNat : Int) = 0 from rfl] at d1
        have d2 := hbk.frozen k
        have ki : (k : Int) < 64 := by omega
        have hset := upto_set X Z hXZ k (by omega)
        have hxa := HXA.out k (by rw [HPL.out]; exact hlt) (by omega)
        by_cases hkL : k < L.length
        · have kl : (k : Int) < (L.length : Int) := by omega
          have hby := HBY.out k hkL
          have hke := HKA.out k hkL (by rw [HPL.out]; exact hlt)
          have hge : L.getD k 0 = L[k] := by simp [List.getD_eq_getElem?_getD, hkL]
          rw [hge] at hby
          rw [hke] at hxa
          generalize L[k] = c at hby hxa
          have hxr := xor_byte c b
          rw [← hxa] at hxr
          have HS := Lib.hid ((hbk.set_ k (.int .u8 (c.toNat : Int))).set_ k (.int .u8 ((X[k]'(by omega)).toNat : Int)))
          rw [cb_set, cb_set, List.set_set, hset] at HS
          generalize X[k]'(by omega) = x at hxr HS
          clear hbk hb hg hke hge hset hxa hul hXl hXZ hZl
          go_wp2_with fail
          go_roundw
          case rel => exact ⟨k + 1, by go_num, by omega, HS.out, (HB.out.setCell (Nat.le_refl _) _).setCell (Nat.le_refl _) _⟩
          case measure => simp [intOf]; omega
        · have kl : ¬ (k : Int) < (L.length : Int) := by omega
          have hke := HPA.out k hkL (by rw [HPL.out]; exact hlt)
          rw [hke] at hxa
          have hxr := xor_byte 0 b
          rw [← hxa, show ((0 : UInt8).toNat : Int) = 0 from rfl] at hxr
          have HS := Lib.hid (hbk.set_ k (.int .u8 ((X[k]'(by omega)).toNat : Int)))
          rw [cb_set, hset] at HS
          generalize X[k]'(by omega) = x at hxr HS
          clear hbk hb hg hke hset hxa hul hXl hXZ hZl
          go_wp2_with fail
          go_roundw
          case rel => exact ⟨k + 1, by go_num, by omega, HS.out, HB.out.setCell (Nat.le_refl _) _⟩
          case measure => simp [intOf]; omega
      · obtain rfl : k = 64 := by omega
        have hfin : upto X Z 64 = X := by
          unfold upto
          rw [List.take_of_length_le (by omega), List.drop_eq_nil_of_le (by omega), List.append_nil]
        rw [hfin] at hbk
        have hcv := run_text wr w1.heap.size 64 64 5 X hXl hbk
        have HBF := Lib.hid (HB1.out.trans (hb.mono HB1.out.size))
        clear hbk hb hul hXl hXZ hZl HK hfin
        go_wp2_with fail
        go_ret
        exact ⟨rfl, HBF.out⟩
end Go.Proofs.YthaejfbbefpojaaDoor
