/-
  Contract of mac.Mac's closure, which pads a key. Condition: the key's and the meter's boxes lie off the meter; the tables hold what their text says.
-/
import Derived.Test.YthaejfbbefpojaaDoorMacB
namespace Go.Proofs.YthaejfbbefpojaaDoor
open Go.RowKit

theorem setCell_other_block (w : World) (g i : Nat) (v : Value) (b : Nat) (h : b ≠ g) : (w.setCell ⟨g, i, none⟩ v).heap[b]? = w.heap[b]? := Below.heap_setCell w ⟨g, i, none⟩ v b h
theorem arr64 : (Tryd.prog.info? 5).map (·.size) = some 1 := by kernel_rfl
set_option maxRecDepth 100000 in
set_option maxHeartbeats 4000000 in
theorem pad_any {mp : Option Addr} {S : Nat → Prop} {st : World → Nat → Prop} (M : Mt mp S st) (key : List UInt8) (hks : key.length ≤ 40000) (mask : UInt8) (kb mb k : Nat) (hk : k ≤ 900000) (w : World)
    (hkb : Blk w kb 9 #[.string (ba key)]) (hmb : Blk w mb 31 #[.pointer mp]) (hkS : ¬ S kb) (hmS : ¬ S mb) (hst : st w k) (hT : Tab w) :
    Calls Tryd.prog 43 #[.int .u8 (mask.toNat : Int), .pointer (some ⟨kb, 0, none⟩), .pointer (some ⟨mb, 0, none⟩)] w fun e w' => e = .returned (.string (ba (xr mask (padk key)))) ∧ st w' (k + one key) ∧ Kept S w w' := by
  have HKB := Lib.hid hkb
  have HMB := Lib.hid hmb
  have HST := Lib.hid hst
  have HT := Lib.hid hT
  have hkl := hkb.lt
  have hml := hmb.lt
  have hksz : (ba key).size = key.length := ba_size key
  obtain ⟨Z, hZ⟩ : ∃ Z, List.replicate 64 (0 : UInt8) = Z := ⟨_, rfl⟩
  have hZl : Z.length = 64 := by rw [← hZ, List.length_replicate]
  have HPUT := Lib.hid (put_pad key)
  rw [hZ] at HPUT
  have hZc : (cb Z).toArray = Array.replicate 64 (.int .u8 0) := by subst hZ; simp [cb]; rfl
  have hcut : ∀ (g : Nat) (W : World), (Instr.sliceAt 58 (.pointer (some ⟨g, 0, none⟩)) none none none).run Tryd.prog W = .ok (.slice (some ⟨g, 0, none⟩) 64 64) W := fun g W => run_cut_all 58 5 64 Tryd.underlying58 arr64 g W
  have HSl := Lib.hid (fun b (h : S b) => M.low w k hst b h)
  have HNS : Hid (¬ S w.heap.size) := Lib.hid (fun h => Nat.lt_irrefl _ (M.low w k hst _ h))
  have HPL := Lib.hid (padk_length key)
  obtain ⟨X, hX⟩ : ∃ X, xr mask (padk key) = X := ⟨_, rfl⟩
  have hXl : X.length = 64 := by rw [← hX, xr_length, padk_length]
  have HXA := Lib.hid (turn_pad mask (padk key))
  rw [hX] at HXA ⊢
  have HXL := Lib.hid hXl
  generalize padk key = PK at HPL HXA HPUT hX
  clear hkb hmb hst hT hZ hX hXl
  go_enter Tryd.func43, Tryd.ntmps43
  have hkc := HKB.out.cell 0
  have hmc := HMB.out.cell 0
  simp only [List.getElem?_toArray, List.getElem?_cons_zero] at hkc hmc
  by_cases h64 : 64 < key.length
  · have hgt : (64 : Int) < (key.length : Int) := by omega
    go_wp2_with fail
    generalize hW1 : w.alloc _ = W1
    have HBK := Lib.hid (show Blk W1 w.heap.size 58 (cb Z).toArray by rw [← hW1, hZc]; exact Blk.new w _ _)
    have HBW := Lib.hid (show Below w.heap.size w W1 by rw [← hW1]; exact (Below.refl _ w).alloc (Nat.le_refl _) _)
    clear hW1 hkc hmc
    have c1 : W1.cell? ⟨kb, 0, none⟩ = some (.string (ba key)) := (HBW.out.cell (p := ⟨kb, 0, none⟩) hkl).trans (HKB.out.cell 0)
    have c2 : W1.cell? ⟨mb, 0, none⟩ = some (.pointer mp) := (HBW.out.cell (p := ⟨mb, 0, none⟩) hml).trans (HMB.out.cell 0)
    have HS1 := Lib.hid (M.below HST.out HBW.out)
    have HT1 := Lib.hid (HT.out.next HBW.out)
    have hwl := HBK.out.lt
    have hml1 : mb < W1.heap.size := Nat.lt_of_lt_of_le hml HBW.out.size
    have hkl1 : kb < W1.heap.size := Nat.lt_of_lt_of_le hkl HBW.out.size
    have HN1 : Hid (¬ S W1.heap.size) := Lib.hid (fun h => by have h1 := HSl.out _ h; have h2 := HBW.out.size; omega)
    have hD : Hid (key1 key = dig key) := Lib.hid (by unfold key1; rw [if_pos h64])
    have HC := Lib.hid (fun (W : World) (hb : Below W1.heap.size W1 W) (A : Option Addr) (hA : Lies S W A (cs [ba key])) => M.sum [ba key] A 1 k W (by simp) (by simp [len, hksz]; omega) (by omega) hA (M.below HS1.out hb) (HT1.out.next hb))
    rw [show (tx [ba key]).flatten = key by simp [tx, ba_list]] at HC
    rw [← hD.out] at HC
    go_region_held3 (fun W => W.cell? ⟨mb, 0, none⟩ = some (.pointer mp) ∧ W.cell? ⟨kb, 0, none⟩ = some (.string (ba key)))
      (first | go_keep | (exact KP) | (exact KP2))
      (first
        | (refine (HC.out _ (((Below.refl _ W1).alloc (Nat.le_refl _) _).drew) _ (Lies.kept (lies_lit S [ba key] W1 HN1.out) (Kept.refl _ _).drew)).mono ?_
           rintro e w2 ⟨rfl, s2, k2⟩
           have kk : Kept S W1 w2 := (Kept.of_below (((Below.refl _ W1).alloc (Nat.le_refl _) _).drew)).trans k2 (fun _ h => .inl h)
           have KP : w2.cell? ⟨mb, 0, none⟩ = some (.pointer mp) ∧ w2.cell? ⟨kb, 0, none⟩ = some (.string (ba key)) :=
             ⟨(World.cell?_of_block (a := ⟨mb, 0, none⟩) (kk.block mb hml1 hmS)).trans c2, (World.cell?_of_block (a := ⟨kb, 0, none⟩) (kk.block kb hkl1 hkS)).trans c1⟩
           have hb2 : Blk w2 w.heap.size 58 (cb Z).toArray := HBK.out.of (kk.block _ hwl HNS.out)
           have KP2 : (w2.setRow w.heap.size (cb (Dk.put Z 0 (ba (key1 key)).data.toList)).toArray).cell? ⟨mb, 0, none⟩ = some (.pointer mp) ∧ (w2.setRow w.heap.size (cb (Dk.put Z 0 (ba (key1 key)).data.toList)).toArray).cell? ⟨kb, 0, none⟩ = some (.string (ba key)) :=
             ⟨(World.cell?_of_block (a := ⟨mb, 0, none⟩) (setRow_other w2 w.heap.size mb _ (by omega))).trans KP.1, (World.cell?_of_block (a := ⟨kb, 0, none⟩) (setRow_other w2 w.heap.size kb _ (by omega))).trans KP.2⟩)
        | (refine step_copy_text (by rfl) _ _ _ _ (by rfl) 5 Tryd.underlying27 arr64 (some ⟨w.heap.size, 0, none⟩) 64 64 (ba (key1 key)) (by rfl) (by rfl) (by rw [ba_size]; exact key1_length key) w.heap.size 0 Z 58 hb2 (fun _ => rfl) (by rw [hZl, ba_size]; have := key1_length key; omega) ?_))
    rw [ba_list, HPUT.out]
    have HBF0 := Lib.hid (hb2.row (cb PK).toArray)
    have ho : one key = 1 := by unfold one; rw [if_pos h64]
    have SF := Lib.hid (M.stay w2 (w2.setRow w.heap.size (cb PK).toArray) (k + one key) (by rw [ho]; exact s2) (fun b hS => setRow_other w2 w.heap.size b _ (fun e => HNS.out (e ▸ hS))))
    have KF := Lib.hid (((Kept.of_below (S := S) HBW.out).trans kk (fun _ h => .inl h)).setRow (g := w.heap.size) (.inr (Nat.le_refl _)) (cb PK).toArray)
    clear s2 k2 kk KP hb2 KP2 ho HC hD HS1 HT1 HN1 HBK HBW hgt
    have BF := Lib.hid (HBF0.out)
    clear HBF0
    generalize hW2 : World.setRow _ w.heap.size (cb PK).toArray = W2 at BF SF KF ⊢
    clear hW2
    obtain ⟨g, hg⟩ : ∃ g, w.heap.size = g := ⟨_, rfl⟩
    have HG := Lib.hid hg
    have HNS2 := HNS
    rw [hg] at BF HNS2 ⊢
    clear c1 c2 hg hml1 hkl1 hwl hkl hml
    go_wp2_with fail
    go_loopw [6, 19] (fun _ i wr => ∃ j : Nat, i = .int .i64 (j : Int) ∧ j ≤ 64 ∧ Blk wr g 58 (cb (upto X PK j)).toArray ∧ st wr (k + one key) ∧ Kept S w wr) (fun _ i _ => 64 - (intOf i).toNat)
    case atStart => exact ⟨0, rfl, by omega, by rw [show upto X PK 0 = PK by simp [upto]]; exact BF.out, SF.out, KF.out⟩
    case round =>
      clear BF SF KF
      obtain ⟨j, rfl, hj, hbk, hst, hkp⟩ := hrel
      have HST2 := Lib.hid hst
      have HKP := Lib.hid hkp
      have hXl := HXL.out
      have hPl := HPL.out
      have hXZ : X.length = PK.length := by omega
      by_cases hlt : j < 64
      · have d1 := hbk.cell j
        have hul := upto_length X PK hXZ j
        have hgt2 := cb_get (upto X PK j) j (by omega)
        rw [List.getElem?_toArray, hgt2, upto_at X PK hXZ j (by omega)] at d1
        have d2 := hbk.frozen j
        have ji : (j : Int) < 64 := by omega
        have hset := upto_set X PK hXZ j (by omega)
        have hxa := HXA.out j (by omega) (by omega)
        generalize PK[j]'(by omega) = c at d1 hxa
        have hxr := xor_byte c mask
        rw [← hxa] at hxr
        have HS := Lib.hid (hbk.set_ j (.int .u8 ((X[j]'(by omega)).toNat : Int)))
        rw [cb_set, hset] at HS
        have HKS := Lib.hid (hkp.setCell (p := ⟨g, j, none⟩) (.inr (Nat.le_of_eq HG.out)) (.int .u8 ((X[j]'(by omega)).toNat : Int)))
        have HSS := Lib.hid (M.stay wr (wr.setCell ⟨g, j, none⟩ (.int .u8 ((X[j]'(by omega)).toNat : Int))) _ hst (fun b hS => setCell_other_block wr g j _ b (fun e => HNS2.out (e ▸ hS))))
        generalize X[j]'(by omega) = x at hxr HS HKS HSS
        clear hbk hst hkp hgt2 hul hset hxa hXl hPl hXZ
        go_wp2_with fail
        go_roundw
        case rel => exact ⟨j + 1, by go_num, by omega, HS.out, HSS.out, HKS.out⟩
        case measure => simp [intOf]; omega
      · obtain rfl : j = 64 := by omega
        have hfin : upto X PK 64 = X := by
          unfold upto
          rw [List.take_of_length_le (by omega), List.drop_eq_nil_of_le (by omega), List.append_nil]
        rw [hfin] at hbk
        have hcv := run_text wr g 64 64 58 X hXl hbk
        clear hbk hXl hPl hXZ hfin hst hkp
        go_wp2_with fail
        go_ret
        exact ⟨rfl, HST2.out, HKP.out⟩
  · have hgt : ¬ (64 : Int) < (key.length : Int) := by omega
    go_wp2_with fail
    generalize hW1 : w.alloc _ = W1
    have HBK := Lib.hid (show Blk W1 w.heap.size 58 (cb Z).toArray by rw [← hW1, hZc]; exact Blk.new w _ _)
    have HBW := Lib.hid (show Below w.heap.size w W1 by rw [← hW1]; exact (Below.refl _ w).alloc (Nat.le_refl _) _)
    clear hW1 hkc hmc
    have c1 : W1.cell? ⟨kb, 0, none⟩ = some (.string (ba key)) := (HBW.out.cell (p := ⟨kb, 0, none⟩) hkl).trans (HKB.out.cell 0)
    have c2 : W1.cell? ⟨mb, 0, none⟩ = some (.pointer mp) := (HBW.out.cell (p := ⟨mb, 0, none⟩) hml).trans (HMB.out.cell 0)
    have HS1 := Lib.hid (M.below HST.out HBW.out)
    have HT1 := Lib.hid (HT.out.next HBW.out)
    have hwl := HBK.out.lt
    have hml1 : mb < W1.heap.size := Nat.lt_of_lt_of_le hml HBW.out.size
    have hkl1 : kb < W1.heap.size := Nat.lt_of_lt_of_le hkl HBW.out.size
    have HN1 : Hid (¬ S W1.heap.size) := Lib.hid (fun h => by have h1 := HSl.out _ h; have h2 := HBW.out.size; omega)
    have hk1 : key1 key = key := by unfold key1; rw [if_neg h64]
    have ho : one key = 0 := by unfold one; rw [if_neg h64]
    rw [hk1] at HPUT
    go_region_held3 (fun W => W.cell? ⟨kb, 0, none⟩ = some (.string (ba key)))
      (first | go_keep | (exact KP2))
      (first | (have KP2 : (W1.drew.setRow w.heap.size (cb (Dk.put Z 0 (ba key).data.toList)).toArray).cell? ⟨kb, 0, none⟩ = some (.string (ba key)) :=
                  (World.cell?_of_block (a := ⟨kb, 0, none⟩) (setRow_other W1.drew w.heap.size kb _ (by omega))).trans c1
                refine step_copy_text (by rfl) _ _ _ _ (by rfl) 5 Tryd.underlying27 arr64 (some ⟨w.heap.size, 0, none⟩) 64 64 (ba key) (by rfl) (by rfl) (by omega) w.heap.size 0 Z 58 HBK.out.drew (fun _ => rfl) (by omega) ?_))
    rw [ba_list, HPUT.out]
    have HBF0 := Lib.hid (HBK.out.drew.row (cb PK).toArray)
    have SF := Lib.hid (M.stay W1 (W1.drew.setRow w.heap.size (cb PK).toArray) (k + one key) (by rw [ho]; exact HS1.out) (fun b hS => setRow_other W1.drew w.heap.size b _ (fun e => HNS.out (e ▸ hS))))
    have KF := Lib.hid ((Kept.of_below (S := S) HBW.out).drew.setRow (g := w.heap.size) (.inr (Nat.le_refl _)) (cb PK).toArray)
    clear KP2 ho HS1 HT1 HN1 HBK HBW hgt hk1
    have BF := Lib.hid (HBF0.out)
    clear HBF0
    generalize hW2 : World.setRow _ w.heap.size (cb PK).toArray = W2 at BF SF KF ⊢
    clear hW2
    obtain ⟨g, hg⟩ : ∃ g, w.heap.size = g := ⟨_, rfl⟩
    have HG := Lib.hid hg
    have HNS2 := HNS
    rw [hg] at BF HNS2 ⊢
    clear c1 c2 hg hml1 hkl1 hwl hkl hml
    go_wp2_with fail
    go_loopw [6, 19] (fun _ i wr => ∃ j : Nat, i = .int .i64 (j : Int) ∧ j ≤ 64 ∧ Blk wr g 58 (cb (upto X PK j)).toArray ∧ st wr (k + one key) ∧ Kept S w wr) (fun _ i _ => 64 - (intOf i).toNat)
    case atStart => exact ⟨0, rfl, by omega, by rw [show upto X PK 0 = PK by simp [upto]]; exact BF.out, SF.out, KF.out⟩
    case round =>
      clear BF SF KF
      obtain ⟨j, rfl, hj, hbk, hst, hkp⟩ := hrel
      have HST2 := Lib.hid hst
      have HKP := Lib.hid hkp
      have hXl := HXL.out
      have hPl := HPL.out
      have hXZ : X.length = PK.length := by omega
      by_cases hlt : j < 64
      · have d1 := hbk.cell j
        have hul := upto_length X PK hXZ j
        have hgt2 := cb_get (upto X PK j) j (by omega)
        rw [List.getElem?_toArray, hgt2, upto_at X PK hXZ j (by omega)] at d1
        have d2 := hbk.frozen j
        have ji : (j : Int) < 64 := by omega
        have hset := upto_set X PK hXZ j (by omega)
        have hxa := HXA.out j (by omega) (by omega)
        generalize PK[j]'(by omega) = c at d1 hxa
        have hxr := xor_byte c mask
        rw [← hxa] at hxr
        have HS := Lib.hid (hbk.set_ j (.int .u8 ((X[j]'(by omega)).toNat : Int)))
        rw [cb_set, hset] at HS
        have HKS := Lib.hid (hkp.setCell (p := ⟨g, j, none⟩) (.inr (Nat.le_of_eq HG.out)) (.int .u8 ((X[j]'(by omega)).toNat : Int)))
        have HSS := Lib.hid (M.stay wr (wr.setCell ⟨g, j, none⟩ (.int .u8 ((X[j]'(by omega)).toNat : Int))) _ hst (fun b hS => setCell_other_block wr g j _ b (fun e => HNS2.out (e ▸ hS))))
        generalize X[j]'(by omega) = x at hxr HS HKS HSS
        clear hbk hst hkp hgt2 hul hset hxa hXl hPl hXZ
        go_wp2_with fail
        go_roundw
        case rel => exact ⟨j + 1, by go_num, by omega, HS.out, HSS.out, HKS.out⟩
        case measure => simp [intOf]; omega
      · obtain rfl : j = 64 := by omega
        have hfin : upto X PK 64 = X := by
          unfold upto
          rw [List.take_of_length_le (by omega), List.drop_eq_nil_of_le (by omega), List.append_nil]
        rw [hfin] at hbk
        have hcv := run_text wr g 64 64 58 X hXl hbk
        clear hbk hXl hPl hXZ hfin hst hkp
        go_wp2_with fail
        go_ret
        exact ⟨rfl, HST2.out, HKP.out⟩
end Go.Proofs.YthaejfbbefpojaaDoor
