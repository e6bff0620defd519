/-
  Contract of mac.Mac: the keyed digest, and how many digests it makes. Condition: texts of 40000 bytes at most; at most 100 parts; the tables hold what their text says.
-/
import Derived.Test.YthaejfbbefpojaaDoorMacC
namespace Go.Proofs.YthaejfbbefpojaaDoor
open Go.RowKit

set_option maxRecDepth 100000 in
set_option maxHeartbeats 4000000 in
theorem mac_any {mp : Option Addr} {S : Nat → Prop} {st : World → Nat → Prop} (M : Mt mp S st) (key : List UInt8) (hks : key.length ≤ 40000) (l : List ByteArray) (hl : l.length ≤ 100) (hls : len l ≤ 40000) (A : Option Addr) (c k : Nat) (hk : k ≤ 800000) (w : World)
    (hA : Lies S w A (cs l)) (hst : st w k) (hT : Tab w) :
    Calls Tryd.prog 24 #[.pointer mp, .string (ba key), .slice A l.length c] w fun e w' => e = .returned (.string (ba (hmac key (tx l).flatten))) ∧ st w' (k + (2 * one key + 2)) ∧ Kept S w w' := by
  have hone : one key ≤ 1 := by unfold one; split <;> omega
  have l5 : (xr 0x5c (padk key)).length = 64 := by rw [xr_length, padk_length]
  have l3 : (xr 0x36 (padk key)).length = 64 := by rw [xr_length, padk_length]
  have ld := dig_length (xr 0x36 (padk key) ++ (tx l).flatten)
  have HP3 := Lib.hid (fun kb mb k hk W h1 h2 h3 h4 h5 h6 => pad_any M key hks 0x36 kb mb k hk W h1 h2 h3 h4 h5 h6)
  have HP5 := Lib.hid (fun kb mb k hk W h1 h2 h3 h4 h5 h6 => pad_any M key hks 0x5c kb mb k hk W h1 h2 h3 h4 h5 h6)
  have HM : Hid (hmac key (tx l).flatten = dig (xr 0x5c (padk key) ++ dig (xr 0x36 (padk key) ++ (tx l).flatten))) := Lib.hid rfl
  rw [HM.out]
  generalize xr 0x36 (padk key) = p3 at l3 ld HP3 ⊢
  generalize xr 0x5c (padk key) = p5 at l5 HP5 ⊢
  have e1 : (tx (ba p3 :: l)).flatten = p3 ++ (tx l).flatten := by simp [tx, ba_list]
  have z1 : len (ba p3 :: l) ≤ 100000 := by
    have h1 := ba_size p3
    simp only [len, List.map_cons, List.sum_cons] at hls ⊢
    omega
  generalize p3 ++ (tx l).flatten = m3 at e1 ld ⊢
  have e2 : (tx [ba p5, ba (dig m3)]).flatten = p5 ++ dig m3 := by simp [tx, ba_list]
  have z2 : len [ba p5, ba (dig m3)] ≤ 100000 := by
    have h1 := ba_size p5
    have h2 := ba_size (dig m3)
    simp [len]
    omega
  generalize p5 ++ dig m3 = m5 at e2 ⊢
  have HS1 := Lib.hid (fun A c k W h3 h4 h5 h6 => M.sum (ba p3 :: l) A c k W (by simp; omega) z1 h3 h4 h5 h6)
  have HS2 := Lib.hid (fun A c k W h3 h4 h5 h6 => M.sum [ba p5, ba (dig m3)] A c k W (by simp) z2 h3 h4 h5 h6)
  rw [e1] at HS1
  rw [e2] at HS2
  generalize ba (dig m5) = D5 at HS2 ⊢
  generalize ba (dig m3) = D3 at HS1 HS2
  generalize ba p3 = P3 at HS1 HP3
  generalize ba p5 = P5 at HS2 HP5
  have HCC := Lib.hid (fun B c A1 A2 c1 c2 W h1 h2 h3 h4 h5 => concat_two [P3] l (by simp) (by simp; omega) B c A1 A2 c1 c2 W h1 h2 h3 h4 h5)
  have HA := Lib.hid hA
  have HST := Lib.hid hst
  have HT := Lib.hid hT
  have HLW := Lib.hid (fun b (h : S b) => M.low w k hst b h)
  clear hA hst hT e1 e2 z1 z2 l3 l5 ld
  go_enter Tryd.func24, Tryd.ntmps24
  go_wp2_with fail
  generalize hW1 : World.alloc _ (.cells #[.string (ba key)] 9) = W1
  have HMB := Lib.hid (show Blk W1 w.heap.size 31 #[.pointer mp] by rw [← hW1]; exact (Blk.new w _ _).alloc _)
  have HKB := Lib.hid (show Blk W1 (w.heap.size + 1) 9 #[.string (ba key)] by rw [← hW1]; exact Blk.new2 w _ _ _)
  have HB1 := Lib.hid (show Below w.heap.size w W1 by rw [← hW1]; exact ((Below.refl _ w).alloc (Nat.le_refl _) _).alloc (by simp) _)
  have hmS : ¬ S w.heap.size := fun h => Nat.lt_irrefl _ (HLW.out _ h)
  have hkS : ¬ S (w.heap.size + 1) := fun h => by have := HLW.out _ h; omega
  have HS0 := Lib.hid (M.below HST.out HB1.out)
  have HT1 := Lib.hid (HT.out.next HB1.out)
  have HA1 := Lib.hid (HA.out.below HB1.out)
  have c1 : W1.cell? ⟨w.heap.size, 0, none⟩ = some (.pointer mp) := HMB.out.cell 0
  have hml := HMB.out.lt
  have hkl := HKB.out.lt
  clear hW1
  go_region_held3 (fun W => W.cell? ⟨w.heap.size, 0, none⟩ = some (.pointer mp))
    (first | go_keep | (exact KA) | (exact KB) | (exact KC))
    (first
      | (go_at_call 43
         refine (HP3.out (w.heap.size + 1) w.heap.size k (by omega) W1.drew HKB.out.drew HMB.out.drew hkS hmS (M.stay W1 W1.drew k HS0.out (fun _ _ => rfl)) (HT1.out.next (Below.refl _ _).drew)).mono ?_
         rintro e w2 ⟨rfl, s2, k2'⟩
         have k2 : Kept S W1 w2 := (Kept.refl S W1).drew.trans k2' (fun _ h => .inl h)
         have KA : w2.cell? ⟨w.heap.size, 0, none⟩ = some (.pointer mp) := (World.cell?_of_block (a := ⟨w.heap.size, 0, none⟩) (k2.block _ hml hmS)).trans c1
         have hm2 := Nat.lt_of_lt_of_le hml k2.size)
      | (go_at_call 30
         refine (HCC.out (w2.heap.size + 1) 2 (some ⟨w2.heap.size, 0, none⟩) A 1 c ((w2.alloc (.cells #[.string P3] 9)).alloc (.cells #[.slice (some ⟨w2.heap.size, 0, none⟩) 1 1, .slice A l.length c] 30)) ((Blk.new2 w2 _ _ _).cell 0) ((Blk.new2 w2 _ _ _).cell 1) (by simp)
           (((lies_lit (fun _ => False) [P3] w2 (fun h => h)).below ((Below.refl _ _).alloc (Nat.le_refl _) _))) (((HA1.out.kept k2).mono (fun _ _ h => h.elim)).below (((Below.refl _ w2).alloc (Nat.le_refl _) _).alloc (by simp) _))).mono ?_
         rintro e w4 ⟨A4, c4, rfl, hl4, hb4⟩
         have hb24 : Below w2.heap.size w2 w4 := (((Below.refl _ w2).alloc (Nat.le_refl _) _).alloc (by simp) _).trans (hb4.mono (by simp; omega))
         have k4 : Kept S W1 w4 := k2.trans (Kept.of_below hb24) (fun _ h => .inl h)
         have KB : w4.cell? ⟨w.heap.size, 0, none⟩ = some (.pointer mp) := (World.cell?_of_block (a := ⟨w.heap.size, 0, none⟩) (k4.block _ hml hmS)).trans c1
         have s4 := M.below s2 hb24
         have hl5 : Lies S w4 A4 (cs (P3 :: l)) := hl4.mono (fun b _ h => by have := M.low w2 _ s2 b h; simp; omega))
      | (go_at_call 20
         refine (HS1.out A4 c4 (k + one key) w4 (by omega) hl5 s4 (M.tab HT1.out k4)).mono ?_
         rintro e w5 ⟨rfl, s5, k5'⟩
         have k5 : Kept S W1 w5 := k4.trans k5' (fun _ h => .inl h)
         have KC : w5.cell? ⟨w.heap.size, 0, none⟩ = some (.pointer mp) := (World.cell?_of_block (a := ⟨w.heap.size, 0, none⟩) (k5.block _ hml hmS)).trans c1))
  have S5 := Lib.hid s5
  have K5 := Lib.hid k5
  have c5 := KC
  have hz5 := K5.out.size
  have hm5 : Blk w5 w.heap.size 31 #[.pointer mp] := HMB.out.of (k5.block _ hml hmS)
  have hk5 : Blk w5 (w.heap.size + 1) 9 #[.string (ba key)] := HKB.out.of (k5.block _ hkl hkS)
  have HM5 := Lib.hid hm5
  have HK5 := Lib.hid hk5
  have HT5 := Lib.hid (M.tab HT1.out k5)
  clear s2 k2 k2' KA hm2 hl4 hb4 hb24 k4 KB s4 hl5 s5 k5' k5 KC c1 HP3 HS1 HCC HA1 HA hm5 hk5 hml hkl
  have hml := HM5.out.lt
  have hkl := HK5.out.lt
  go_wp2_with fail
  go_region_held3 (fun W => W.cell? ⟨w.heap.size, 0, none⟩ = some (.pointer mp))
    (first | go_keep | (exact KA) | (exact KC))
    (first
      | (go_at_call 43
         refine (HP5.out (w.heap.size + 1) w.heap.size (k + one key + 1) (by omega) w5.drew HK5.out.drew HM5.out.drew hkS hmS (M.stay w5 w5.drew _ S5.out (fun _ _ => rfl)) (HT5.out.next (Below.refl _ _).drew)).mono ?_
         rintro e w6 ⟨rfl, s6, k6'⟩
         have k6 : Kept S w5 w6 := (Kept.refl S w5).drew.trans k6' (fun _ h => .inl h)
         have KA : w6.cell? ⟨w.heap.size, 0, none⟩ = some (.pointer mp) := (World.cell?_of_block (a := ⟨w.heap.size, 0, none⟩) (k6.block _ hml hmS)).trans c5
         have hn6 : ¬ S w6.heap.size := fun h => Nat.lt_irrefl _ (M.low w6 _ s6 _ h))
      | (go_at_call 20
         refine (HS2.out (some ⟨w6.heap.size, 0, none⟩) 2 (k + one key + 1 + one key) (w6.alloc (.cells #[.string P5, .string D3] 9)) (by omega) (lies_lit S [P5, D3] w6 hn6) (M.below s6 ((Below.refl _ _).alloc (Nat.le_refl _) _)) ((M.tab HT5.out k6).next ((Below.refl _ _).alloc (Nat.le_refl _) _))).mono ?_
         rintro e w7 ⟨rfl, s7, k7'⟩
         have k7 : Kept S w5 w7 := (k6.trans (Kept.of_below (S := S) ((Below.refl _ w6).alloc (Nat.le_refl _) (.cells #[.string P5, .string D3] 9))) (fun _ h => .inl h)).trans k7' (fun _ h => .inl h)
         have KC : w7.cell? ⟨w.heap.size, 0, none⟩ = some (.pointer mp) := (World.cell?_of_block (a := ⟨w.heap.size, 0, none⟩) (k7.block _ hml hmS)).trans c5))
  have S7 := Lib.hid s7
  have K7 := Lib.hid (((Kept.of_below (S := S) HB1.out).trans K5.out (fun _ h => .inl h)).trans k7 (fun _ h => .inl h))
  clear s6 k6 k6' KA hn6 s7 k7' k7 KC c5 hml hkl
  go_wp2_with fail
  go_ret
  exact ⟨rfl, by rw [show k + (2 * one key + 2) = k + one key + 1 + one key + 1 by omega]; exact S7.out, K7.out⟩
end Go.Proofs.YthaejfbbefpojaaDoor
