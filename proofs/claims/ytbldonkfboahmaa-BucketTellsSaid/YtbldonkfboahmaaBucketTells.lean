/-
  BucketTells: what is left, taken and swept is told as the document says. No condition.
-/
import Derived.Deep.Cut
import Derived.BigQuiet
import Derived.Test.YtbldonkfboahmaaBcZ
import Derived.Test.YtbldonkfboahmaaAnyI
import Derived.Test.YtbldonkfboahmaaTkT
namespace Go.Proofs.Ytbldonkfboahmaa.bucketTells
open Go.ChangeShapes Go.WideShapes Go.ChangeAt Go.RowKit
open Go.ChangeMaps (open_string shut_string)

/-- What each operation of the drawn statement leaves. -/
def Vta7 (A : Option Addr) (cp : Nat) (l : List (Int × Int)) (A2 : Option Addr) (c2 : Nat) (RL : List Bb) (AR : Option Addr) (cr : Nat) (lr : List Bu) (SK : ByteArray) (now : Nat) (g5 : Nat) (q2 : Int) (mo : Int) (cf : Bool) (cr2 : Bool) : Nat → Value → World → Prop
  | 0, v, _ => v = .bool true
  | 1, v, _ => v = .bool true
  | 2, v, _ => v = .slice A2 RL.length c2
  | 3, v, _ => v = .string SK
  | 4, v, _ => v = .int .i64 (now : Int)
  | 5, v, _ => v = .bool true
  | 6, v, _ => v = .bool true
  | 7, v, _ => v = .bool true
  | 8, v, _ => v = .slice A2 RL.length c2
  | 9, v, _ => v = .int .i64 (now : Int)
  | 10, v, _ => v = .bool true
  | 11, v, _ => v = .bool true
  | 12, v, _ => v = .bool true
  | 13, v, _ => v = .slice A2 RL.length c2
  | 14, v, _ => v = .string SK
  | 15, v, _ => v = .string (SK ++ (⟨#[120]⟩ : ByteArray))
  | 16, v, _ => v = .int .i64 (now : Int)
  | 17, v, _ => v = .bool true
  | 18, v, _ => v = .bool true
  | 19, v, _ => v = .bool true
  | 20, v, _ => v = .slice AR lr.length cr
  | 21, v, W => Row (fun _ => False) (fewL lr) v W 
  | 22, v, _ => v = .bool cf
  | 23, v, _ => v = .slice AR lr.length cr
  | 24, v, W => Row (fun _ => False) (fewL lr) v W 
  | 25, v, _ => v = .bool cf
  | 26, v, _ => v = .bool true
  | 27, v, _ => v = .bool true
  | 28, v, _ => v = .bool true
  | 29, v, _ => v = .slice A l.length cp
  | 30, v, W => Row (fun _ => False) (M RL) v W 
  | 31, v, _ => v = .bool cr2
  | 32, v, _ => v = .slice A l.length cp
  | 33, v, W => Row (fun _ => False) (M RL) v W 
  | 34, v, _ => v = .bool cr2
  | 35, v, _ => v = .bool true
  | 36, v, _ => v = .bool true
  | 37, v, _ => v = .bool true
  | 38, v, _ => v = .pointer (some ⟨g5, 2, none⟩)
  | 39, v, _ => v = .int .i64 q2
  | 40, v, _ => v = .int .i64 mo
  | 41, v, _ => v = .pointer (some ⟨g5, 2, none⟩)
  | 42, v, _ => v = .int .i64 q2
  | 43, v, _ => v = .int .i64 mo
  | 44, v, _ => v = .bool true
  | 45, v, _ => v = .bool true
  | 46, v, _ => v = .bool true
  | _, _, _ => True
theorem Vta7.on (A : Option Addr) (cp : Nat) (l : List (Int × Int)) (A2 : Option Addr) (c2 : Nat) (RL : List Bb) (AR : Option Addr) (cr : Nat) (lr : List Bu) (SK : ByteArray) (now : Nat) (g5 : Nat) (q2 : Int) (mo : Int) (cf : Bool) (cr2 : Bool) : ∀ (i : Nat) (v : Value) (w w' : World), Vta7 A cp l A2 c2 RL AR cr lr SK now g5 q2 mo cf cr2 i v w → Below w.heap.size w w' → Vta7 A cp l A2 c2 RL AR cr lr SK now g5 q2 mo cf cr2 i v w' := by
  intro i v w w' hv hb
  revert hv
  unfold Vta7
  split <;> first
    | exact fun h => h
    | exact fun ⟨g, h1, h2⟩ => ⟨g, h1, h2.of (hb.block g h2.lt)⟩
    | exact fun h => Row.below h hb
/-- What each operation of the drawn statement leaves. -/
def Vtb7 (A : Option Addr) (cp : Nat) (A2 : Option Addr) (c2 : Nat) (RL : List Bb) (AR : Option Addr) (cr : Nat) (lr : List Bu) (SK : ByteArray) (now : Nat) (g5 : Nat) (q2 : Int) (mo : Int) (cf : Bool) (cr2 : Bool) : Nat → Value → World → Prop
  | 0, v, _ => v = .bool true
  | 1, v, _ => v = .bool true
  | 2, v, _ => v = .slice A2 RL.length c2
  | 3, v, _ => v = .string SK
  | 4, v, _ => v = .int .i64 (now : Int)
  | 5, v, _ => v = .bool true
  | 6, v, _ => v = .bool true
  | 7, v, _ => v = .bool true
  | 8, v, _ => v = .slice A2 RL.length c2
  | 9, v, _ => v = .int .i64 (now : Int)
  | 10, v, _ => v = .bool true
  | 11, v, _ => v = .bool true
  | 12, v, _ => v = .bool true
  | 13, v, _ => v = .slice A2 RL.length c2
  | 14, v, _ => v = .string SK
  | 15, v, _ => v = .string (SK ++ (⟨#[120]⟩ : ByteArray))
  | 16, v, _ => v = .int .i64 (now : Int)
  | 17, v, _ => v = .bool true
  | 18, v, _ => v = .bool true
  | 19, v, _ => v = .bool true
  | 20, v, _ => v = .slice AR lr.length cr
  | 21, v, W => Row (fun _ => False) (fewL lr) v W 
  | 22, v, _ => v = .bool cf
  | 23, v, _ => v = .slice AR lr.length cr
  | 24, v, W => Row (fun _ => False) (fewL lr) v W 
  | 25, v, _ => v = .bool cf
  | 26, v, _ => v = .bool true
  | 27, v, _ => v = .bool true
  | 28, v, _ => v = .bool true
  | 29, v, _ => v = .slice A 24 cp
  | 30, v, W => Row (fun _ => False) (M RL) v W 
  | 31, v, _ => v = .bool cr2
  | 32, v, _ => v = .slice A 24 cp
  | 33, v, W => Row (fun _ => False) (M RL) v W 
  | 34, v, _ => v = .bool cr2
  | 35, v, _ => v = .bool true
  | 36, v, _ => v = .bool true
  | 37, v, _ => v = .bool true
  | 38, v, _ => v = .pointer (some ⟨g5, 2, none⟩)
  | 39, v, _ => v = .int .i64 q2
  | 40, v, _ => v = .int .i64 mo
  | 41, v, _ => v = .pointer (some ⟨g5, 2, none⟩)
  | 42, v, _ => v = .int .i64 q2
  | 43, v, _ => v = .int .i64 mo
  | 44, v, _ => v = .bool true
  | 45, v, _ => v = .bool true
  | 46, v, _ => v = .bool true
  | _, _, _ => True
theorem Vtb7.on (A : Option Addr) (cp : Nat) (A2 : Option Addr) (c2 : Nat) (RL : List Bb) (AR : Option Addr) (cr : Nat) (lr : List Bu) (SK : ByteArray) (now : Nat) (g5 : Nat) (q2 : Int) (mo : Int) (cf : Bool) (cr2 : Bool) : ∀ (i : Nat) (v : Value) (w w' : World), Vtb7 A cp A2 c2 RL AR cr lr SK now g5 q2 mo cf cr2 i v w → Below w.heap.size w w' → Vtb7 A cp A2 c2 RL AR cr lr SK now g5 q2 mo cf cr2 i v w' := by
  intro i v w w' hv hb
  revert hv
  unfold Vtb7
  split <;> first
    | exact fun h => h
    | exact fun ⟨g, h1, h2⟩ => ⟨g, h1, h2.of (hb.block g h2.lt)⟩
    | exact fun h => Row.below h hb

set_option maxRecDepth 100000 in
set_option maxHeartbeats 8000000 in
theorem walk (A : Option Addr) (cp : Nat) (l : List (Int × Int)) (hcp : l.length ≤ cp) (AR : Option Addr) (cr : Nat) (lr : List Bu) (q0 q1 q2 : Int) (hq2 : -9223372036854775808 ≤ q2 ∧ q2 ≤ 9223372036854775807) (w : World) (hA : Prs w A l) (hLR : Lies (fun _ => False) w AR (bus lr)) :
    Calls Try.prog 3 #[.slice A l.length cp, .slice AR lr.length cr, .agg #[.int .i64 q0, .int .i64 q1, .int .i64 q2]] w fun e w' => e = .returned (.bool true) ∧ Below w.heap.size w w' := by
  have HA := Lib.hid hA
  have HLR := Lib.hid hLR
  clear hA hLR
  obtain ⟨kx, hkx⟩ : ∃ k, kix q0 = k := ⟨_, rfl⟩
  have ha := and255 q1
  have hlo := lo_lt q1 256 (by decide)
  obtain ⟨now, ht⟩ : ∃ t, lo q1 256 = t := ⟨_, rfl⟩
  rw [ht] at ha hlo
  have hb0 : Below w.heap.size w (w.alloc (.cells #[.int .i64 q0, .int .i64 q1, .int .i64 q2] 24)) := (Below.refl _ w).alloc (Nat.le_refl _) _
  have HBX := Lib.hid (Blk.new w 24 #[.int .i64 q0, .int .i64 q1, .int .i64 q2])
  clear ht
  by_cases h24 : l.length ≤ 24
  · have HLL : Hid (l.length ≤ 24) := Lib.hid (by omega)
    have hlen := HLL.out
    have HR := Lib.hid (fun W hW => rows_few A cp l HLL.out W (HA.out.below (w := W) hW))
    have hgd := rows_gd l l.length HLL.out
    obtain ⟨RL, hRL⟩ : ∃ RL, rowsK l l.length = RL := ⟨_, rfl⟩
    rw [hRL] at HR hgd
    have hml := M_length RL
    have hgl := hgd.len
    have hfl := few_length lr
    obtain ⟨SK, hsk⟩ : ∃ s, keyS kx = s := ⟨_, rfl⟩
    have hskz : SK.size ≤ 9223372036854775806 := by rw [← hsk]; unfold keyS; rw [ba_size, List.length_take]; omega
    have HTT : Hid (∀ (k : ByteArray) A' c' W, RL.length ≤ c' → Lies (fun _ => False) W A' (bus (M RL)) → Calls Try.prog 13 #[.slice A' RL.length c', .string k, .int .i64 (now : Int)] W fun e w' => e = .returned (.bool true) ∧ Below W.heap.size W w') := Lib.hid (fun k A' c' W hc hL => tells_any A' c' RL hc hgd k now (by omega) W hL)
    have HCF : Hid (∀ X c W, Lies (fun _ => False) W X (bus (fewL lr)) → Calls Try.prog 14 #[.slice X (fewL lr).length c] W fun e w' => e = .returned (.bool (checkB (fewL lr))) ∧ Below W.heap.size W w') := Lib.hid (fun X c W hL => Check_any X c (fewL lr) (by omega) W hL)
    have HDF : Hid (∀ X c W, Lies (fun _ => False) W X (bus (fewL lr)) → Calls Try.prog 16 #[.slice X (fewL lr).length c] W fun e w' => e = .returned (.bool (checkB (fewL lr))) ∧ Below W.heap.size W w') := Lib.hid (fun X c W hL => RCheck_any X c (fewL lr) (by omega) W hL)
    have HCR : Hid (∀ X c W, Lies (fun _ => False) W X (bus (M RL)) → Calls Try.prog 14 #[.slice X (M RL).length c] W fun e w' => e = .returned (.bool (checkB (M RL))) ∧ Below W.heap.size W w') := Lib.hid (fun X c W hL => Check_any X c (M RL) (by omega) W hL)
    have HDR : Hid (∀ X c W, Lies (fun _ => False) W X (bus (M RL)) → Calls Try.prog 16 #[.slice X (M RL).length c] W fun e w' => e = .returned (.bool (checkB (M RL))) ∧ Below W.heap.size W w') := Lib.hid (fun X c W hL => RCheck_any X c (M RL) (by omega) W hL)
    generalize checkB (fewL lr) = cf at HCF HDF
    generalize checkB (M RL) = cr2 at HCR HDR
    have HMO := Lib.hid (fun W => Most_any q2 hq2 W)
    have HRM := Lib.hid (fun W => RMost_any q2 hq2 W)
    generalize mostI q2 = mo at HMO HRM
    have HB0 := Lib.hid hb0
    have hgl2 : ¬ ((l.length : Int) > 24) := by omega
    clear hRL hgd hb0 hml hgl hfl
    go_enter Try.func3, Try.ntmps3
    go_wp2_with fail
    refine (awake_any _).mono ?_
    rintro e w1 ⟨rfl, hb1⟩
    have HB1 := Lib.hid (HB0.out.trans (hb1.mono HB0.out.size))
    have HT1 := Lib.hid (HBX.out.of (hb1.block _ HBX.out.lt))
    clear hb1
    go_wp2_with fail
    refine (HR.out w1 HB1.out).mono ?_
    rintro e w2 ⟨⟨A2, c2, rfl, hc2, hL2⟩, hb2⟩
    have HB2 := Lib.hid (HB1.out.trans (hb2.mono HB1.out.size))
    have HT2 := Lib.hid (HT1.out.of (hb2.block _ HT1.out.lt))
    have HL2 := Lib.hid hL2
    have x0 := (HT2.out.cell 0).trans rfl
    have x1 := (HT2.out.cell 1).trans rfl
    clear hb2 hL2
    go_wp2_with fail
    refine (key_any q0 w2).mono ?_
    rintro e w2' ⟨rfl, rfl⟩
    simp only [hkx, hsk]
    clear x0 x1
    have HTA := Lib.hid (fun W (hW : Below w2.heap.size w2 W) => HTT.out SK A2 c2 W hc2 (HL2.out.below hW))
    have HTB := Lib.hid (fun W (hW : Below w2.heap.size w2 W) => HTT.out ⟨#[]⟩ A2 c2 W hc2 (HL2.out.below hW))
    have HTC := Lib.hid (fun W (hW : Below w2.heap.size w2 W) => HTT.out (SK ++ (⟨#[120]⟩ : ByteArray)) A2 c2 W hc2 (HL2.out.below hW))
    have HFEW : Hid (∀ W, Below w2.heap.size w2 W → Calls Try.prog 15 #[.slice AR lr.length cr] W fun e w' => ∃ v, e = .returned v ∧ (Row (fun _ => False) (fewL lr) v w' ∧ Below W.heap.size W w')) := Lib.hid (fun W hW => by
      refine (few_any AR cr lr W (HLR.out.below (HB2.out.trans (hW.mono HB2.out.size)))).mono ?_
      rintro e w' ⟨⟨v, e, hr⟩, hb⟩
      exact ⟨v, e, hr, hb⟩)
    have HROWS : Hid (∀ W, Below w2.heap.size w2 W → Calls Try.prog 11 #[.slice A l.length cp] W fun e w' => ∃ v, e = .returned v ∧ (Row (fun _ => False) (M RL) v w' ∧ Below W.heap.size W w')) := Lib.hid (fun W hW => by
      refine (HR.out W (HB2.out.trans (hW.mono HB2.out.size))).mono ?_
      rintro e w' ⟨⟨A', c', e, hc, hL⟩, hb⟩
      exact ⟨_, e, ⟨A', c', by rw [M_length], by rw [M_length]; exact hc, hL⟩, hb⟩)
    obtain ⟨g5, hg5⟩ : ∃ g, w.heap.size = g := ⟨_, rfl⟩
    rw [hg5] at HT2
    simp only [hg5]
    go_upto_region 7 with fail
    refine wp_region_some (by kernel_rfl) (Vta7 A cp l A2 c2 RL AR cr lr SK now g5 q2 mo cf cr2) (fun _ _ W => Gc w2 W) (fun w w' => Below w.heap.size w w') (by kernel_rfl) (by kernel_rfl) 71 rfl (by kernel_rfl) (Vta7.on _ _ _ _ _ _ _ _ _ _ _ _ _ _ _ _) (fun _ => (Below.refl _ _)) (Gc.start w2) ?_ ?_
    · intro i o ho listed x W hs hdep hun hg hk
      match i, ho with
      | 0, ho =>
        cases ho
        have q7 : x.tmps[7]?.getD undef = .bool true := hk.fix 7 (by kernel_rfl)
        refine .inl ⟨wanted_plain rfl, ?_⟩
        refine wp_value (v := .bool true) (w' := W) ?_ ⟨_, rfl, rfl, (Below.refl _ _), hg⟩
        go_simp
      | 1, ho =>
        cases ho
        have q25 : x.tmps[25]?.getD undef = .bool true := hk.dep 0 25 (by kernel_rfl) (by kernel_rfl)
        refine .inl ⟨wanted_plain rfl, ?_⟩
        refine wp_value (v := .bool true) (w' := W) ?_ ⟨_, rfl, rfl, (Below.refl _ _), hg⟩
        go_simp
      | 2, ho =>
        cases ho
        have q8 : x.tmps[8]?.getD undef = .slice A2 RL.length c2 := hk.fix 8 (by kernel_rfl)
        refine .inl ⟨wanted_guard (g := 1) (d := 26) (by rfl) (by kernel_rfl) (show x.tmps[26]?.getD undef = .bool true from hk.dep 1 26 (by kernel_rfl) (by kernel_rfl)), ?_⟩
        refine wp_value (v := .slice A2 RL.length c2) (w' := W) ?_ ⟨_, rfl, rfl, (Below.refl _ _), hg⟩
        go_simp
      | 3, ho =>
        cases ho
        have q10 : x.tmps[10]?.getD undef = .string SK := hk.fix 10 (by kernel_rfl)
        refine .inl ⟨wanted_guard (g := 1) (d := 26) (by rfl) (by kernel_rfl) (show x.tmps[26]?.getD undef = .bool true from hk.dep 1 26 (by kernel_rfl) (by kernel_rfl)), ?_⟩
        refine wp_value (v := .string SK) (w' := W) ?_ ⟨_, rfl, rfl, (Below.refl _ _), hg⟩
        go_simp
      | 4, ho =>
        cases ho
        have q9 : x.tmps[9]?.getD undef = .int .i64 (now : Int) := hk.fix 9 (by kernel_rfl)
        refine .inl ⟨wanted_guard (g := 1) (d := 26) (by rfl) (by kernel_rfl) (show x.tmps[26]?.getD undef = .bool true from hk.dep 1 26 (by kernel_rfl) (by kernel_rfl)), ?_⟩
        refine wp_value (v := .int .i64 (now : Int)) (w' := W) ?_ ⟨_, rfl, rfl, (Below.refl _ _), hg⟩
        go_simp
      | 5, ho =>
        cases ho
        have q27 : x.tmps[27]?.getD undef = .slice A2 RL.length c2 := hk.dep 2 27 (by kernel_rfl) (by kernel_rfl)
        have q28 : x.tmps[28]?.getD undef = .string SK := hk.dep 3 28 (by kernel_rfl) (by kernel_rfl)
        have q29 : x.tmps[29]?.getD undef = .int .i64 (now : Int) := hk.dep 4 29 (by kernel_rfl) (by kernel_rfl)
        refine .inl ⟨wanted_guard (g := 1) (d := 26) (by rfl) (by kernel_rfl) (show x.tmps[26]?.getD undef = .bool true from hk.dep 1 26 (by kernel_rfl) (by kernel_rfl)), ?_⟩
        refine wp_enter (f := 13) (args := #[.slice A2 RL.length c2, .string SK, .int .i64 (now : Int)]) (w' := W) (S := fun v w1 => v = .bool true ∧ Below W.heap.size W w1) ?_ ((HTA.out W hg.below).mono fun e w' h => ⟨_, h.1, rfl, h.2⟩) ?_
        · go_simp
        · rintro v W' ⟨rfl, hb⟩
          exact ⟨_, rfl, rfl, hb, hg.calls hb⟩
      | 6, ho =>
        cases ho
        have q26 : x.tmps[26]?.getD undef = .bool true := hk.dep 1 26 (by kernel_rfl) (by kernel_rfl)
        have q30 : x.tmps[30]?.getD undef = .bool true := hk.dep 5 30 (by kernel_rfl) (by kernel_rfl)
        refine .inl ⟨wanted_plain rfl, ?_⟩
        refine wp_value (v := .bool true) (w' := W) ?_ ⟨_, rfl, rfl, (Below.refl _ _), hg⟩
        go_simp
      | 7, ho =>
        cases ho
        have q31 : x.tmps[31]?.getD undef = .bool true := hk.dep 6 31 (by kernel_rfl) (by kernel_rfl)
        refine .inl ⟨wanted_plain rfl, ?_⟩
        refine wp_value (v := .bool true) (w' := W) ?_ ⟨_, rfl, rfl, (Below.refl _ _), hg⟩
        go_simp
      | 8, ho =>
        cases ho
        have q8 : x.tmps[8]?.getD undef = .slice A2 RL.length c2 := hk.fix 8 (by kernel_rfl)
        refine .inl ⟨wanted_guard (g := 7) (d := 32) (by rfl) (by kernel_rfl) (show x.tmps[32]?.getD undef = .bool true from hk.dep 7 32 (by kernel_rfl) (by kernel_rfl)), ?_⟩
        refine wp_value (v := .slice A2 RL.length c2) (w' := W) ?_ ⟨_, rfl, rfl, (Below.refl _ _), hg⟩
        go_simp
      | 9, ho =>
        cases ho
        have q9 : x.tmps[9]?.getD undef = .int .i64 (now : Int) := hk.fix 9 (by kernel_rfl)
        refine .inl ⟨wanted_guard (g := 7) (d := 32) (by rfl) (by kernel_rfl) (show x.tmps[32]?.getD undef = .bool true from hk.dep 7 32 (by kernel_rfl) (by kernel_rfl)), ?_⟩
        refine wp_value (v := .int .i64 (now : Int)) (w' := W) ?_ ⟨_, rfl, rfl, (Below.refl _ _), hg⟩
        go_simp
      | 10, ho =>
        cases ho
        have q33 : x.tmps[33]?.getD undef = .slice A2 RL.length c2 := hk.dep 8 33 (by kernel_rfl) (by kernel_rfl)
        have q34 : x.tmps[34]?.getD undef = .int .i64 (now : Int) := hk.dep 9 34 (by kernel_rfl) (by kernel_rfl)
        refine .inl ⟨wanted_guard (g := 7) (d := 32) (by rfl) (by kernel_rfl) (show x.tmps[32]?.getD undef = .bool true from hk.dep 7 32 (by kernel_rfl) (by kernel_rfl)), ?_⟩
        refine wp_enter (f := 13) (args := #[.slice A2 RL.length c2, .string ⟨#[]⟩, .int .i64 (now : Int)]) (w' := W) (S := fun v w1 => v = .bool true ∧ Below W.heap.size W w1) ?_ ((HTB.out W hg.below).mono fun e w' h => ⟨_, h.1, rfl, h.2⟩) ?_
        · go_simp
        · rintro v W' ⟨rfl, hb⟩
          exact ⟨_, rfl, rfl, hb, hg.calls hb⟩
      | 11, ho =>
        cases ho
        have q32 : x.tmps[32]?.getD undef = .bool true := hk.dep 7 32 (by kernel_rfl) (by kernel_rfl)
        have q35 : x.tmps[35]?.getD undef = .bool true := hk.dep 10 35 (by kernel_rfl) (by kernel_rfl)
        refine .inl ⟨wanted_plain rfl, ?_⟩
        refine wp_value (v := .bool true) (w' := W) ?_ ⟨_, rfl, rfl, (Below.refl _ _), hg⟩
        go_simp
      | 12, ho =>
        cases ho
        have q36 : x.tmps[36]?.getD undef = .bool true := hk.dep 11 36 (by kernel_rfl) (by kernel_rfl)
        refine .inl ⟨wanted_plain rfl, ?_⟩
        refine wp_value (v := .bool true) (w' := W) ?_ ⟨_, rfl, rfl, (Below.refl _ _), hg⟩
        go_simp
      | 13, ho =>
        cases ho
        have q8 : x.tmps[8]?.getD undef = .slice A2 RL.length c2 := hk.fix 8 (by kernel_rfl)
        refine .inl ⟨wanted_guard (g := 12) (d := 37) (by rfl) (by kernel_rfl) (show x.tmps[37]?.getD undef = .bool true from hk.dep 12 37 (by kernel_rfl) (by kernel_rfl)), ?_⟩
        refine wp_value (v := .slice A2 RL.length c2) (w' := W) ?_ ⟨_, rfl, rfl, (Below.refl _ _), hg⟩
        go_simp
      | 14, ho =>
        cases ho
        have q10 : x.tmps[10]?.getD undef = .string SK := hk.fix 10 (by kernel_rfl)
        refine .inl ⟨wanted_guard (g := 12) (d := 37) (by rfl) (by kernel_rfl) (show x.tmps[37]?.getD undef = .bool true from hk.dep 12 37 (by kernel_rfl) (by kernel_rfl)), ?_⟩
        refine wp_value (v := .string SK) (w' := W) ?_ ⟨_, rfl, rfl, (Below.refl _ _), hg⟩
        go_simp
      | 15, ho =>
        cases ho
        have q39 : x.tmps[39]?.getD undef = .string SK := hk.dep 14 39 (by kernel_rfl) (by kernel_rfl)
        refine .inl ⟨wanted_guard (g := 12) (d := 37) (by rfl) (by kernel_rfl) (show x.tmps[37]?.getD undef = .bool true from hk.dep 12 37 (by kernel_rfl) (by kernel_rfl)), ?_⟩
        refine wp_value (v := .string (SK ++ (⟨#[120]⟩ : ByteArray))) (w' := W) ?_ ⟨_, rfl, rfl, (Below.refl _ _), hg⟩
        go_simp
      | 16, ho =>
        cases ho
        have q9 : x.tmps[9]?.getD undef = .int .i64 (now : Int) := hk.fix 9 (by kernel_rfl)
        refine .inl ⟨wanted_guard (g := 12) (d := 37) (by rfl) (by kernel_rfl) (show x.tmps[37]?.getD undef = .bool true from hk.dep 12 37 (by kernel_rfl) (by kernel_rfl)), ?_⟩
        refine wp_value (v := .int .i64 (now : Int)) (w' := W) ?_ ⟨_, rfl, rfl, (Below.refl _ _), hg⟩
        go_simp
      | 17, ho =>
        cases ho
        have q38 : x.tmps[38]?.getD undef = .slice A2 RL.length c2 := hk.dep 13 38 (by kernel_rfl) (by kernel_rfl)
        have q40 : x.tmps[40]?.getD undef = .string (SK ++ (⟨#[120]⟩ : ByteArray)) := hk.dep 15 40 (by kernel_rfl) (by kernel_rfl)
        have q41 : x.tmps[41]?.getD undef = .int .i64 (now : Int) := hk.dep 16 41 (by kernel_rfl) (by kernel_rfl)
        refine .inl ⟨wanted_guard (g := 12) (d := 37) (by rfl) (by kernel_rfl) (show x.tmps[37]?.getD undef = .bool true from hk.dep 12 37 (by kernel_rfl) (by kernel_rfl)), ?_⟩
        refine wp_enter (f := 13) (args := #[.slice A2 RL.length c2, .string (SK ++ (⟨#[120]⟩ : ByteArray)), .int .i64 (now : Int)]) (w' := W) (S := fun v w1 => v = .bool true ∧ Below W.heap.size W w1) ?_ ((HTC.out W hg.below).mono fun e w' h => ⟨_, h.1, rfl, h.2⟩) ?_
        · go_simp
        · rintro v W' ⟨rfl, hb⟩
          exact ⟨_, rfl, rfl, hb, hg.calls hb⟩
      | 18, ho =>
        cases ho
        have q37 : x.tmps[37]?.getD undef = .bool true := hk.dep 12 37 (by kernel_rfl) (by kernel_rfl)
        have q42 : x.tmps[42]?.getD undef = .bool true := hk.dep 17 42 (by kernel_rfl) (by kernel_rfl)
        refine .inl ⟨wanted_plain rfl, ?_⟩
        refine wp_value (v := .bool true) (w' := W) ?_ ⟨_, rfl, rfl, (Below.refl _ _), hg⟩
        go_simp
      | 19, ho =>
        cases ho
        have q43 : x.tmps[43]?.getD undef = .bool true := hk.dep 18 43 (by kernel_rfl) (by kernel_rfl)
        refine .inl ⟨wanted_plain rfl, ?_⟩
        refine wp_value (v := .bool true) (w' := W) ?_ ⟨_, rfl, rfl, (Below.refl _ _), hg⟩
        go_simp
      | 20, ho =>
        cases ho
        have q1 : x.tmps[1]?.getD undef = .slice AR lr.length cr := hk.fix 1 (by kernel_rfl)
        refine .inl ⟨wanted_guard (g := 19) (d := 44) (by rfl) (by kernel_rfl) (show x.tmps[44]?.getD undef = .bool true from hk.dep 19 44 (by kernel_rfl) (by kernel_rfl)), ?_⟩
        refine wp_value (v := .slice AR lr.length cr) (w' := W) ?_ ⟨_, rfl, rfl, (Below.refl _ _), hg⟩
        go_simp
      | 21, ho =>
        cases ho
        have q45 : x.tmps[45]?.getD undef = .slice AR lr.length cr := hk.dep 20 45 (by kernel_rfl) (by kernel_rfl)
        refine .inl ⟨wanted_guard (g := 19) (d := 44) (by rfl) (by kernel_rfl) (show x.tmps[44]?.getD undef = .bool true from hk.dep 19 44 (by kernel_rfl) (by kernel_rfl)), ?_⟩
        refine wp_enter (f := 15) (args := #[.slice AR lr.length cr]) (w' := W) (S := fun v w1 => Row (fun _ => False) (fewL lr) v w1 ∧ Below W.heap.size W w1) ?_ ((HFEW.out W hg.below).mono fun e w' h => h) ?_
        · go_simp
        · rintro v W' ⟨hv, hb⟩
          exact ⟨_, rfl, hv, hb, hg.calls hb⟩
      | 22, ho =>
        cases ho
        refine .inl ⟨wanted_guard (g := 19) (d := 44) (by rfl) (by kernel_rfl) (show x.tmps[44]?.getD undef = .bool true from hk.dep 19 44 (by kernel_rfl) (by kernel_rfl)), ?_⟩
        have hrow : Row (fun _ => False) (fewL lr) (x.tmps[46]?.getD undef) W := hk.dep 21 46 (by kernel_rfl) (by kernel_rfl)
        obtain ⟨X, cx, qs, hcx, hLX⟩ := hrow
        refine wp_enter (f := 14) (args := #[.slice X (fewL lr).length cx]) (w' := W) (S := fun v w1 => v = .bool cf ∧ Below W.heap.size W w1) ?_ ((HCF.out X cx W hLX).mono fun e w' h => ⟨_, h.1, rfl, h.2⟩) ?_
        · go_simp
        · rintro v W' ⟨rfl, hb⟩
          exact ⟨_, rfl, rfl, hb, hg.calls hb⟩
      | 23, ho =>
        cases ho
        have q1 : x.tmps[1]?.getD undef = .slice AR lr.length cr := hk.fix 1 (by kernel_rfl)
        refine .inl ⟨wanted_guard (g := 19) (d := 44) (by rfl) (by kernel_rfl) (show x.tmps[44]?.getD undef = .bool true from hk.dep 19 44 (by kernel_rfl) (by kernel_rfl)), ?_⟩
        refine wp_value (v := .slice AR lr.length cr) (w' := W) ?_ ⟨_, rfl, rfl, (Below.refl _ _), hg⟩
        go_simp
      | 24, ho =>
        cases ho
        have q48 : x.tmps[48]?.getD undef = .slice AR lr.length cr := hk.dep 23 48 (by kernel_rfl) (by kernel_rfl)
        refine .inl ⟨wanted_guard (g := 19) (d := 44) (by rfl) (by kernel_rfl) (show x.tmps[44]?.getD undef = .bool true from hk.dep 19 44 (by kernel_rfl) (by kernel_rfl)), ?_⟩
        refine wp_enter (f := 15) (args := #[.slice AR lr.length cr]) (w' := W) (S := fun v w1 => Row (fun _ => False) (fewL lr) v w1 ∧ Below W.heap.size W w1) ?_ ((HFEW.out W hg.below).mono fun e w' h => h) ?_
        · go_simp
        · rintro v W' ⟨hv, hb⟩
          exact ⟨_, rfl, hv, hb, hg.calls hb⟩
      | 25, ho =>
        cases ho
        refine .inl ⟨wanted_guard (g := 19) (d := 44) (by rfl) (by kernel_rfl) (show x.tmps[44]?.getD undef = .bool true from hk.dep 19 44 (by kernel_rfl) (by kernel_rfl)), ?_⟩
        have hrow : Row (fun _ => False) (fewL lr) (x.tmps[49]?.getD undef) W := hk.dep 24 49 (by kernel_rfl) (by kernel_rfl)
        obtain ⟨X, cx, qs, hcx, hLX⟩ := hrow
        refine wp_enter (f := 16) (args := #[.slice X (fewL lr).length cx]) (w' := W) (S := fun v w1 => v = .bool cf ∧ Below W.heap.size W w1) ?_ ((HDF.out X cx W hLX).mono fun e w' h => ⟨_, h.1, rfl, h.2⟩) ?_
        · go_simp
        · rintro v W' ⟨rfl, hb⟩
          exact ⟨_, rfl, rfl, hb, hg.calls hb⟩
      | 26, ho =>
        cases ho
        have q47 : x.tmps[47]?.getD undef = .bool cf := hk.dep 22 47 (by kernel_rfl) (by kernel_rfl)
        have q50 : x.tmps[50]?.getD undef = .bool cf := hk.dep 25 50 (by kernel_rfl) (by kernel_rfl)
        refine .inl ⟨wanted_guard (g := 19) (d := 44) (by rfl) (by kernel_rfl) (show x.tmps[44]?.getD undef = .bool true from hk.dep 19 44 (by kernel_rfl) (by kernel_rfl)), ?_⟩
        refine wp_value (v := .bool true) (w' := W) ?_ ⟨_, rfl, rfl, (Below.refl _ _), hg⟩
        go_simp
      | 27, ho =>
        cases ho
        have q44 : x.tmps[44]?.getD undef = .bool true := hk.dep 19 44 (by kernel_rfl) (by kernel_rfl)
        have q51 : x.tmps[51]?.getD undef = .bool true := hk.dep 26 51 (by kernel_rfl) (by kernel_rfl)
        refine .inl ⟨wanted_plain rfl, ?_⟩
        refine wp_value (v := .bool true) (w' := W) ?_ ⟨_, rfl, rfl, (Below.refl _ _), hg⟩
        go_simp
      | 28, ho =>
        cases ho
        have q52 : x.tmps[52]?.getD undef = .bool true := hk.dep 27 52 (by kernel_rfl) (by kernel_rfl)
        refine .inl ⟨wanted_plain rfl, ?_⟩
        refine wp_value (v := .bool true) (w' := W) ?_ ⟨_, rfl, rfl, (Below.refl _ _), hg⟩
        go_simp
      | 29, ho =>
        cases ho
        have q0 : x.tmps[0]?.getD undef = .slice A l.length cp := hk.fix 0 (by kernel_rfl)
        refine .inl ⟨wanted_guard (g := 28) (d := 53) (by rfl) (by kernel_rfl) (show x.tmps[53]?.getD undef = .bool true from hk.dep 28 53 (by kernel_rfl) (by kernel_rfl)), ?_⟩
        refine wp_value (v := .slice A l.length cp) (w' := W) ?_ ⟨_, rfl, rfl, (Below.refl _ _), hg⟩
        go_simp
      | 30, ho =>
        cases ho
        have q54 : x.tmps[54]?.getD undef = .slice A l.length cp := hk.dep 29 54 (by kernel_rfl) (by kernel_rfl)
        refine .inl ⟨wanted_guard (g := 28) (d := 53) (by rfl) (by kernel_rfl) (show x.tmps[53]?.getD undef = .bool true from hk.dep 28 53 (by kernel_rfl) (by kernel_rfl)), ?_⟩
        refine wp_enter (f := 11) (args := #[.slice A l.length cp]) (w' := W) (S := fun v w1 => Row (fun _ => False) (M RL) v w1 ∧ Below W.heap.size W w1) ?_ ((HROWS.out W hg.below).mono fun e w' h => h) ?_
        · go_simp
        · rintro v W' ⟨hv, hb⟩
          exact ⟨_, rfl, hv, hb, hg.calls hb⟩
      | 31, ho =>
        cases ho
        refine .inl ⟨wanted_guard (g := 28) (d := 53) (by rfl) (by kernel_rfl) (show x.tmps[53]?.getD undef = .bool true from hk.dep 28 53 (by kernel_rfl) (by kernel_rfl)), ?_⟩
        have hrow : Row (fun _ => False) (M RL) (x.tmps[55]?.getD undef) W := hk.dep 30 55 (by kernel_rfl) (by kernel_rfl)
        obtain ⟨X, cx, qs, hcx, hLX⟩ := hrow
        refine wp_enter (f := 14) (args := #[.slice X (M RL).length cx]) (w' := W) (S := fun v w1 => v = .bool cr2 ∧ Below W.heap.size W w1) ?_ ((HCR.out X cx W hLX).mono fun e w' h => ⟨_, h.1, rfl, h.2⟩) ?_
        · go_simp
        · rintro v W' ⟨rfl, hb⟩
          exact ⟨_, rfl, rfl, hb, hg.calls hb⟩
      | 32, ho =>
        cases ho
        have q0 : x.tmps[0]?.getD undef = .slice A l.length cp := hk.fix 0 (by kernel_rfl)
        refine .inl ⟨wanted_guard (g := 28) (d := 53) (by rfl) (by kernel_rfl) (show x.tmps[53]?.getD undef = .bool true from hk.dep 28 53 (by kernel_rfl) (by kernel_rfl)), ?_⟩
        refine wp_value (v := .slice A l.length cp) (w' := W) ?_ ⟨_, rfl, rfl, (Below.refl _ _), hg⟩
        go_simp
      | 33, ho =>
        cases ho
        have q57 : x.tmps[57]?.getD undef = .slice A l.length cp := hk.dep 32 57 (by kernel_rfl) (by kernel_rfl)
        refine .inl ⟨wanted_guard (g := 28) (d := 53) (by rfl) (by kernel_rfl) (show x.tmps[53]?.getD undef = .bool true from hk.dep 28 53 (by kernel_rfl) (by kernel_rfl)), ?_⟩
        refine wp_enter (f := 11) (args := #[.slice A l.length cp]) (w' := W) (S := fun v w1 => Row (fun _ => False) (M RL) v w1 ∧ Below W.heap.size W w1) ?_ ((HROWS.out W hg.below).mono fun e w' h => h) ?_
        · go_simp
        · rintro v W' ⟨hv, hb⟩
          exact ⟨_, rfl, hv, hb, hg.calls hb⟩
      | 34, ho =>
        cases ho
        refine .inl ⟨wanted_guard (g := 28) (d := 53) (by rfl) (by kernel_rfl) (show x.tmps[53]?.getD undef = .bool true from hk.dep 28 53 (by kernel_rfl) (by kernel_rfl)), ?_⟩
        have hrow : Row (fun _ => False) (M RL) (x.tmps[58]?.getD undef) W := hk.dep 33 58 (by kernel_rfl) (by kernel_rfl)
        obtain ⟨X, cx, qs, hcx, hLX⟩ := hrow
        refine wp_enter (f := 16) (args := #[.slice X (M RL).length cx]) (w' := W) (S := fun v w1 => v = .bool cr2 ∧ Below W.heap.size W w1) ?_ ((HDR.out X cx W hLX).mono fun e w' h => ⟨_, h.1, rfl, h.2⟩) ?_
        · go_simp
        · rintro v W' ⟨rfl, hb⟩
          exact ⟨_, rfl, rfl, hb, hg.calls hb⟩
      | 35, ho =>
        cases ho
        have q56 : x.tmps[56]?.getD undef = .bool cr2 := hk.dep 31 56 (by kernel_rfl) (by kernel_rfl)
        have q59 : x.tmps[59]?.getD undef = .bool cr2 := hk.dep 34 59 (by kernel_rfl) (by kernel_rfl)
        refine .inl ⟨wanted_guard (g := 28) (d := 53) (by rfl) (by kernel_rfl) (show x.tmps[53]?.getD undef = .bool true from hk.dep 28 53 (by kernel_rfl) (by kernel_rfl)), ?_⟩
        refine wp_value (v := .bool true) (w' := W) ?_ ⟨_, rfl, rfl, (Below.refl _ _), hg⟩
        go_simp
      | 36, ho =>
        cases ho
        have q53 : x.tmps[53]?.getD undef = .bool true := hk.dep 28 53 (by kernel_rfl) (by kernel_rfl)
        have q60 : x.tmps[60]?.getD undef = .bool true := hk.dep 35 60 (by kernel_rfl) (by kernel_rfl)
        refine .inl ⟨wanted_plain rfl, ?_⟩
        refine wp_value (v := .bool true) (w' := W) ?_ ⟨_, rfl, rfl, (Below.refl _ _), hg⟩
        go_simp
      | 37, ho =>
        cases ho
        have q61 : x.tmps[61]?.getD undef = .bool true := hk.dep 36 61 (by kernel_rfl) (by kernel_rfl)
        refine .inl ⟨wanted_plain rfl, ?_⟩
        refine wp_value (v := .bool true) (w' := W) ?_ ⟨_, rfl, rfl, (Below.refl _ _), hg⟩
        go_simp
      | 38, ho =>
        cases ho
        have q5 : x.tmps[5]?.getD undef = .pointer (some ⟨g5, 0, none⟩) := hk.fix 5 (by kernel_rfl)
        refine .inl ⟨wanted_guard (g := 37) (d := 62) (by rfl) (by kernel_rfl) (show x.tmps[62]?.getD undef = .bool true from hk.dep 37 62 (by kernel_rfl) (by kernel_rfl)), ?_⟩
        refine wp_value (v := .pointer (some ⟨g5, 2, none⟩)) (w' := W) ?_ ⟨_, rfl, rfl, (Below.refl _ _), hg⟩
        go_simp
      | 39, ho =>
        cases ho
        have q63 : x.tmps[63]?.getD undef = .pointer (some ⟨g5, 2, none⟩) := hk.dep 38 63 (by kernel_rfl) (by kernel_rfl)
        refine .inl ⟨wanted_guard (g := 37) (d := 62) (by rfl) (by kernel_rfl) (show x.tmps[62]?.getD undef = .bool true from hk.dep 37 62 (by kernel_rfl) (by kernel_rfl)), ?_⟩
        have cf : W.cell? ⟨g5, 2, none⟩ = some (.int .i64 q2) := ((HT2.out.of (hg.below.block _ HT2.out.lt)).cell 2).trans rfl
        refine wp_value (v := .int .i64 q2) (w' := W) ?_ ⟨_, rfl, rfl, (Below.refl _ _), hg⟩
        go_simp
      | 40, ho =>
        cases ho
        have q64 : x.tmps[64]?.getD undef = .int .i64 q2 := hk.dep 39 64 (by kernel_rfl) (by kernel_rfl)
        refine .inl ⟨wanted_guard (g := 37) (d := 62) (by rfl) (by kernel_rfl) (show x.tmps[62]?.getD undef = .bool true from hk.dep 37 62 (by kernel_rfl) (by kernel_rfl)), ?_⟩
        refine wp_enter (f := 17) (args := #[.int .i64 q2]) (w' := W) (S := fun v w1 => v = .int .i64 mo ∧ Below W.heap.size W w1) ?_ ((HMO.out W).mono fun e w' h => ⟨_, h.1, rfl, by rw [h.2]; exact Below.refl _ _⟩) ?_
        · go_simp
        · rintro v W' ⟨rfl, hb⟩
          exact ⟨_, rfl, rfl, hb, hg.calls hb⟩
      | 41, ho =>
        cases ho
        have q5 : x.tmps[5]?.getD undef = .pointer (some ⟨g5, 0, none⟩) := hk.fix 5 (by kernel_rfl)
        refine .inl ⟨wanted_guard (g := 37) (d := 62) (by rfl) (by kernel_rfl) (show x.tmps[62]?.getD undef = .bool true from hk.dep 37 62 (by kernel_rfl) (by kernel_rfl)), ?_⟩
        refine wp_value (v := .pointer (some ⟨g5, 2, none⟩)) (w' := W) ?_ ⟨_, rfl, rfl, (Below.refl _ _), hg⟩
        go_simp
      | 42, ho =>
        cases ho
        have q66 : x.tmps[66]?.getD undef = .pointer (some ⟨g5, 2, none⟩) := hk.dep 41 66 (by kernel_rfl) (by kernel_rfl)
        refine .inl ⟨wanted_guard (g := 37) (d := 62) (by rfl) (by kernel_rfl) (show x.tmps[62]?.getD undef = .bool true from hk.dep 37 62 (by kernel_rfl) (by kernel_rfl)), ?_⟩
        have cf : W.cell? ⟨g5, 2, none⟩ = some (.int .i64 q2) := ((HT2.out.of (hg.below.block _ HT2.out.lt)).cell 2).trans rfl
        refine wp_value (v := .int .i64 q2) (w' := W) ?_ ⟨_, rfl, rfl, (Below.refl _ _), hg⟩
        go_simp
      | 43, ho =>
        cases ho
        have q67 : x.tmps[67]?.getD undef = .int .i64 q2 := hk.dep 42 67 (by kernel_rfl) (by kernel_rfl)
        refine .inl ⟨wanted_guard (g := 37) (d := 62) (by rfl) (by kernel_rfl) (show x.tmps[62]?.getD undef = .bool true from hk.dep 37 62 (by kernel_rfl) (by kernel_rfl)), ?_⟩
        refine wp_enter (f := 18) (args := #[.int .i64 q2]) (w' := W) (S := fun v w1 => v = .int .i64 mo ∧ Below W.heap.size W w1) ?_ ((HRM.out W).mono fun e w' h => ⟨_, h.1, rfl, by rw [h.2]; exact Below.refl _ _⟩) ?_
        · go_simp
        · rintro v W' ⟨rfl, hb⟩
          exact ⟨_, rfl, rfl, hb, hg.calls hb⟩
      | 44, ho =>
        cases ho
        have q65 : x.tmps[65]?.getD undef = .int .i64 mo := hk.dep 40 65 (by kernel_rfl) (by kernel_rfl)
        have q68 : x.tmps[68]?.getD undef = .int .i64 mo := hk.dep 43 68 (by kernel_rfl) (by kernel_rfl)
        refine .inl ⟨wanted_guard (g := 37) (d := 62) (by rfl) (by kernel_rfl) (show x.tmps[62]?.getD undef = .bool true from hk.dep 37 62 (by kernel_rfl) (by kernel_rfl)), ?_⟩
        refine wp_value (v := .bool true) (w' := W) ?_ ⟨_, rfl, rfl, (Below.refl _ _), hg⟩
        go_simp
      | 45, ho =>
        cases ho
        have q62 : x.tmps[62]?.getD undef = .bool true := hk.dep 37 62 (by kernel_rfl) (by kernel_rfl)
        have q69 : x.tmps[69]?.getD undef = .bool true := hk.dep 44 69 (by kernel_rfl) (by kernel_rfl)
        refine .inl ⟨wanted_plain rfl, ?_⟩
        refine wp_value (v := .bool true) (w' := W) ?_ ⟨_, rfl, rfl, (Below.refl _ _), hg⟩
        go_simp
      | 46, ho =>
        cases ho
        have q70 : x.tmps[70]?.getD undef = .bool true := hk.dep 45 70 (by kernel_rfl) (by kernel_rfl)
        refine .inl ⟨wanted_plain rfl, ?_⟩
        refine wp_value (v := .bool true) (w' := W) ?_ ⟨_, rfl, rfl, (Below.refl _ _), hg⟩
        go_simp
      | _ + 47, ho => cases ho
    intro listed x w3 hall hg hk
    have e25 : x.tmps[25]?.getD undef = .bool true := hk.last 0 25 (by decide) (by kernel_rfl)
    have e26 : x.tmps[26]?.getD undef = .bool true := hk.last 1 26 (by decide) (by kernel_rfl)
    have e27 : x.tmps[27]?.getD undef = .slice A2 RL.length c2 := hk.last 2 27 (by decide) (by kernel_rfl)
    have e28 : x.tmps[28]?.getD undef = .string SK := hk.last 3 28 (by decide) (by kernel_rfl)
    have e29 : x.tmps[29]?.getD undef = .int .i64 (now : Int) := hk.last 4 29 (by decide) (by kernel_rfl)
    have e30 : x.tmps[30]?.getD undef = .bool true := hk.last 5 30 (by decide) (by kernel_rfl)
    have e31 : x.tmps[31]?.getD undef = .bool true := hk.last 6 31 (by decide) (by kernel_rfl)
    have e32 : x.tmps[32]?.getD undef = .bool true := hk.last 7 32 (by decide) (by kernel_rfl)
    have e33 : x.tmps[33]?.getD undef = .slice A2 RL.length c2 := hk.last 8 33 (by decide) (by kernel_rfl)
    have e34 : x.tmps[34]?.getD undef = .int .i64 (now : Int) := hk.last 9 34 (by decide) (by kernel_rfl)
    have e35 : x.tmps[35]?.getD undef = .bool true := hk.last 10 35 (by decide) (by kernel_rfl)
    have e36 : x.tmps[36]?.getD undef = .bool true := hk.last 11 36 (by decide) (by kernel_rfl)
    have e37 : x.tmps[37]?.getD undef = .bool true := hk.last 12 37 (by decide) (by kernel_rfl)
    have e38 : x.tmps[38]?.getD undef = .slice A2 RL.length c2 := hk.last 13 38 (by decide) (by kernel_rfl)
    have e39 : x.tmps[39]?.getD undef = .string SK := hk.last 14 39 (by decide) (by kernel_rfl)
    have e40 : x.tmps[40]?.getD undef = .string (SK ++ (⟨#[120]⟩ : ByteArray)) := hk.last 15 40 (by decide) (by kernel_rfl)
    have e41 : x.tmps[41]?.getD undef = .int .i64 (now : Int) := hk.last 16 41 (by decide) (by kernel_rfl)
    have e42 : x.tmps[42]?.getD undef = .bool true := hk.last 17 42 (by decide) (by kernel_rfl)
    have e43 : x.tmps[43]?.getD undef = .bool true := hk.last 18 43 (by decide) (by kernel_rfl)
    have e44 : x.tmps[44]?.getD undef = .bool true := hk.last 19 44 (by decide) (by kernel_rfl)
    have e45 : x.tmps[45]?.getD undef = .slice AR lr.length cr := hk.last 20 45 (by decide) (by kernel_rfl)
    have e47 : x.tmps[47]?.getD undef = .bool cf := hk.last 22 47 (by decide) (by kernel_rfl)
    have e48 : x.tmps[48]?.getD undef = .slice AR lr.length cr := hk.last 23 48 (by decide) (by kernel_rfl)
    have e50 : x.tmps[50]?.getD undef = .bool cf := hk.last 25 50 (by decide) (by kernel_rfl)
    have e51 : x.tmps[51]?.getD undef = .bool true := hk.last 26 51 (by decide) (by kernel_rfl)
    have e52 : x.tmps[52]?.getD undef = .bool true := hk.last 27 52 (by decide) (by kernel_rfl)
    have e53 : x.tmps[53]?.getD undef = .bool true := hk.last 28 53 (by decide) (by kernel_rfl)
    have e54 : x.tmps[54]?.getD undef = .slice A l.length cp := hk.last 29 54 (by decide) (by kernel_rfl)
    have e56 : x.tmps[56]?.getD undef = .bool cr2 := hk.last 31 56 (by decide) (by kernel_rfl)
    have e57 : x.tmps[57]?.getD undef = .slice A l.length cp := hk.last 32 57 (by decide) (by kernel_rfl)
    have e59 : x.tmps[59]?.getD undef = .bool cr2 := hk.last 34 59 (by decide) (by kernel_rfl)
    have e60 : x.tmps[60]?.getD undef = .bool true := hk.last 35 60 (by decide) (by kernel_rfl)
    have e61 : x.tmps[61]?.getD undef = .bool true := hk.last 36 61 (by decide) (by kernel_rfl)
    have e62 : x.tmps[62]?.getD undef = .bool true := hk.last 37 62 (by decide) (by kernel_rfl)
    have e63 : x.tmps[63]?.getD undef = .pointer (some ⟨g5, 2, none⟩) := hk.last 38 63 (by decide) (by kernel_rfl)
    have e64 : x.tmps[64]?.getD undef = .int .i64 q2 := hk.last 39 64 (by decide) (by kernel_rfl)
    have e65 : x.tmps[65]?.getD undef = .int .i64 mo := hk.last 40 65 (by decide) (by kernel_rfl)
    have e66 : x.tmps[66]?.getD undef = .pointer (some ⟨g5, 2, none⟩) := hk.last 41 66 (by decide) (by kernel_rfl)
    have e67 : x.tmps[67]?.getD undef = .int .i64 q2 := hk.last 42 67 (by decide) (by kernel_rfl)
    have e68 : x.tmps[68]?.getD undef = .int .i64 mo := hk.last 43 68 (by decide) (by kernel_rfl)
    have e69 : x.tmps[69]?.getD undef = .bool true := hk.last 44 69 (by decide) (by kernel_rfl)
    have e70 : x.tmps[70]?.getD undef = .bool true := hk.last 45 70 (by decide) (by kernel_rfl)
    have e6 : x.tmps[6]?.getD undef = .bool true := hk.last 46 6 (by decide) (by kernel_rfl)
    obtain ⟨z49, hz49⟩ : ∃ z, x.tmps[49]?.getD undef = z := ⟨_, rfl⟩
    obtain ⟨z58, hz58⟩ : ∃ z, x.tmps[58]?.getD undef = z := ⟨_, rfl⟩
    obtain ⟨z46, hz46⟩ : ∃ z, x.tmps[46]?.getD undef = z := ⟨_, rfl⟩
    obtain ⟨z55, hz55⟩ : ∃ z, x.tmps[55]?.getD undef = z := ⟨_, rfl⟩
    have hB := Lib.hid hg.below
    have hx := hk.act [25, 26, 27, 28, 29, 30, 31, 32, 33, 34, 35, 36, 37, 38, 39, 40, 41, 42, 43, 44, 45, 46, 47, 48, 49, 50, 51, 52, 53, 54, 55, 56, 57, 58, 59, 60, 61, 62, 63, 64, 65, 66, 67, 68, 69, 70, 6] (by kernel_rfl)
    clear hk hg hall
    simp only [List.foldl_cons, List.foldl_nil, e25, e26, e27, e28, e29, e30, e31, e32, e33, e34, e35, e36, e37, e38, e39, e40, e41, e42, e43, e44, e45, e47, e48, e50, e51, e52, e53, e54, e56, e57, e59, e60, e61, e62, e63, e64, e65, e66, e67, e68, e69, e70, e6, hz49, hz58, hz46, hz55] at hx
    clear e25 e26 e27 e28 e29 e30 e31 e32 e33 e34 e35 e36 e37 e38 e39 e40 e41 e42 e43 e44 e45 e47 e48 e50 e51 e52 e53 e54 e56 e57 e59 e60 e61 e62 e63 e64 e65 e66 e67 e68 e69 e70 e6 hz49 hz58 hz46 hz55
    subst hx
    simp only [Act.put, List.setIfInBounds_toArray, List.set_cons_succ, List.set_cons_zero]
    have HB3 := Lib.hid (HB2.out.trans (hB.out.mono HB2.out.size))
    clear hB
    go_wp2_with fail
    go_ret
    rw [← hg5]
    exact ⟨rfl, HB3.out⟩
  · have HLL : Hid ((l.take 24).length ≤ 24) := Lib.hid (by rw [List.length_take]; omega)
    have hlen := HLL.out
    have hl24 : (l.take 24).length = 24 := by rw [List.length_take]; omega
    have HR := Lib.hid (fun W hW => rows_few A cp (l.take 24) HLL.out W ((HA.out.take 24).below (w := W) hW))
    rw [hl24] at HR
    have hgd := rows_gd (l.take 24) (l.take 24).length HLL.out
    rw [hl24] at hgd
    obtain ⟨RL, hRL⟩ : ∃ RL, rowsK (l.take 24) 24 = RL := ⟨_, rfl⟩
    rw [hRL] at HR hgd
    have hml := M_length RL
    have hgl := hgd.len
    have hfl := few_length lr
    obtain ⟨SK, hsk⟩ : ∃ s, keyS kx = s := ⟨_, rfl⟩
    have hskz : SK.size ≤ 9223372036854775806 := by rw [← hsk]; unfold keyS; rw [ba_size, List.length_take]; omega
    have HTT : Hid (∀ (k : ByteArray) A' c' W, RL.length ≤ c' → Lies (fun _ => False) W A' (bus (M RL)) → Calls Try.prog 13 #[.slice A' RL.length c', .string k, .int .i64 (now : Int)] W fun e w' => e = .returned (.bool true) ∧ Below W.heap.size W w') := Lib.hid (fun k A' c' W hc hL => tells_any A' c' RL hc hgd k now (by omega) W hL)
    have HCF : Hid (∀ X c W, Lies (fun _ => False) W X (bus (fewL lr)) → Calls Try.prog 14 #[.slice X (fewL lr).length c] W fun e w' => e = .returned (.bool (checkB (fewL lr))) ∧ Below W.heap.size W w') := Lib.hid (fun X c W hL => Check_any X c (fewL lr) (by omega) W hL)
    have HDF : Hid (∀ X c W, Lies (fun _ => False) W X (bus (fewL lr)) → Calls Try.prog 16 #[.slice X (fewL lr).length c] W fun e w' => e = .returned (.bool (checkB (fewL lr))) ∧ Below W.heap.size W w') := Lib.hid (fun X c W hL => RCheck_any X c (fewL lr) (by omega) W hL)
    have HCR : Hid (∀ X c W, Lies (fun _ => False) W X (bus (M RL)) → Calls Try.prog 14 #[.slice X (M RL).length c] W fun e w' => e = .returned (.bool (checkB (M RL))) ∧ Below W.heap.size W w') := Lib.hid (fun X c W hL => Check_any X c (M RL) (by omega) W hL)
    have HDR : Hid (∀ X c W, Lies (fun _ => False) W X (bus (M RL)) → Calls Try.prog 16 #[.slice X (M RL).length c] W fun e w' => e = .returned (.bool (checkB (M RL))) ∧ Below W.heap.size W w') := Lib.hid (fun X c W hL => RCheck_any X c (M RL) (by omega) W hL)
    generalize checkB (fewL lr) = cf at HCF HDF
    generalize checkB (M RL) = cr2 at HCR HDR
    have HMO := Lib.hid (fun W => Most_any q2 hq2 W)
    have HRM := Lib.hid (fun W => RMost_any q2 hq2 W)
    generalize mostI q2 = mo at HMO HRM
    have HB0 := Lib.hid hb0
    have hcut : ∀ W, (Instr.slice 22 (.slice A l.length cp) none (some (.int .i64 24)) none).run Try.prog W = .ok (.slice A 24 cp) W := run_pairs_to A l.length cp 24 (by omega) hcp
    have hgl2 : ((l.length : Int) > 24) := by omega
    clear hRL hgd hb0 hml hgl hfl
    go_enter Try.func3, Try.ntmps3
    go_wp2_with fail
    refine (awake_any _).mono ?_
    rintro e w1 ⟨rfl, hb1⟩
    have HB1 := Lib.hid (HB0.out.trans (hb1.mono HB0.out.size))
    have HT1 := Lib.hid (HBX.out.of (hb1.block _ HBX.out.lt))
    clear hb1
    go_wp2_with fail
    refine (HR.out w1 HB1.out).mono ?_
    rintro e w2 ⟨⟨A2, c2, rfl, hc2, hL2⟩, hb2⟩
    have HB2 := Lib.hid (HB1.out.trans (hb2.mono HB1.out.size))
    have HT2 := Lib.hid (HT1.out.of (hb2.block _ HT1.out.lt))
    have HL2 := Lib.hid hL2
    have x0 := (HT2.out.cell 0).trans rfl
    have x1 := (HT2.out.cell 1).trans rfl
    clear hb2 hL2
    go_wp2_with fail
    refine (key_any q0 w2).mono ?_
    rintro e w2' ⟨rfl, rfl⟩
    simp only [hkx, hsk]
    clear x0 x1
    have HTA := Lib.hid (fun W (hW : Below w2.heap.size w2 W) => HTT.out SK A2 c2 W hc2 (HL2.out.below hW))
    have HTB := Lib.hid (fun W (hW : Below w2.heap.size w2 W) => HTT.out ⟨#[]⟩ A2 c2 W hc2 (HL2.out.below hW))
    have HTC := Lib.hid (fun W (hW : Below w2.heap.size w2 W) => HTT.out (SK ++ (⟨#[120]⟩ : ByteArray)) A2 c2 W hc2 (HL2.out.below hW))
    have HFEW : Hid (∀ W, Below w2.heap.size w2 W → Calls Try.prog 15 #[.slice AR lr.length cr] W fun e w' => ∃ v, e = .returned v ∧ (Row (fun _ => False) (fewL lr) v w' ∧ Below W.heap.size W w')) := Lib.hid (fun W hW => by
      refine (few_any AR cr lr W (HLR.out.below (HB2.out.trans (hW.mono HB2.out.size)))).mono ?_
      rintro e w' ⟨⟨v, e, hr⟩, hb⟩
      exact ⟨v, e, hr, hb⟩)
    have HROWS : Hid (∀ W, Below w2.heap.size w2 W → Calls Try.prog 11 #[.slice A 24 cp] W fun e w' => ∃ v, e = .returned v ∧ (Row (fun _ => False) (M RL) v w' ∧ Below W.heap.size W w')) := Lib.hid (fun W hW => by
      refine (HR.out W (HB2.out.trans (hW.mono HB2.out.size))).mono ?_
      rintro e w' ⟨⟨A', c', e, hc, hL⟩, hb⟩
      exact ⟨_, e, ⟨A', c', by rw [M_length], by rw [M_length]; exact hc, hL⟩, hb⟩)
    obtain ⟨g5, hg5⟩ : ∃ g, w.heap.size = g := ⟨_, rfl⟩
    rw [hg5] at HT2
    simp only [hg5]
    go_upto_region 7 with fail
    refine wp_region_some (by kernel_rfl) (Vtb7 A cp A2 c2 RL AR cr lr SK now g5 q2 mo cf cr2) (fun _ _ W => Gc w2 W) (fun w w' => Below w.heap.size w w') (by kernel_rfl) (by kernel_rfl) 71 rfl (by kernel_rfl) (Vtb7.on _ _ _ _ _ _ _ _ _ _ _ _ _ _ _) (fun _ => (Below.refl _ _)) (Gc.start w2) ?_ ?_
    · intro i o ho listed x W hs hdep hun hg hk
      match i, ho with
      | 0, ho =>
        cases ho
        have q7 : x.tmps[7]?.getD undef = .bool true := hk.fix 7 (by kernel_rfl)
        refine .inl ⟨wanted_plain rfl, ?_⟩
        refine wp_value (v := .bool true) (w' := W) ?_ ⟨_, rfl, rfl, (Below.refl _ _), hg⟩
        go_simp
      | 1, ho =>
        cases ho
        have q25 : x.tmps[25]?.getD undef = .bool true := hk.dep 0 25 (by kernel_rfl) (by kernel_rfl)
        refine .inl ⟨wanted_plain rfl, ?_⟩
        refine wp_value (v := .bool true) (w' := W) ?_ ⟨_, rfl, rfl, (Below.refl _ _), hg⟩
        go_simp
      | 2, ho =>
        cases ho
        have q8 : x.tmps[8]?.getD undef = .slice A2 RL.length c2 := hk.fix 8 (by kernel_rfl)
        refine .inl ⟨wanted_guard (g := 1) (d := 26) (by rfl) (by kernel_rfl) (show x.tmps[26]?.getD undef = .bool true from hk.dep 1 26 (by kernel_rfl) (by kernel_rfl)), ?_⟩
        refine wp_value (v := .slice A2 RL.length c2) (w' := W) ?_ ⟨_, rfl, rfl, (Below.refl _ _), hg⟩
        go_simp
      | 3, ho =>
        cases ho
        have q10 : x.tmps[10]?.getD undef = .string SK := hk.fix 10 (by kernel_rfl)
        refine .inl ⟨wanted_guard (g := 1) (d := 26) (by rfl) (by kernel_rfl) (show x.tmps[26]?.getD undef = .bool true from hk.dep 1 26 (by kernel_rfl) (by kernel_rfl)), ?_⟩
        refine wp_value (v := .string SK) (w' := W) ?_ ⟨_, rfl, rfl, (Below.refl _ _), hg⟩
        go_simp
      | 4, ho =>
        cases ho
        have q9 : x.tmps[9]?.getD undef = .int .i64 (now : Int) := hk.fix 9 (by kernel_rfl)
        refine .inl ⟨wanted_guard (g := 1) (d := 26) (by rfl) (by kernel_rfl) (show x.tmps[26]?.getD undef = .bool true from hk.dep 1 26 (by kernel_rfl) (by kernel_rfl)), ?_⟩
        refine wp_value (v := .int .i64 (now : Int)) (w' := W) ?_ ⟨_, rfl, rfl, (Below.refl _ _), hg⟩
        go_simp
      | 5, ho =>
        cases ho
        have q27 : x.tmps[27]?.getD undef = .slice A2 RL.length c2 := hk.dep 2 27 (by kernel_rfl) (by kernel_rfl)
        have q28 : x.tmps[28]?.getD undef = .string SK := hk.dep 3 28 (by kernel_rfl) (by kernel_rfl)
        have q29 : x.tmps[29]?.getD undef = .int .i64 (now : Int) := hk.dep 4 29 (by kernel_rfl) (by kernel_rfl)
        refine .inl ⟨wanted_guard (g := 1) (d := 26) (by rfl) (by kernel_rfl) (show x.tmps[26]?.getD undef = .bool true from hk.dep 1 26 (by kernel_rfl) (by kernel_rfl)), ?_⟩
        refine wp_enter (f := 13) (args := #[.slice A2 RL.length c2, .string SK, .int .i64 (now : Int)]) (w' := W) (S := fun v w1 => v = .bool true ∧ Below W.heap.size W w1) ?_ ((HTA.out W hg.below).mono fun e w' h => ⟨_, h.1, rfl, h.2⟩) ?_
        · go_simp
        · rintro v W' ⟨rfl, hb⟩
          exact ⟨_, rfl, rfl, hb, hg.calls hb⟩
      | 6, ho =>
        cases ho
        have q26 : x.tmps[26]?.getD undef = .bool true := hk.dep 1 26 (by kernel_rfl) (by kernel_rfl)
        have q30 : x.tmps[30]?.getD undef = .bool true := hk.dep 5 30 (by kernel_rfl) (by kernel_rfl)
        refine .inl ⟨wanted_plain rfl, ?_⟩
        refine wp_value (v := .bool true) (w' := W) ?_ ⟨_, rfl, rfl, (Below.refl _ _), hg⟩
        go_simp
      | 7, ho =>
        cases ho
        have q31 : x.tmps[31]?.getD undef = .bool true := hk.dep 6 31 (by kernel_rfl) (by kernel_rfl)
        refine .inl ⟨wanted_plain rfl, ?_⟩
        refine wp_value (v := .bool true) (w' := W) ?_ ⟨_, rfl, rfl, (Below.refl _ _), hg⟩
        go_simp
      | 8, ho =>
        cases ho
        have q8 : x.tmps[8]?.getD undef = .slice A2 RL.length c2 := hk.fix 8 (by kernel_rfl)
        refine .inl ⟨wanted_guard (g := 7) (d := 32) (by rfl) (by kernel_rfl) (show x.tmps[32]?.getD undef = .bool true from hk.dep 7 32 (by kernel_rfl) (by kernel_rfl)), ?_⟩
        refine wp_value (v := .slice A2 RL.length c2) (w' := W) ?_ ⟨_, rfl, rfl, (Below.refl _ _), hg⟩
        go_simp
      | 9, ho =>
        cases ho
        have q9 : x.tmps[9]?.getD undef = .int .i64 (now : Int) := hk.fix 9 (by kernel_rfl)
        refine .inl ⟨wanted_guard (g := 7) (d := 32) (by rfl) (by kernel_rfl) (show x.tmps[32]?.getD undef = .bool true from hk.dep 7 32 (by kernel_rfl) (by kernel_rfl)), ?_⟩
        refine wp_value (v := .int .i64 (now : Int)) (w' := W) ?_ ⟨_, rfl, rfl, (Below.refl _ _), hg⟩
        go_simp
      | 10, ho =>
        cases ho
        have q33 : x.tmps[33]?.getD undef = .slice A2 RL.length c2 := hk.dep 8 33 (by kernel_rfl) (by kernel_rfl)
        have q34 : x.tmps[34]?.getD undef = .int .i64 (now : Int) := hk.dep 9 34 (by kernel_rfl) (by kernel_rfl)
        refine .inl ⟨wanted_guard (g := 7) (d := 32) (by rfl) (by kernel_rfl) (show x.tmps[32]?.getD undef = .bool true from hk.dep 7 32 (by kernel_rfl) (by kernel_rfl)), ?_⟩
        refine wp_enter (f := 13) (args := #[.slice A2 RL.length c2, .string ⟨#[]⟩, .int .i64 (now : Int)]) (w' := W) (S := fun v w1 => v = .bool true ∧ Below W.heap.size W w1) ?_ ((HTB.out W hg.below).mono fun e w' h => ⟨_, h.1, rfl, h.2⟩) ?_
        · go_simp
        · rintro v W' ⟨rfl, hb⟩
          exact ⟨_, rfl, rfl, hb, hg.calls hb⟩
      | 11, ho =>
        cases ho
        have q32 : x.tmps[32]?.getD undef = .bool true := hk.dep 7 32 (by kernel_rfl) (by kernel_rfl)
        have q35 : x.tmps[35]?.getD undef = .bool true := hk.dep 10 35 (by kernel_rfl) (by kernel_rfl)
        refine .inl ⟨wanted_plain rfl, ?_⟩
        refine wp_value (v := .bool true) (w' := W) ?_ ⟨_, rfl, rfl, (Below.refl _ _), hg⟩
        go_simp
      | 12, ho =>
        cases ho
        have q36 : x.tmps[36]?.getD undef = .bool true := hk.dep 11 36 (by kernel_rfl) (by kernel_rfl)
        refine .inl ⟨wanted_plain rfl, ?_⟩
        refine wp_value (v := .bool true) (w' := W) ?_ ⟨_, rfl, rfl, (Below.refl _ _), hg⟩
        go_simp
      | 13, ho =>
        cases ho
        have q8 : x.tmps[8]?.getD undef = .slice A2 RL.length c2 := hk.fix 8 (by kernel_rfl)
        refine .inl ⟨wanted_guard (g := 12) (d := 37) (by rfl) (by kernel_rfl) (show x.tmps[37]?.getD undef = .bool true from hk.dep 12 37 (by kernel_rfl) (by kernel_rfl)), ?_⟩
        refine wp_value (v := .slice A2 RL.length c2) (w' := W) ?_ ⟨_, rfl, rfl, (Below.refl _ _), hg⟩
        go_simp
      | 14, ho =>
        cases ho
        have q10 : x.tmps[10]?.getD undef = .string SK := hk.fix 10 (by kernel_rfl)
        refine .inl ⟨wanted_guard (g := 12) (d := 37) (by rfl) (by kernel_rfl) (show x.tmps[37]?.getD undef = .bool true from hk.dep 12 37 (by kernel_rfl) (by kernel_rfl)), ?_⟩
        refine wp_value (v := .string SK) (w' := W) ?_ ⟨_, rfl, rfl, (Below.refl _ _), hg⟩
        go_simp
      | 15, ho =>
        cases ho
        have q39 : x.tmps[39]?.getD undef = .string SK := hk.dep 14 39 (by kernel_rfl) (by kernel_rfl)
        refine .inl ⟨wanted_guard (g := 12) (d := 37) (by rfl) (by kernel_rfl) (show x.tmps[37]?.getD undef = .bool true from hk.dep 12 37 (by kernel_rfl) (by kernel_rfl)), ?_⟩
        refine wp_value (v := .string (SK ++ (⟨#[120]⟩ : ByteArray))) (w' := W) ?_ ⟨_, rfl, rfl, (Below.refl _ _), hg⟩
        go_simp
      | 16, ho =>
        cases ho
        have q9 : x.tmps[9]?.getD undef = .int .i64 (now : Int) := hk.fix 9 (by kernel_rfl)
        refine .inl ⟨wanted_guard (g := 12) (d := 37) (by rfl) (by kernel_rfl) (show x.tmps[37]?.getD undef = .bool true from hk.dep 12 37 (by kernel_rfl) (by kernel_rfl)), ?_⟩
        refine wp_value (v := .int .i64 (now : Int)) (w' := W) ?_ ⟨_, rfl, rfl, (Below.refl _ _), hg⟩
        go_simp
      | 17, ho =>
        cases ho
        have q38 : x.tmps[38]?.getD undef = .slice A2 RL.length c2 := hk.dep 13 38 (by kernel_rfl) (by kernel_rfl)
        have q40 : x.tmps[40]?.getD undef = .string (SK ++ (⟨#[120]⟩ : ByteArray)) := hk.dep 15 40 (by kernel_rfl) (by kernel_rfl)
        have q41 : x.tmps[41]?.getD undef = .int .i64 (now : Int) := hk.dep 16 41 (by kernel_rfl) (by kernel_rfl)
        refine .inl ⟨wanted_guard (g := 12) (d := 37) (by rfl) (by kernel_rfl) (show x.tmps[37]?.getD undef = .bool true from hk.dep 12 37 (by kernel_rfl) (by kernel_rfl)), ?_⟩
        refine wp_enter (f := 13) (args := #[.slice A2 RL.length c2, .string (SK ++ (⟨#[120]⟩ : ByteArray)), .int .i64 (now : Int)]) (w' := W) (S := fun v w1 => v = .bool true ∧ Below W.heap.size W w1) ?_ ((HTC.out W hg.below).mono fun e w' h => ⟨_, h.1, rfl, h.2⟩) ?_
        · go_simp
        · rintro v W' ⟨rfl, hb⟩
          exact ⟨_, rfl, rfl, hb, hg.calls hb⟩
      | 18, ho =>
        cases ho
        have q37 : x.tmps[37]?.getD undef = .bool true := hk.dep 12 37 (by kernel_rfl) (by kernel_rfl)
        have q42 : x.tmps[42]?.getD undef = .bool true := hk.dep 17 42 (by kernel_rfl) (by kernel_rfl)
        refine .inl ⟨wanted_plain rfl, ?_⟩
        refine wp_value (v := .bool true) (w' := W) ?_ ⟨_, rfl, rfl, (Below.refl _ _), hg⟩
        go_simp
      | 19, ho =>
        cases ho
        have q43 : x.tmps[43]?.getD undef = .bool true := hk.dep 18 43 (by kernel_rfl) (by kernel_rfl)
        refine .inl ⟨wanted_plain rfl, ?_⟩
        refine wp_value (v := .bool true) (w' := W) ?_ ⟨_, rfl, rfl, (Below.refl _ _), hg⟩
        go_simp
      | 20, ho =>
        cases ho
        have q1 : x.tmps[1]?.getD undef = .slice AR lr.length cr := hk.fix 1 (by kernel_rfl)
        refine .inl ⟨wanted_guard (g := 19) (d := 44) (by rfl) (by kernel_rfl) (show x.tmps[44]?.getD undef = .bool true from hk.dep 19 44 (by kernel_rfl) (by kernel_rfl)), ?_⟩
        refine wp_value (v := .slice AR lr.length cr) (w' := W) ?_ ⟨_, rfl, rfl, (Below.refl _ _), hg⟩
        go_simp
      | 21, ho =>
        cases ho
        have q45 : x.tmps[45]?.getD undef = .slice AR lr.length cr := hk.dep 20 45 (by kernel_rfl) (by kernel_rfl)
        refine .inl ⟨wanted_guard (g := 19) (d := 44) (by rfl) (by kernel_rfl) (show x.tmps[44]?.getD undef = .bool true from hk.dep 19 44 (by kernel_rfl) (by kernel_rfl)), ?_⟩
        refine wp_enter (f := 15) (args := #[.slice AR lr.length cr]) (w' := W) (S := fun v w1 => Row (fun _ => False) (fewL lr) v w1 ∧ Below W.heap.size W w1) ?_ ((HFEW.out W hg.below).mono fun e w' h => h) ?_
        · go_simp
        · rintro v W' ⟨hv, hb⟩
          exact ⟨_, rfl, hv, hb, hg.calls hb⟩
      | 22, ho =>
        cases ho
        refine .inl ⟨wanted_guard (g := 19) (d := 44) (by rfl) (by kernel_rfl) (show x.tmps[44]?.getD undef = .bool true from hk.dep 19 44 (by kernel_rfl) (by kernel_rfl)), ?_⟩
        have hrow : Row (fun _ => False) (fewL lr) (x.tmps[46]?.getD undef) W := hk.dep 21 46 (by kernel_rfl) (by kernel_rfl)
        obtain ⟨X, cx, qs, hcx, hLX⟩ := hrow
        refine wp_enter (f := 14) (args := #[.slice X (fewL lr).length cx]) (w' := W) (S := fun v w1 => v = .bool cf ∧ Below W.heap.size W w1) ?_ ((HCF.out X cx W hLX).mono fun e w' h => ⟨_, h.1, rfl, h.2⟩) ?_
        · go_simp
        · rintro v W' ⟨rfl, hb⟩
          exact ⟨_, rfl, rfl, hb, hg.calls hb⟩
      | 23, ho =>
        cases ho
        have q1 : x.tmps[1]?.getD undef = .slice AR lr.length cr := hk.fix 1 (by kernel_rfl)
        refine .inl ⟨wanted_guard (g := 19) (d := 44) (by rfl) (by kernel_rfl) (show x.tmps[44]?.getD undef = .bool true from hk.dep 19 44 (by kernel_rfl) (by kernel_rfl)), ?_⟩
        refine wp_value (v := .slice AR lr.length cr) (w' := W) ?_ ⟨_, rfl, rfl, (Below.refl _ _), hg⟩
        go_simp
      | 24, ho =>
        cases ho
        have q48 : x.tmps[48]?.getD undef = .slice AR lr.length cr := hk.dep 23 48 (by kernel_rfl) (by kernel_rfl)
        refine .inl ⟨wanted_guard (g := 19) (d := 44) (by rfl) (by kernel_rfl) (show x.tmps[44]?.getD undef = .bool true from hk.dep 19 44 (by kernel_rfl) (by kernel_rfl)), ?_⟩
        refine wp_enter (f := 15) (args := #[.slice AR lr.length cr]) (w' := W) (S := fun v w1 => Row (fun _ => False) (fewL lr) v w1 ∧ Below W.heap.size W w1) ?_ ((HFEW.out W hg.below).mono fun e w' h => h) ?_
        · go_simp
        · rintro v W' ⟨hv, hb⟩
          exact ⟨_, rfl, hv, hb, hg.calls hb⟩
      | 25, ho =>
        cases ho
        refine .inl ⟨wanted_guard (g := 19) (d := 44) (by rfl) (by kernel_rfl) (show x.tmps[44]?.getD undef = .bool true from hk.dep 19 44 (by kernel_rfl) (by kernel_rfl)), ?_⟩
        have hrow : Row (fun _ => False) (fewL lr) (x.tmps[49]?.getD undef) W := hk.dep 24 49 (by kernel_rfl) (by kernel_rfl)
        obtain ⟨X, cx, qs, hcx, hLX⟩ := hrow
        refine wp_enter (f := 16) (args := #[.slice X (fewL lr).length cx]) (w' := W) (S := fun v w1 => v = .bool cf ∧ Below W.heap.size W w1) ?_ ((HDF.out X cx W hLX).mono fun e w' h => ⟨_, h.1, rfl, h.2⟩) ?_
        · go_simp
        · rintro v W' ⟨rfl, hb⟩
          exact ⟨_, rfl, rfl, hb, hg.calls hb⟩
      | 26, ho =>
        cases ho
        have q47 : x.tmps[47]?.getD undef = .bool cf := hk.dep 22 47 (by kernel_rfl) (by kernel_rfl)
        have q50 : x.tmps[50]?.getD undef = .bool cf := hk.dep 25 50 (by kernel_rfl) (by kernel_rfl)
        refine .inl ⟨wanted_guard (g := 19) (d := 44) (by rfl) (by kernel_rfl) (show x.tmps[44]?.getD undef = .bool true from hk.dep 19 44 (by kernel_rfl) (by kernel_rfl)), ?_⟩
        refine wp_value (v := .bool true) (w' := W) ?_ ⟨_, rfl, rfl, (Below.refl _ _), hg⟩
        go_simp
      | 27, ho =>
        cases ho
        have q44 : x.tmps[44]?.getD undef = .bool true := hk.dep 19 44 (by kernel_rfl) (by kernel_rfl)
        have q51 : x.tmps[51]?.getD undef = .bool true := hk.dep 26 51 (by kernel_rfl) (by kernel_rfl)
        refine .inl ⟨wanted_plain rfl, ?_⟩
        refine wp_value (v := .bool true) (w' := W) ?_ ⟨_, rfl, rfl, (Below.refl _ _), hg⟩
        go_simp
      | 28, ho =>
        cases ho
        have q52 : x.tmps[52]?.getD undef = .bool true := hk.dep 27 52 (by kernel_rfl) (by kernel_rfl)
        refine .inl ⟨wanted_plain rfl, ?_⟩
        refine wp_value (v := .bool true) (w' := W) ?_ ⟨_, rfl, rfl, (Below.refl _ _), hg⟩
        go_simp
      | 29, ho =>
        cases ho
        have q0 : x.tmps[0]?.getD undef = .slice A 24 cp := hk.fix 0 (by kernel_rfl)
        refine .inl ⟨wanted_guard (g := 28) (d := 53) (by rfl) (by kernel_rfl) (show x.tmps[53]?.getD undef = .bool true from hk.dep 28 53 (by kernel_rfl) (by kernel_rfl)), ?_⟩
        refine wp_value (v := .slice A 24 cp) (w' := W) ?_ ⟨_, rfl, rfl, (Below.refl _ _), hg⟩
        go_simp
      | 30, ho =>
        cases ho
        have q54 : x.tmps[54]?.getD undef = .slice A 24 cp := hk.dep 29 54 (by kernel_rfl) (by kernel_rfl)
        refine .inl ⟨wanted_guard (g := 28) (d := 53) (by rfl) (by kernel_rfl) (show x.tmps[53]?.getD undef = .bool true from hk.dep 28 53 (by kernel_rfl) (by kernel_rfl)), ?_⟩
        refine wp_enter (f := 11) (args := #[.slice A 24 cp]) (w' := W) (S := fun v w1 => Row (fun _ => False) (M RL) v w1 ∧ Below W.heap.size W w1) ?_ ((HROWS.out W hg.below).mono fun e w' h => h) ?_
        · go_simp
        · rintro v W' ⟨hv, hb⟩
          exact ⟨_, rfl, hv, hb, hg.calls hb⟩
      | 31, ho =>
        cases ho
        refine .inl ⟨wanted_guard (g := 28) (d := 53) (by rfl) (by kernel_rfl) (show x.tmps[53]?.getD undef = .bool true from hk.dep 28 53 (by kernel_rfl) (by kernel_rfl)), ?_⟩
        have hrow : Row (fun _ => False) (M RL) (x.tmps[55]?.getD undef) W := hk.dep 30 55 (by kernel_rfl) (by kernel_rfl)
        obtain ⟨X, cx, qs, hcx, hLX⟩ := hrow
        refine wp_enter (f := 14) (args := #[.slice X (M RL).length cx]) (w' := W) (S := fun v w1 => v = .bool cr2 ∧ Below W.heap.size W w1) ?_ ((HCR.out X cx W hLX).mono fun e w' h => ⟨_, h.1, rfl, h.2⟩) ?_
        · go_simp
        · rintro v W' ⟨rfl, hb⟩
          exact ⟨_, rfl, rfl, hb, hg.calls hb⟩
      | 32, ho =>
        cases ho
        have q0 : x.tmps[0]?.getD undef = .slice A 24 cp := hk.fix 0 (by kernel_rfl)
        refine .inl ⟨wanted_guard (g := 28) (d := 53) (by rfl) (by kernel_rfl) (show x.tmps[53]?.getD undef = .bool true from hk.dep 28 53 (by kernel_rfl) (by kernel_rfl)), ?_⟩
        refine wp_value (v := .slice A 24 cp) (w' := W) ?_ ⟨_, rfl, rfl, (Below.refl _ _), hg⟩
        go_simp
      | 33, ho =>
        cases ho
        have q57 : x.tmps[57]?.getD undef = .slice A 24 cp := hk.dep 32 57 (by kernel_rfl) (by kernel_rfl)
        refine .inl ⟨wanted_guard (g := 28) (d := 53) (by rfl) (by kernel_rfl) (show x.tmps[53]?.getD undef = .bool true from hk.dep 28 53 (by kernel_rfl) (by kernel_rfl)), ?_⟩
        refine wp_enter (f := 11) (args := #[.slice A 24 cp]) (w' := W) (S := fun v w1 => Row (fun _ => False) (M RL) v w1 ∧ Below W.heap.size W w1) ?_ ((HROWS.out W hg.below).mono fun e w' h => h) ?_
        · go_simp
        · rintro v W' ⟨hv, hb⟩
          exact ⟨_, rfl, hv, hb, hg.calls hb⟩
      | 34, ho =>
        cases ho
        refine .inl ⟨wanted_guard (g := 28) (d := 53) (by rfl) (by kernel_rfl) (show x.tmps[53]?.getD undef = .bool true from hk.dep 28 53 (by kernel_rfl) (by kernel_rfl)), ?_⟩
        have hrow : Row (fun _ => False) (M RL) (x.tmps[58]?.getD undef) W := hk.dep 33 58 (by kernel_rfl) (by kernel_rfl)
        obtain ⟨X, cx, qs, hcx, hLX⟩ := hrow
        refine wp_enter (f := 16) (args := #[.slice X (M RL).length cx]) (w' := W) (S := fun v w1 => v = .bool cr2 ∧ Below W.heap.size W w1) ?_ ((HDR.out X cx W hLX).mono fun e w' h => ⟨_, h.1, rfl, h.2⟩) ?_
        · go_simp
        · rintro v W' ⟨rfl, hb⟩
          exact ⟨_, rfl, rfl, hb, hg.calls hb⟩
      | 35, ho =>
        cases ho
        have q56 : x.tmps[56]?.getD undef = .bool cr2 := hk.dep 31 56 (by kernel_rfl) (by kernel_rfl)
        have q59 : x.tmps[59]?.getD undef = .bool cr2 := hk.dep 34 59 (by kernel_rfl) (by kernel_rfl)
        refine .inl ⟨wanted_guard (g := 28) (d := 53) (by rfl) (by kernel_rfl) (show x.tmps[53]?.getD undef = .bool true from hk.dep 28 53 (by kernel_rfl) (by kernel_rfl)), ?_⟩
        refine wp_value (v := .bool true) (w' := W) ?_ ⟨_, rfl, rfl, (Below.refl _ _), hg⟩
        go_simp
      | 36, ho =>
        cases ho
        have q53 : x.tmps[53]?.getD undef = .bool true := hk.dep 28 53 (by kernel_rfl) (by kernel_rfl)
        have q60 : x.tmps[60]?.getD undef = .bool true := hk.dep 35 60 (by kernel_rfl) (by kernel_rfl)
        refine .inl ⟨wanted_plain rfl, ?_⟩
        refine wp_value (v := .bool true) (w' := W) ?_ ⟨_, rfl, rfl, (Below.refl _ _), hg⟩
        go_simp
      | 37, ho =>
        cases ho
        have q61 : x.tmps[61]?.getD undef = .bool true := hk.dep 36 61 (by kernel_rfl) (by kernel_rfl)
        refine .inl ⟨wanted_plain rfl, ?_⟩
        refine wp_value (v := .bool true) (w' := W) ?_ ⟨_, rfl, rfl, (Below.refl _ _), hg⟩
        go_simp
      | 38, ho =>
        cases ho
        have q5 : x.tmps[5]?.getD undef = .pointer (some ⟨g5, 0, none⟩) := hk.fix 5 (by kernel_rfl)
        refine .inl ⟨wanted_guard (g := 37) (d := 62) (by rfl) (by kernel_rfl) (show x.tmps[62]?.getD undef = .bool true from hk.dep 37 62 (by kernel_rfl) (by kernel_rfl)), ?_⟩
        refine wp_value (v := .pointer (some ⟨g5, 2, none⟩)) (w' := W) ?_ ⟨_, rfl, rfl, (Below.refl _ _), hg⟩
        go_simp
      | 39, ho =>
        cases ho
        have q63 : x.tmps[63]?.getD undef = .pointer (some ⟨g5, 2, none⟩) := hk.dep 38 63 (by kernel_rfl) (by kernel_rfl)
        refine .inl ⟨wanted_guard (g := 37) (d := 62) (by rfl) (by kernel_rfl) (show x.tmps[62]?.getD undef = .bool true from hk.dep 37 62 (by kernel_rfl) (by kernel_rfl)), ?_⟩
        have cf : W.cell? ⟨g5, 2, none⟩ = some (.int .i64 q2) := ((HT2.out.of (hg.below.block _ HT2.out.lt)).cell 2).trans rfl
        refine wp_value (v := .int .i64 q2) (w' := W) ?_ ⟨_, rfl, rfl, (Below.refl _ _), hg⟩
        go_simp
      | 40, ho =>
        cases ho
        have q64 : x.tmps[64]?.getD undef = .int .i64 q2 := hk.dep 39 64 (by kernel_rfl) (by kernel_rfl)
        refine .inl ⟨wanted_guard (g := 37) (d := 62) (by rfl) (by kernel_rfl) (show x.tmps[62]?.getD undef = .bool true from hk.dep 37 62 (by kernel_rfl) (by kernel_rfl)), ?_⟩
        refine wp_enter (f := 17) (args := #[.int .i64 q2]) (w' := W) (S := fun v w1 => v = .int .i64 mo ∧ Below W.heap.size W w1) ?_ ((HMO.out W).mono fun e w' h => ⟨_, h.1, rfl, by rw [h.2]; exact Below.refl _ _⟩) ?_
        · go_simp
        · rintro v W' ⟨rfl, hb⟩
          exact ⟨_, rfl, rfl, hb, hg.calls hb⟩
      | 41, ho =>
        cases ho
        have q5 : x.tmps[5]?.getD undef = .pointer (some ⟨g5, 0, none⟩) := hk.fix 5 (by kernel_rfl)
        refine .inl ⟨wanted_guard (g := 37) (d := 62) (by rfl) (by kernel_rfl) (show x.tmps[62]?.getD undef = .bool true from hk.dep 37 62 (by kernel_rfl) (by kernel_rfl)), ?_⟩
        refine wp_value (v := .pointer (some ⟨g5, 2, none⟩)) (w' := W) ?_ ⟨_, rfl, rfl, (Below.refl _ _), hg⟩
        go_simp
      | 42, ho =>
        cases ho
        have q66 : x.tmps[66]?.getD undef = .pointer (some ⟨g5, 2, none⟩) := hk.dep 41 66 (by kernel_rfl) (by kernel_rfl)
        refine .inl ⟨wanted_guard (g := 37) (d := 62) (by rfl) (by kernel_rfl) (show x.tmps[62]?.getD undef = .bool true from hk.dep 37 62 (by kernel_rfl) (by kernel_rfl)), ?_⟩
        have cf : W.cell? ⟨g5, 2, none⟩ = some (.int .i64 q2) := ((HT2.out.of (hg.below.block _ HT2.out.lt)).cell 2).trans rfl
        refine wp_value (v := .int .i64 q2) (w' := W) ?_ ⟨_, rfl, rfl, (Below.refl _ _), hg⟩
        go_simp
      | 43, ho =>
        cases ho
        have q67 : x.tmps[67]?.getD undef = .int .i64 q2 := hk.dep 42 67 (by kernel_rfl) (by kernel_rfl)
        refine .inl ⟨wanted_guard (g := 37) (d := 62) (by rfl) (by kernel_rfl) (show x.tmps[62]?.getD undef = .bool true from hk.dep 37 62 (by kernel_rfl) (by kernel_rfl)), ?_⟩
        refine wp_enter (f := 18) (args := #[.int .i64 q2]) (w' := W) (S := fun v w1 => v = .int .i64 mo ∧ Below W.heap.size W w1) ?_ ((HRM.out W).mono fun e w' h => ⟨_, h.1, rfl, by rw [h.2]; exact Below.refl _ _⟩) ?_
        · go_simp
        · rintro v W' ⟨rfl, hb⟩
          exact ⟨_, rfl, rfl, hb, hg.calls hb⟩
      | 44, ho =>
        cases ho
        have q65 : x.tmps[65]?.getD undef = .int .i64 mo := hk.dep 40 65 (by kernel_rfl) (by kernel_rfl)
        have q68 : x.tmps[68]?.getD undef = .int .i64 mo := hk.dep 43 68 (by kernel_rfl) (by kernel_rfl)
        refine .inl ⟨wanted_guard (g := 37) (d := 62) (by rfl) (by kernel_rfl) (show x.tmps[62]?.getD undef = .bool true from hk.dep 37 62 (by kernel_rfl) (by kernel_rfl)), ?_⟩
        refine wp_value (v := .bool true) (w' := W) ?_ ⟨_, rfl, rfl, (Below.refl _ _), hg⟩
        go_simp
      | 45, ho =>
        cases ho
        have q62 : x.tmps[62]?.getD undef = .bool true := hk.dep 37 62 (by kernel_rfl) (by kernel_rfl)
        have q69 : x.tmps[69]?.getD undef = .bool true := hk.dep 44 69 (by kernel_rfl) (by kernel_rfl)
        refine .inl ⟨wanted_plain rfl, ?_⟩
        refine wp_value (v := .bool true) (w' := W) ?_ ⟨_, rfl, rfl, (Below.refl _ _), hg⟩
        go_simp
      | 46, ho =>
        cases ho
        have q70 : x.tmps[70]?.getD undef = .bool true := hk.dep 45 70 (by kernel_rfl) (by kernel_rfl)
        refine .inl ⟨wanted_plain rfl, ?_⟩
        refine wp_value (v := .bool true) (w' := W) ?_ ⟨_, rfl, rfl, (Below.refl _ _), hg⟩
        go_simp
      | _ + 47, ho => cases ho
    intro listed x w3 hall hg hk
    have e25 : x.tmps[25]?.getD undef = .bool true := hk.last 0 25 (by decide) (by kernel_rfl)
    have e26 : x.tmps[26]?.getD undef = .bool true := hk.last 1 26 (by decide) (by kernel_rfl)
    have e27 : x.tmps[27]?.getD undef = .slice A2 RL.length c2 := hk.last 2 27 (by decide) (by kernel_rfl)
    have e28 : x.tmps[28]?.getD undef = .string SK := hk.last 3 28 (by decide) (by kernel_rfl)
    have e29 : x.tmps[29]?.getD undef = .int .i64 (now : Int) := hk.last 4 29 (by decide) (by kernel_rfl)
    have e30 : x.tmps[30]?.getD undef = .bool true := hk.last 5 30 (by decide) (by kernel_rfl)
    have e31 : x.tmps[31]?.getD undef = .bool true := hk.last 6 31 (by decide) (by kernel_rfl)
    have e32 : x.tmps[32]?.getD undef = .bool true := hk.last 7 32 (by decide) (by kernel_rfl)
    have e33 : x.tmps[33]?.getD undef = .slice A2 RL.length c2 := hk.last 8 33 (by decide) (by kernel_rfl)
    have e34 : x.tmps[34]?.getD undef = .int .i64 (now : Int) := hk.last 9 34 (by decide) (by kernel_rfl)
    have e35 : x.tmps[35]?.getD undef = .bool true := hk.last 10 35 (by decide) (by kernel_rfl)
    have e36 : x.tmps[36]?.getD undef = .bool true := hk.last 11 36 (by decide) (by kernel_rfl)
    have e37 : x.tmps[37]?.getD undef = .bool true := hk.last 12 37 (by decide) (by kernel_rfl)
    have e38 : x.tmps[38]?.getD undef = .slice A2 RL.length c2 := hk.last 13 38 (by decide) (by kernel_rfl)
    have e39 : x.tmps[39]?.getD undef = .string SK := hk.last 14 39 (by decide) (by kernel_rfl)
    have e40 : x.tmps[40]?.getD undef = .string (SK ++ (⟨#[120]⟩ : ByteArray)) := hk.last 15 40 (by decide) (by kernel_rfl)
    have e41 : x.tmps[41]?.getD undef = .int .i64 (now : Int) := hk.last 16 41 (by decide) (by kernel_rfl)
    have e42 : x.tmps[42]?.getD undef = .bool true := hk.last 17 42 (by decide) (by kernel_rfl)
    have e43 : x.tmps[43]?.getD undef = .bool true := hk.last 18 43 (by decide) (by kernel_rfl)
    have e44 : x.tmps[44]?.getD undef = .bool true := hk.last 19 44 (by decide) (by kernel_rfl)
    have e45 : x.tmps[45]?.getD undef = .slice AR lr.length cr := hk.last 20 45 (by decide) (by kernel_rfl)
    have e47 : x.tmps[47]?.getD undef = .bool cf := hk.last 22 47 (by decide) (by kernel_rfl)
    have e48 : x.tmps[48]?.getD undef = .slice AR lr.length cr := hk.last 23 48 (by decide) (by kernel_rfl)
    have e50 : x.tmps[50]?.getD undef = .bool cf := hk.last 25 50 (by decide) (by kernel_rfl)
    have e51 : x.tmps[51]?.getD undef = .bool true := hk.last 26 51 (by decide) (by kernel_rfl)
    have e52 : x.tmps[52]?.getD undef = .bool true := hk.last 27 52 (by decide) (by kernel_rfl)
    have e53 : x.tmps[53]?.getD undef = .bool true := hk.last 28 53 (by decide) (by kernel_rfl)
    have e54 : x.tmps[54]?.getD undef = .slice A 24 cp := hk.last 29 54 (by decide) (by kernel_rfl)
    have e56 : x.tmps[56]?.getD undef = .bool cr2 := hk.last 31 56 (by decide) (by kernel_rfl)
    have e57 : x.tmps[57]?.getD undef = .slice A 24 cp := hk.last 32 57 (by decide) (by kernel_rfl)
    have e59 : x.tmps[59]?.getD undef = .bool cr2 := hk.last 34 59 (by decide) (by kernel_rfl)
    have e60 : x.tmps[60]?.getD undef = .bool true := hk.last 35 60 (by decide) (by kernel_rfl)
    have e61 : x.tmps[61]?.getD undef = .bool true := hk.last 36 61 (by decide) (by kernel_rfl)
    have e62 : x.tmps[62]?.getD undef = .bool true := hk.last 37 62 (by decide) (by kernel_rfl)
    have e63 : x.tmps[63]?.getD undef = .pointer (some ⟨g5, 2, none⟩) := hk.last 38 63 (by decide) (by kernel_rfl)
    have e64 : x.tmps[64]?.getD undef = .int .i64 q2 := hk.last 39 64 (by decide) (by kernel_rfl)
    have e65 : x.tmps[65]?.getD undef = .int .i64 mo := hk.last 40 65 (by decide) (by kernel_rfl)
    have e66 : x.tmps[66]?.getD undef = .pointer (some ⟨g5, 2, none⟩) := hk.last 41 66 (by decide) (by kernel_rfl)
    have e67 : x.tmps[67]?.getD undef = .int .i64 q2 := hk.last 42 67 (by decide) (by kernel_rfl)
    have e68 : x.tmps[68]?.getD undef = .int .i64 mo := hk.last 43 68 (by decide) (by kernel_rfl)
    have e69 : x.tmps[69]?.getD undef = .bool true := hk.last 44 69 (by decide) (by kernel_rfl)
    have e70 : x.tmps[70]?.getD undef = .bool true := hk.last 45 70 (by decide) (by kernel_rfl)
    have e6 : x.tmps[6]?.getD undef = .bool true := hk.last 46 6 (by decide) (by kernel_rfl)
    obtain ⟨z49, hz49⟩ : ∃ z, x.tmps[49]?.getD undef = z := ⟨_, rfl⟩
    obtain ⟨z58, hz58⟩ : ∃ z, x.tmps[58]?.getD undef = z := ⟨_, rfl⟩
    obtain ⟨z46, hz46⟩ : ∃ z, x.tmps[46]?.getD undef = z := ⟨_, rfl⟩
    obtain ⟨z55, hz55⟩ : ∃ z, x.tmps[55]?.getD undef = z := ⟨_, rfl⟩
    have hB := Lib.hid hg.below
    have hx := hk.act [25, 26, 27, 28, 29, 30, 31, 32, 33, 34, 35, 36, 37, 38, 39, 40, 41, 42, 43, 44, 45, 46, 47, 48, 49, 50, 51, 52, 53, 54, 55, 56, 57, 58, 59, 60, 61, 62, 63, 64, 65, 66, 67, 68, 69, 70, 6] (by kernel_rfl)
    clear hk hg hall
    simp only [List.foldl_cons, List.foldl_nil, e25, e26, e27, e28, e29, e30, e31, e32, e33, e34, e35, e36, e37, e38, e39, e40, e41, e42, e43, e44, e45, e47, e48, e50, e51, e52, e53, e54, e56, e57, e59, e60, e61, e62, e63, e64, e65, e66, e67, e68, e69, e70, e6, hz49, hz58, hz46, hz55] at hx
    clear e25 e26 e27 e28 e29 e30 e31 e32 e33 e34 e35 e36 e37 e38 e39 e40 e41 e42 e43 e44 e45 e47 e48 e50 e51 e52 e53 e54 e56 e57 e59 e60 e61 e62 e63 e64 e65 e66 e67 e68 e69 e70 e6 hz49 hz58 hz46 hz55
    subst hx
    simp only [Act.put, List.setIfInBounds_toArray, List.set_cons_succ, List.set_cons_zero]
    have HB3 := Lib.hid (HB2.out.trans (hB.out.mono HB2.out.size))
    clear hB
    go_wp2_with fail
    go_ret
    rw [← hg5]
    exact ⟨rfl, HB3.out⟩

/-! ### The row -/
theorem contract (H : Type) (enc : TypeId × Value → H) (W : World) (base : Nat) (args : Array Value) (ds gs : List (DataW H)) (before : List MemPlace)
    (hval : ∀ (j : Nat) t v, Try.f3.params[j]? = some t → args[j]? = some v → Value.okWide Try.prog W .any base t v)
    (hW : DataW.Whole enc Try.prog Try.f3.params.toList Rows.bucketTellsSpec.vars false W args.toList ds gs before) :
    Calls Try.prog 3 args W fun e W' => ∃ v, e = .returned v ∧ Rows.bucketTellsSpec.post enc Try.prog Try.f3 false true false false W args v W' := by
  have hW' := hW
  obtain ⟨p, q, hA0, hV, rfl, hfz, hnd⟩ := hW
  have hA : DataW.TrodAll enc Try.prog W 0 (fun _ => true) true Try.f3.params.toList args.toList ds p := hA0
  rw [Try.params3] at hA hval
  obtain ⟨v0, vs0, d0, ds0, p0, q0, hargs, rfl, rfl, h0, r0⟩ := trodAll_cons hA
  obtain ⟨v1, vs1, d1, ds1, p1, q1, rfl, rfl, rfl, h1, r1⟩ := trodAll_cons r0
  obtain ⟨v2, vs2, d2, ds2, p2, q2, rfl, rfl, rfl, h2, r2⟩ := trodAll_cons r1
  obtain ⟨rfl, rfl, rfl⟩ := trodAll_nil r2
  obtain rfl : args = #[v0, v1, v2] := by cases args; simp_all
  obtain ⟨rfl, rfl⟩ := trodVars_none hV
  refine law_contract (tb := 4) laidOut (by kernel_rfl) rfl (by kernel_rfl) Try.underlying4 rfl hW' ?_
  clear hA0 hW' hA
  obtain ⟨A0, k0, l0, rfl, b0, g0⟩ := open_pairs (hval 0 22 v0 rfl rfl) h0
  have hcap0 := open_cap Try.underlying22 h0
  obtain ⟨A1, k1, l1, rfl, b1, g1⟩ := open_bus (hval 1 23 v1 rfl rfl) h1
  obtain ⟨zs2, rfl, hz2, wz2⟩ := open_array Try.underlying24 Try.underlying3 cells_i (by kernel_rfl) (hval 2 24 v2 rfl rfl) h2
  obtain ⟨z2_0, z2_1, z2_2, rfl⟩ : ∃ z2_0 z2_1 z2_2, zs2 = [z2_0, z2_1, z2_2] := by
    match zs2, hz2 with
    | [a0, a1, a2], _ => exact ⟨a0, a1, a2, rfl⟩
  exact walk A0 k0 l0 hcap0 A1 k1 l1 z2_0 z2_1 z2_2 (bounds_int (wz2 z2_2 (by simp))) W g0 g1

set_option maxRecDepth 100000 in
theorem lifted (os : Os) (started : os.Started) (H : Type) (enc : TypeId × Value → H) :
    ReturnsInHanded {} Try.checked os 3 .any (Rows.bucketTellsSpec.pre6 enc Try.prog Try.f3 Rows.bucketTellsRow.domain false) (Rows.bucketTellsSpec.post enc Try.prog Try.f3 false true false false) := by
  refine returnsInHanded_of_change (C := Try.checked) own started (by kernel_rfl) Try.func3
    (ChangeSpec.witness6 (enc := enc) (C := Try.checked) false ⟨#[], #[.slice none 0 0, .slice none 0 0, .agg #[.int .i64 0, .int .i64 0, .int .i64 0]], []⟩ 8 (by kernel_rfl) (by kernel_rfl) (by kernel_rfl) (by kernel_rfl)) ?_
  intro W base args ds gs before hval hW _ _
  exact contract H enc W base args ds gs before hval hW

/-- THE STATEMENT. -/
theorem said : Rows.BucketTellsSaid :=
  OpenClaim.holds_of_wide 3 Try.f3 rfl rfl rfl rfl rfl rfl rfl ⟨rfl, rfl, rfl, rfl, rfl⟩ rfl rfl rfl rfl rfl (by kernel_rfl) Try.func3 (by kernel_rfl)
    (of_decide_eq_true (by kernel_rfl)) (by unfold Func.isWrapper; first | (rw [if_pos (by decide +kernel)]; kernel_rfl) | (rw [if_neg (by decide +kernel)]; exact ⟨rfl, rfl⟩))
    (fun os started H enc _ => lifted os started H enc)
#print axioms said
end Go.Proofs.Ytbldonkfboahmaa.bucketTells
