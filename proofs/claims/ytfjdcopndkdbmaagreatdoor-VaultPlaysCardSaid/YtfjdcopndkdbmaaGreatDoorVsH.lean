/-
  Contract of vault.Put. Condition: rows of at most 1000000 secrets, a channel of 50000 bytes at most.
-/
import Derived.Test.YtfjdcopndkdbmaaGreatDoorVsd
import Derived.Test.YtfjdcopndkdbmaaGreatDoorVrE
import Derived.Test.YtfjdcopndkdbmaaGreatDoorMinD
namespace Go.Proofs.YtfjdcopndkdbmaaGreatDoor
open Go.RowKit

theorem enter_rep : ∀ (args : Array Value) (W : World), (callFunc 64 args).run Tryz.prog W = .ok (.enter 64 args) W := fun args W => by go_simp
theorem lies_one (W : World) (g : Nat) (s : Va.Sec) (h : Blk W g 26 #[.string s.digest, .int .i64 s.account, .int .i64 s.purpose, .string s.channel, .int .i64 s.expires, .int .i64 s.tries]) : Lies (fun _ => False) W (some ⟨g, 0, none⟩) (secs [s]) := lies_blk h
/-- What each operation of the drawn statement leaves. -/
def Vq3 (A : Option Addr) (n : Nat) (ii : Nat) (cp : Nat) (s : Va.Sec) (Bn : Nat) (R : List Va.Sec) : Nat → Value → World → Prop
  | 0, v, _ => v = .slice A n cp
  | 1, v, _ => v = .int .i64 (ii : Int)
  | 2, v, W => ∃ g h, v = .func (.func 64) #[] #[.pointer (some ⟨g, 0, none⟩), .pointer (some ⟨h, 0, none⟩)] ∧ Blk W g 22 #[.slice A n cp] ∧ Blk W h 3 #[.int .i64 (ii : Int)]
  | 3, v, _ => v = .agg #[.string s.digest, .int .i64 s.account, .int .i64 s.purpose, .string s.channel, .int .i64 s.expires, .int .i64 s.tries]
  | 4, v, W => ∃ g, v = .slice (some ⟨g, 0, none⟩) 1 1 ∧ Blk W g 26 #[.string s.digest, .int .i64 s.account, .int .i64 s.purpose, .string s.channel, .int .i64 s.expires, .int .i64 s.tries]
  | 5, v, W => Row (fun u => u < Bn) R v W 
  | 6, v, W => Row (fun u => u < Bn) R v W 
  | 7, v, _ => v = .int .i64 0
  | _, _, _ => True
theorem Vq3.on (A : Option Addr) (n : Nat) (ii : Nat) (cp : Nat) (s : Va.Sec) (Bn : Nat) (R : List Va.Sec) : ∀ (i : Nat) (v : Value) (w w' : World), Vq3 A n ii cp s Bn R i v w → Below w.heap.size w w' → Vq3 A n ii cp s Bn R i v w' := by
  intro i v w w' hv hb
  revert hv
  unfold Vq3
  split <;> first
    | exact fun h => h
    | exact fun ⟨g, h1, h2⟩ => ⟨g, h1, h2.of (hb.block g h2.lt)⟩
    | exact fun h => Row.below h hb
    | exact fun ⟨g, h, h1, h2, h3⟩ => ⟨g, h, h1, h2.of (hb.block g h2.lt), h3.of (hb.block h h3.lt)⟩
set_option maxRecDepth 100000 in
set_option maxHeartbeats 8000000 in
theorem put_any {S : Nat → Prop} (A : Option Addr) (cp : Nat) (l : List Va.Sec) (hl : l.length ≤ 900000) (hcp : l.length ≤ cp) (s : Va.Sec) (hch : s.channel.size ≤ 50000) (w : World) (hM : MaxIs w) (hA : Lies S w A (secs l)) :
    Calls Tryz.prog 13 #[.slice A l.length cp, .agg #[.string s.digest, .int .i64 s.account, .int .i64 s.purpose, .string s.channel, .int .i64 s.expires, .int .i64 s.tries]] w fun e w' => (∃ v, e = .returned (.tuple #[v, .int .i64 ((Va.put (rightS s) l s).2 : Nat)]) ∧ Row (fun b => b < w.heap.size) (Va.put (rightS s) l s).1 v w') ∧ Below w.heap.size w w' := by
  have hb0 : Below w.heap.size w (w.alloc (.cells (secC s).toArray 26)) := (Below.refl _ w).alloc (Nat.le_refl _) _
  have hx0 := Blk.new w 26 (secC s).toArray
  have HR := Lib.hid (right_any s.digest s.account s.purpose s.channel s.expires s.tries hch (w.alloc (.cells (secC s).toArray 26)) (hM.below hb0))
  rw [sec_row] at HR hb0 hx0
  change Hid (Calls _ _ #[.agg #[.string s.digest, .int .i64 s.account, .int .i64 s.purpose, .string s.channel, .int .i64 s.expires, .int .i64 s.tries]] _ fun e w' => e = .returned (.bool (rightS s)) ∧ _) at HR
  have HB0 := Lib.hid hb0
  have HX0 := Lib.hid hx0
  have HK := Lib.hid (fun W => key_any s W)
  have HCL := Lib.hid (fun W h => clone_any A cp l (by omega) hcp W (hA.below (w' := W) h))
  generalize rightS s = R at HR ⊢
  cases R with
  | false =>
    rw [Va.put_bad]
    clear hA hx0 hb0
    go_enter Tryz.func13, Tryz.ntmps13
    go_wp2_with fail
    refine HR.out.mono ?_
    rintro e w1 ⟨rfl, hb1⟩
    have HX1 := Lib.hid (HX0.out.of (hb1.block _ HX0.out.lt))
    have HB1 := Lib.hid (HB0.out.trans (hb1.mono HB0.out.size))
    clear hb1
    have hc := HCL.out w1 HB1.out
    clear HCL
    have HC := Lib.hid hc
    clear hc
    go_wp2_with fail
    refine HC.out.mono ?_
    rintro e w2 ⟨⟨A', c', rfl, ho⟩, hb⟩
    have HV := Lib.hid (lies_made (S := fun b => b < w.heap.size) ho (fun g hg h => by have := HB1.out.size; omega))
    have HCP := Lib.hid (own_cap ho)
    have HB2 := Lib.hid (HB1.out.trans (hb.mono HB1.out.size))
    clear ho hb
    go_wp2_with fail
    go_ret2
    exact ⟨⟨_, rfl, A', c', rfl, HCP.out, HV.out⟩, HB2.out⟩
  | true =>
    have hp : ∀ W, Below w.heap.size w W → _ := fun W h => place_any A cp l (by omega) s.account s.purpose s.channel W (hA.below (w' := W) h)
    cases hpl : Rw.place Va.Sec.key l s.key with
    | some i =>
      obtain ⟨hi, _⟩ := Rw.place_some hpl
      have hput : Va.put true l s = (l.set i s, 0) := by unfold Va.put; rw [if_pos rfl, hpl]
      have hat : atI l (s.account, s.purpose, s.channel) = (i : Int) := by unfold atI; rw [show Rw.place Va.Sec.key l (s.account, s.purpose, s.channel) = some i from hpl]
      rw [hat] at hp
      have hset : l.set i s = l.take i ++ [s] ++ l.drop (i + 1) := by rw [List.set_eq_take_append_cons_drop, if_pos hi]; simp
      obtain ⟨R, hR⟩ : ∃ R, l.take i ++ [s] ++ l.drop (i + 1) = R := ⟨_, rfl⟩
      rw [hput, hset, hR]
      have HRR := Lib.hid hR
      clear hR hput hset hpl
      have HP := Lib.hid hp
      have HLA := Lib.hid hA
      have hii : (i : Int) ≥ 0 := by omega
      clear hA hx0 hb0 hp
      go_enter Tryz.func13, Tryz.ntmps13
      go_wp2_with fail
      refine HR.out.mono ?_
      rintro e w1 ⟨rfl, hb1⟩
      have HX1 := Lib.hid (HX0.out.of (hb1.block _ HX0.out.lt))
      have HB1 := Lib.hid (HB0.out.trans (hb1.mono HB0.out.size))
      clear hb1
      have x0 : w1.cell? ⟨w.heap.size, 0, none⟩ = some (.string s.digest) := (HX1.out.cell 0).trans rfl
      have x1 : w1.cell? ⟨w.heap.size, 1, none⟩ = some (.int .i64 s.account) := (HX1.out.cell 1).trans rfl
      have x2 : w1.cell? ⟨w.heap.size, 2, none⟩ = some (.int .i64 s.purpose) := (HX1.out.cell 2).trans rfl
      have x3 : w1.cell? ⟨w.heap.size, 3, none⟩ = some (.string s.channel) := (HX1.out.cell 3).trans rfl
      have x4 : w1.cell? ⟨w.heap.size, 4, none⟩ = some (.int .i64 s.expires) := (HX1.out.cell 4).trans rfl
      have x5 : w1.cell? ⟨w.heap.size, 5, none⟩ = some (.int .i64 s.tries) := (HX1.out.cell 5).trans rfl
      go_wp2_with fail
      refine (HK.out w1).mono ?_
      rintro e w2 ⟨rfl, hb⟩
      have HX2 := Lib.hid (HX1.out.of (hb.block _ HX1.out.lt))
      have HB2 := Lib.hid (HB1.out.trans (hb.mono HB1.out.size))
      clear hb x0 x1 x2 x3 x4 x5 HX1 HB1
      go_wp2_with fail
      refine (HP.out w2 HB2.out).mono ?_
      rintro e w3 ⟨rfl, hb⟩
      have HX := Lib.hid (HX2.out.of (hb.block _ HX2.out.lt))
      have HB := Lib.hid (HB2.out.trans (hb.mono HB2.out.size))
      clear hb HX2 HB2
      go_upto_region 5 with fail
      have HRE := Lib.hid (fun W => replacer_any A cp l.length i W)
      have HR1 : Hid (∀ W g h g3, Below w3.heap.size w3 W → Blk W g 22 #[.slice A l.length cp] → Blk W h 3 #[.int .i64 (i : Int)] → Blk W g3 26 #[.string s.digest, .int .i64 s.account, .int .i64 s.purpose, .string s.channel, .int .i64 s.expires, .int .i64 s.tries] → Calls Tryz.prog 64 #[.slice (some ⟨g3, 0, none⟩) 1 1, .pointer (some ⟨g, 0, none⟩), .pointer (some ⟨h, 0, none⟩)] W fun e w' => ∃ v, e = .returned v ∧ Row (fun u => u < w.heap.size) (l.take i ++ [s] ++ l.drop (i + 1)) v w' ∧ Below W.heap.size W w') := Lib.hid (fun W g h g3 hW h1 h2 h3 => by
        have hBW := HB.out.trans (hW.mono HB.out.size)
        refine (rep1_any A cp l (by omega) hcp i hi (some ⟨g3, 0, none⟩) 1 [s] (by simp) g h W h1 h2 (HLA.out.below hBW) (lies_one W g3 s h3)).mono ?_
        rintro e w' ⟨⟨v, rfl, hv⟩, hb⟩
        exact ⟨v, rfl, hv.weaker (fun x hx => Nat.lt_of_lt_of_le hx hBW.size), hb⟩)
      obtain ⟨Bn, hBn⟩ : ∃ B, w.heap.size = B := ⟨_, rfl⟩
      obtain ⟨b0, hb0⟩ : ∃ B, w.heap.size = B := ⟨_, rfl⟩
      rw [HRR.out, hBn] at HR1
      rw [hb0] at HX
      simp only [hb0]
      obtain ⟨n, hn⟩ : ∃ n, l.length = n := ⟨_, rfl⟩
      rw [hn] at HRE HR1
      simp only [hn]
      obtain ⟨ii, hii2⟩ : ∃ ii, i = ii := ⟨_, rfl⟩
      rw [hii2] at HRE HR1
      simp only [hii2]
      refine wp_region_some (by kernel_rfl) (Vq3 A n ii cp s Bn R) (fun _ _ W => Gc w3 W) (fun w w' => Below w.heap.size w w') (by kernel_rfl) (by kernel_rfl) 34 rfl (by kernel_rfl) (Vq3.on _ _ _ _ _ _ _) (fun _ => (Below.refl _ _)) (Gc.start w3) ?_ ?_
      · intro i o ho listed x W hs hdep hun hg hk
        match i, ho with
        | 0, ho =>
          cases ho
          have q0 : x.tmps[0]?.getD undef = .slice A n cp := hk.fix 0 (by kernel_rfl)
          refine .inl ⟨wanted_plain rfl, ?_⟩
          refine wp_value (v := .slice A n cp) (w' := W) ?_ ⟨_, rfl, rfl, (Below.refl _ _), hg⟩
          go_simp
        | 1, ho =>
          cases ho
          have q6 : x.tmps[6]?.getD undef = .int .i64 (ii : Int) := hk.fix 6 (by kernel_rfl)
          refine .inl ⟨wanted_plain rfl, ?_⟩
          refine wp_value (v := .int .i64 (ii : Int)) (w' := W) ?_ ⟨_, rfl, rfl, (Below.refl _ _), hg⟩
          go_simp
        | 2, ho =>
          cases ho
          have q18 : x.tmps[18]?.getD undef = .slice A n cp := hk.dep 0 18 (by kernel_rfl) (by kernel_rfl)
          have q19 : x.tmps[19]?.getD undef = .int .i64 (ii : Int) := hk.dep 1 19 (by kernel_rfl) (by kernel_rfl)
          refine .inl ⟨wanted_plain rfl, ?_⟩
          refine wp_enter (f := 39) (args := #[.slice A n cp, .int .i64 (ii : Int)]) (w' := W) (S := fun v w1 => (∃ g h, v = .func (.func 64) #[] #[.pointer (some ⟨g, 0, none⟩), .pointer (some ⟨h, 0, none⟩)] ∧ Blk w1 g 22 #[.slice A n cp] ∧ Blk w1 h 3 #[.int .i64 (ii : Int)]) ∧ Below W.heap.size W w1) ?_ ((HRE.out W).mono fun e w' h => by obtain ⟨⟨b, c, rfl, h1, h2⟩, hb⟩ := h; exact ⟨_, rfl, ⟨b, c, rfl, h1, h2⟩, hb⟩) ?_
          · go_simp
          · rintro v W' ⟨hv, hb⟩
            exact ⟨_, rfl, hv, hb, hg.calls hb⟩
        | 3, ho =>
          cases ho
          have q3 : x.tmps[3]?.getD undef = .pointer (some ⟨b0, 0, none⟩) := hk.fix 3 (by kernel_rfl)
          refine .inl ⟨wanted_plain rfl, ?_⟩
          refine wp_value (run_load_op _ _ rfl _ ((eval_slot x 3).trans q3) _ _ ((HX.out.of (hg.below.block _ HX.out.lt))) _ Tryz.underlying26 rfl sec_size) ⟨_, rfl, rfl, (Below.refl _ _), hg⟩
        | 4, ho =>
          cases ho
          have q21 : x.tmps[21]?.getD undef = .agg #[.string s.digest, .int .i64 s.account, .int .i64 s.purpose, .string s.channel, .int .i64 s.expires, .int .i64 s.tries] := hk.dep 3 21 (by kernel_rfl) (by kernel_rfl)
          refine .inl ⟨wanted_plain rfl, ?_⟩
          refine wp_value (v := .slice (some ⟨W.heap.size, 0, none⟩) 1 1) (w' := W.alloc (.cells #[.string s.digest, .int .i64 s.account, .int .i64 s.purpose, .string s.channel, .int .i64 s.expires, .int .i64 s.tries] 26)) ?_ ⟨_, rfl, ⟨_, rfl, Blk.new W _ _⟩, (Below.refl _ W).alloc (Nat.le_refl _) _, hg.calls ((Below.refl _ W).alloc (Nat.le_refl _) _)⟩
          go_simp
        | 5, ho =>
          cases ho
          refine .inl ⟨wanted_plain rfl, ?_⟩
          obtain ⟨g, h, q20, hb1, hb2⟩ : ∃ g h, x.tmps[20]?.getD undef = .func (.func 64) #[] #[.pointer (some ⟨g, 0, none⟩), .pointer (some ⟨h, 0, none⟩)] ∧ Blk W g 22 #[.slice A n cp] ∧ Blk W h 3 #[.int .i64 (ii : Int)] := hk.dep 2 20 (by kernel_rfl) (by kernel_rfl)
          obtain ⟨g3, q22, hb3⟩ : ∃ g, x.tmps[22]?.getD undef = .slice (some ⟨g, 0, none⟩) 1 1 ∧ Blk W g 26 #[.string s.digest, .int .i64 s.account, .int .i64 s.purpose, .string s.channel, .int .i64 s.expires, .int .i64 s.tries] := hk.dep 4 22 (by kernel_rfl) (by kernel_rfl)
          have hen := enter_rep
          refine wp_enter (f := 64) (args := #[.slice (some ⟨g3, 0, none⟩) 1 1, .pointer (some ⟨g, 0, none⟩), .pointer (some ⟨h, 0, none⟩)]) (w' := W) (S := fun v w1 => Row (fun u => u < Bn) R v w1 ∧ Below W.heap.size W w1) ?_ (HR1.out W g h g3 hg.below hb1 hb2 hb3) ?_
          · go_simp
          · rintro v W' ⟨hv, hb⟩
            exact ⟨_, rfl, hv, hb, hg.calls hb⟩
        | 6, ho =>
          cases ho
          refine .inl ⟨wanted_plain rfl, ?_⟩
          have hv23 : Row (fun u => u < Bn) R (x.tmps[23]?.getD undef) W := hk.dep 5 23 (by kernel_rfl) (by kernel_rfl)
          obtain ⟨z, hz⟩ : ∃ z, x.tmps[23]?.getD undef = z := ⟨_, rfl⟩
          rw [hz] at hv23
          refine wp_value (v := z) (w' := W) ?_ ⟨_, rfl, hv23, Below.refl _ _, hg⟩
          go_simp
        | 7, ho =>
          cases ho
          refine .inl ⟨wanted_plain rfl, ?_⟩
          refine wp_value (v := .int .i64 0) (w' := W) ?_ ⟨_, rfl, rfl, (Below.refl _ _), hg⟩
          go_simp
        | _ + 8, ho => cases ho
      intro listed x w4 hall hg hk
      have e18 : x.tmps[18]?.getD undef = .slice A n cp := hk.last 0 18 (by decide) (by kernel_rfl)
      have e19 : x.tmps[19]?.getD undef = .int .i64 (ii : Int) := hk.last 1 19 (by decide) (by kernel_rfl)
      have e21 : x.tmps[21]?.getD undef = .agg #[.string s.digest, .int .i64 s.account, .int .i64 s.purpose, .string s.channel, .int .i64 s.expires, .int .i64 s.tries] := hk.last 3 21 (by decide) (by kernel_rfl)
      have e5 : x.tmps[5]?.getD undef = .int .i64 0 := hk.last 7 5 (by decide) (by kernel_rfl)
      have hv4 : Row (fun u => u < Bn) R (x.tmps[4]?.getD undef) w4 := hk.last 6 4 (by decide) (by kernel_rfl)
      obtain ⟨z20, hz20⟩ : ∃ z, x.tmps[20]?.getD undef = z := ⟨_, rfl⟩
      obtain ⟨z4, hz4⟩ : ∃ z, x.tmps[4]?.getD undef = z := ⟨_, rfl⟩
      obtain ⟨z22, hz22⟩ : ∃ z, x.tmps[22]?.getD undef = z := ⟨_, rfl⟩
      obtain ⟨z23, hz23⟩ : ∃ z, x.tmps[23]?.getD undef = z := ⟨_, rfl⟩
      rw [hz4] at hv4
      have hB := Lib.hid hg.below
      have hx := hk.act [18, 19, 20, 21, 22, 23, 4, 5] (by kernel_rfl)
      clear hk hg hall
      simp only [List.foldl_cons, List.foldl_nil, e18, e19, e21, e5, hz20, hz4, hz22, hz23] at hx
      clear e18 e19 e21 e5 hz20 hz4 hz22 hz23
      subst hx
      simp only [Act.put, List.setIfInBounds_toArray, List.set_cons_succ, List.set_cons_zero]
      have HB4 := Lib.hid (HB.out.trans (hB.out.mono HB.out.size))
      rw [← hBn] at hv4
      have HV4 := Lib.hid hv4
      clear hB hv4
      go_wp2_with fail
      go_ret2
      exact ⟨⟨_, rfl, HV4.out⟩, HB4.out⟩
    | none =>
      unfold atI at hp
      rw [show Rw.place Va.Sec.key l (s.account, s.purpose, s.channel) = none from hpl] at hp
      have HP := Lib.hid hp
      by_cases h40 : 40 ≤ l.length
      · have hput : Va.put true l s = (l, 15) := by unfold Va.put; rw [if_pos rfl, hpl]; exact if_pos h40
        rw [hput]
        have h40i : (40 : Int) ≤ (l.length : Int) := by omega
        clear hA hx0 hb0 hp
        go_enter Tryz.func13, Tryz.ntmps13
        go_wp2_with fail
        refine HR.out.mono ?_
        rintro e w1 ⟨rfl, hb1⟩
        have HX1 := Lib.hid (HX0.out.of (hb1.block _ HX0.out.lt))
        have HB1 := Lib.hid (HB0.out.trans (hb1.mono HB0.out.size))
        clear hb1
        have x0 : w1.cell? ⟨w.heap.size, 0, none⟩ = some (.string s.digest) := (HX1.out.cell 0).trans rfl
        have x1 : w1.cell? ⟨w.heap.size, 1, none⟩ = some (.int .i64 s.account) := (HX1.out.cell 1).trans rfl
        have x2 : w1.cell? ⟨w.heap.size, 2, none⟩ = some (.int .i64 s.purpose) := (HX1.out.cell 2).trans rfl
        have x3 : w1.cell? ⟨w.heap.size, 3, none⟩ = some (.string s.channel) := (HX1.out.cell 3).trans rfl
        have x4 : w1.cell? ⟨w.heap.size, 4, none⟩ = some (.int .i64 s.expires) := (HX1.out.cell 4).trans rfl
        have x5 : w1.cell? ⟨w.heap.size, 5, none⟩ = some (.int .i64 s.tries) := (HX1.out.cell 5).trans rfl
        go_wp2_with fail
        refine (HK.out w1).mono ?_
        rintro e w2 ⟨rfl, hb⟩
        have HX2 := Lib.hid (HX1.out.of (hb.block _ HX1.out.lt))
        have HB2 := Lib.hid (HB1.out.trans (hb.mono HB1.out.size))
        clear hb x0 x1 x2 x3 x4 x5 HX1 HB1
        go_wp2_with fail
        refine (HP.out w2 HB2.out).mono ?_
        rintro e w3 ⟨rfl, hb⟩
        have HX := Lib.hid (HX2.out.of (hb.block _ HX2.out.lt))
        have HB := Lib.hid (HB2.out.trans (hb.mono HB2.out.size))
        clear hb HX2 HB2
        have hc := HCL.out w3 HB.out
        have HC := Lib.hid hc
        clear hc HCL
        go_wp2_with fail
        refine HC.out.mono ?_
        rintro e w4 ⟨⟨A', c', rfl, ho⟩, hb⟩
        have HV := Lib.hid (lies_made (S := fun b => b < w.heap.size) ho (fun g hg h => by have := HB.out.size; omega))
        have HCP := Lib.hid (own_cap ho)
        have HB5 := Lib.hid (HB.out.trans (hb.mono HB.out.size))
        clear ho hb
        go_wp2_with fail
        go_ret2
        exact ⟨⟨_, rfl, A', c', rfl, HCP.out, HV.out⟩, HB5.out⟩
      · have hput : Va.put true l s = (l ++ [s], 0) := by unfold Va.put; rw [if_pos rfl, hpl]; exact if_neg h40
        rw [hput]
        have h40i : ¬ (40 : Int) ≤ (l.length : Int) := by omega
        have HLA := Lib.hid hA
        clear hA hx0 hb0 hp
        go_enter Tryz.func13, Tryz.ntmps13
        go_wp2_with fail
        refine HR.out.mono ?_
        rintro e w1 ⟨rfl, hb1⟩
        have HX1 := Lib.hid (HX0.out.of (hb1.block _ HX0.out.lt))
        have HB1 := Lib.hid (HB0.out.trans (hb1.mono HB0.out.size))
        clear hb1
        have x0 : w1.cell? ⟨w.heap.size, 0, none⟩ = some (.string s.digest) := (HX1.out.cell 0).trans rfl
        have x1 : w1.cell? ⟨w.heap.size, 1, none⟩ = some (.int .i64 s.account) := (HX1.out.cell 1).trans rfl
        have x2 : w1.cell? ⟨w.heap.size, 2, none⟩ = some (.int .i64 s.purpose) := (HX1.out.cell 2).trans rfl
        have x3 : w1.cell? ⟨w.heap.size, 3, none⟩ = some (.string s.channel) := (HX1.out.cell 3).trans rfl
        have x4 : w1.cell? ⟨w.heap.size, 4, none⟩ = some (.int .i64 s.expires) := (HX1.out.cell 4).trans rfl
        have x5 : w1.cell? ⟨w.heap.size, 5, none⟩ = some (.int .i64 s.tries) := (HX1.out.cell 5).trans rfl
        go_wp2_with fail
        refine (HK.out w1).mono ?_
        rintro e w2 ⟨rfl, hb⟩
        have HX2 := Lib.hid (HX1.out.of (hb.block _ HX1.out.lt))
        have HB2 := Lib.hid (HB1.out.trans (hb.mono HB1.out.size))
        clear hb x0 x1 x2 x3 x4 x5 HX1 HB1
        go_wp2_with fail
        refine (HP.out w2 HB2.out).mono ?_
        rintro e w3 ⟨rfl, hb⟩
        have HX := Lib.hid (HX2.out.of (hb.block _ HX2.out.lt))
        have HB := Lib.hid (HB2.out.trans (hb.mono HB2.out.size))
        clear hb HX2 HB2
        have x0 : w3.cell? ⟨w.heap.size, 0, none⟩ = some (.string s.digest) := (HX.out.cell 0).trans rfl
        have x1 : w3.cell? ⟨w.heap.size, 1, none⟩ = some (.int .i64 s.account) := (HX.out.cell 1).trans rfl
        have x2 : w3.cell? ⟨w.heap.size, 2, none⟩ = some (.int .i64 s.purpose) := (HX.out.cell 2).trans rfl
        have x3 : w3.cell? ⟨w.heap.size, 3, none⟩ = some (.string s.channel) := (HX.out.cell 3).trans rfl
        have x4 : w3.cell? ⟨w.heap.size, 4, none⟩ = some (.int .i64 s.expires) := (HX.out.cell 4).trans rfl
        have x5 : w3.cell? ⟨w.heap.size, 5, none⟩ = some (.int .i64 s.tries) := (HX.out.cell 5).trans rfl
        have HCC : Hid (∀ W g g3, Below w3.heap.size w3 W → Blk W g 22 #[.slice A l.length cp, .slice (some ⟨g3, 0, none⟩) 1 1] → Blk W g3 26 #[.string s.digest, .int .i64 s.account, .int .i64 s.purpose, .string s.channel, .int .i64 s.expires, .int .i64 s.tries] → Calls Tryz.prog 40 #[.slice (some ⟨g, 0, none⟩) 2 2] W fun e w' => (∃ v, e = .returned v ∧ Row (fun u => u < w.heap.size) (l ++ [s]) v w') ∧ Below W.heap.size W w') := Lib.hid (fun W g g3 hW h1 h3 => by
          have hBW := HB.out.trans (hW.mono HB.out.size)
          have hS := sconcat_any (S := fun _ => False) [l, [s]] (by simp) (by simp; omega) g 2 W h1.lt (fun j hj => by
            match j, hj with
            | 0, _ => exact ⟨A, cp, (h1.cell 0).trans rfl, (HLA.out.mono (fun _ _ h => h.elim)).below hBW⟩
            | 1, _ => exact ⟨some ⟨g3, 0, none⟩, 1, (h1.cell 1).trans rfl, lies_one W g3 s h3⟩
            | j + 2, hj => exact absurd hj (by show ¬ (j + 2 < 2); omega))
          refine hS.mono ?_
          rintro e w' ⟨⟨v, rfl, hv⟩, hb⟩
          rw [show [l, [s]].flatten = l ++ [s] by simp] at hv
          exact ⟨⟨v, rfl, hv.weaker (fun x hx => Nat.lt_of_lt_of_le hx hBW.size)⟩, hb⟩)
        have hal : Below w3.heap.size w3 ((w3.alloc (.cells #[.string s.digest, .int .i64 s.account, .int .i64 s.purpose, .string s.channel, .int .i64 s.expires, .int .i64 s.tries] 26)).alloc (.cells #[.slice A l.length cp, .slice (some ⟨w3.heap.size, 0, none⟩) 1 1] 22)) := ((Below.refl _ w3).alloc (Nat.le_refl _) _).alloc (by simp) _
        have hca := HCC.out _ (w3.heap.size + 1) w3.heap.size hal (blk_new_s (by simp)) ((Blk.new w3 _ _).alloc _)
        have HBA := Lib.hid (HB.out.trans (hal.mono HB.out.size))
        have HCA := Lib.hid hca
        clear hca hal HCC
        go_wp2_with fail
        refine HCA.out.mono ?_
        rintro e w4 ⟨⟨v, rfl, hv⟩, hb⟩
        have HV := Lib.hid hv
        have HB5 := Lib.hid (HBA.out.trans (hb.mono HBA.out.size))
        clear hv hb
        go_wp2_with fail
        go_ret2
        exact ⟨⟨_, rfl, HV.out⟩, HB5.out⟩
end Go.Proofs.YtfjdcopndkdbmaaGreatDoor
