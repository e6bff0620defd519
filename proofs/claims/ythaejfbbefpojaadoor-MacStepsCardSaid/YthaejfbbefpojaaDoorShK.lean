/-
  Contract of the document's Sum: the digest. Condition: a text of 100000 bytes at most.
-/
import Derived.Test.YthaejfbbefpojaaDoorShF
import Derived.Test.YthaejfbbefpojaaDoorShB
import Derived.Test.YthaejfbbefpojaaDoorShP
import Derived.Test.YthaejfbbefpojaaDoorShI
import Derived.Test.YthaejfbbefpojaaDoorShJ
import Derived.StillTailTactics
import Derived.Deep.AppendLies
import Derived.Deep.RegionHeld3
namespace Go.Proofs.YthaejfbbefpojaaDoor
open Go.RowKit

def strSz : Value → Nat
  | .string s => s.size
  | _ => 0
/-- A conversion whose run is known, at the list of operations. -/
theorem wpList_convert_run {P : Program} {w : World} {ops : Array Oper} {rest : List Oper} {o : Oper} {a : Act} {Q : Exit → Act → World → Prop} (hgd : o.guard = none) (x : Operand) (t u : TypeId)
    (ho : o.op = .convert t u x) (v v' : Value) (hx : a.eval x = v) (hr : (convert t u v).run P w = .ok v' w) (h : wpList P ops Q rest (a.put o.dst v') w) : wpList P ops Q (o :: rest) a w := by
  refine wpList_plain hgd fun K hK => ?_
  unfold Oper.wp execOp
  simp only [ho, Sem.run_bind, Sem.run_pure, Result.andThen_ok, hx, hr]
  exact hK _ _ h
theorem run_cut (T : ByteArray) (F : List UInt8) (hT : T = ba F) (a : Nat) (h : a + 64 ≤ F.length) (W : World) :
    (Instr.slice 9 (.string T) (some (.int .i64 (a : Int))) (some (.int .i64 ((a : Int) + 64))) none).run Tryd.prog W = .ok (.string (ba ((F.drop a).take 64))) W := by
  subst hT
  have hz := ba_size F
  rw [run_slice_string W _ (ba F) _ _ _ _ Tryd.underlying9 (by omega) (by omega) (by omega)]
  have e : (ba F).extract (a : Int).toNat ((a : Int) + 64).toNat = ba ((F.drop a).take 64) := by
    rw [show ((a : Int) + 64).toNat = a + 64 by omega, Int.toNat_natCast]
    apply ByteArray.ext
    simp [ba, List.extract_eq_take_drop]
  rw [e]
/-- A whole row loaded, in a region that is quiet. -/
theorem wpStill_load {P : Program} {ops : Array Oper} {w : World} {Q : Act → Prop} {a : Act} {o : Oper} {rest : List Oper} (hgd : o.guard = none) (ty : TypeId) (x : Operand) (ho : o.op = .load ty x)
    (g : Nat) (hx : a.eval x = .pointer (some ⟨g, 0, none⟩)) (v : Value) (hr : (loadVar ty ⟨g, 0, none⟩).run P w = .ok v w) (h : wpStill P ops w Q rest (a.put o.dst v)) : wpStill P ops w Q (o :: rest) a := by
  refine wpStill_step (fun K hK => ?_)
  have hwant : Region.wanted o (yielded ops a.tmps) = true := by simp [Region.wanted, hgd]
  rw [if_pos hwant]
  unfold Oper.still execOp
  simp only [ho, hx, Instr.loadAt, Instr.sureAddr, Sem.run_bind, Sem.run_pure, Result.andThen_ok, hr]
  rw [Oper.stillUpon_value]
  exact hK _ h
theorem own4 (wd : World) (t : TypeId) (v0 v1 v2 v3 : Value) : ∀ j u, ([v0, v1, v2, v3] : List Value)[j]? = some u → (wd.alloc (.cells #[v0, v1, v2, v3] t)).cell? ((⟨wd.heap.size, 0, none⟩ : Addr).add j) = some u := by
  intro j u hj
  have hadd : (⟨wd.heap.size, 0, none⟩ : Addr).add j = ⟨wd.heap.size, j, none⟩ := by unfold Addr.add; split <;> simp_all
  rw [hadd, (Blk.new wd _ _).cell]
  simpa using hj
theorem primes_length : Sh.primes.length = 64 := by decide
theorem K_at (k : Nat) (h : k < 64) : BitVec.ofNat 32 (Sh.root (Sh.primes.getD k 0) true) = Sh.K.getD k 0 := by
  rw [← Sh.roots_K]
  have hl : k < Sh.primes.length := h
  simp only [List.getD_eq_getElem?_getD, List.getElem?_map, List.getElem?_eq_getElem hl, Option.map_some, Option.getD_some]
theorem H_at (k : Nat) (h : k < 8) : BitVec.ofNat 32 (Sh.root (Sh.primes.getD k 0) false) = Sh.H0.getD k 0 := by
  rw [← Sh.roots_H]
  have hl : k < Sh.primes.length := by rw [primes_length]; omega
  simp only [List.getD_eq_getElem?_getD, List.getElem?_map, List.getElem?_take, if_pos h, List.getElem?_eq_getElem hl, Option.map_some, Option.getD_some]
theorem primes_at (k : Nat) (h : k < 64) : (cn Sh.primes)[k]? = some (.int .u64 ((Sh.primes.getD k 0 : Nat) : Int)) := by
  have hl : k < Sh.primes.length := h
  rw [cn_get _ k hl, List.getD_eq_getElem?_getD, List.getElem?_eq_getElem hl]
  rfl
set_option maxRecDepth 100000 in
set_option maxHeartbeats 8000000 in
theorem ref_sum (L : List UInt8) (hs : L.length ≤ 100000) (w : World) :
    Calls Tryd.prog 17 #[.string (ba L)] w fun e w' => e = .returned (.string (ba (dig L))) ∧ Below w.heap.size w w' := by
  have hsz : (ba L).size = L.length := ba_size L
  obtain ⟨n, hl⟩ : ∃ n, L.length = n := ⟨_, rfl⟩
  rw [hl] at hsz hs
  have HL := Lib.hid hl
  have hps : ba L ++ ⟨#[128]⟩ = ba (L ++ 128 :: List.replicate 0 0) := ba_append L [128]
  obtain ⟨s, hSL⟩ : ∃ s, ba L = s := ⟨_, rfl⟩
  rw [hSL] at hsz hps ⊢
  obtain ⟨T0, hT0⟩ : ∃ T, ba (L ++ 128 :: List.replicate 0 0) = T := ⟨_, rfl⟩
  rw [hT0] at hps
  have HT0 := Lib.hid hT0
  have HPS := Lib.hid hps
  clear hps hl hSL hT0
  obtain ⟨i0, hi, hz0, hz1, hz2⟩ := info_u8
  go_enter Tryd.func17, Tryd.ntmps17
  go_wp2_with fail
  refine (primes_any w).mono ?_
  rintro e w1 ⟨A, c, rfl, hA, hb⟩
  obtain ⟨a, hAa, -, -, -⟩ := hA 0 _ (primes_at 0 (by decide))
  subst hAa
  have HA := Lib.hid (hA.mono (T := fun b => b = w1.heap.size ∨ b = w1.heap.size + 1) (fun k hk h => by omega))
  have HB := Lib.hid hb
  clear hA hb
  go_wp2_with fail
  go_loopw [6] (fun i wr => ∃ (k : Nat) (lH lK : Sh.V), i = .int .i64 (k : Int) ∧ k ≤ 64 ∧ Fill Sh.H0 (min k 8) lH ∧ Fill Sh.K k lK ∧ Blk wr w1.heap.size 51 (ru lH) ∧ Blk wr (w1.heap.size + 1) 64 (ru lK) ∧ Kept (fun b => b = w1.heap.size ∨ b = w1.heap.size + 1) w1 wr)
    (fun i _ => 64 - (intOf i).toNat)
  case atStart =>
    refine ⟨0, List.replicate 8 0, List.replicate 64 0, rfl, by omega, Fill.zero Sh.H0, Fill.zero Sh.K, ?_, ?_, ?_⟩
    · exact (Blk.new w1 _ _).alloc _
    · rw [ru_zeros]
      exact Blk.new2 _ _ _ _
    · exact Kept.alloc (Kept.alloc (Kept.refl _ _) _) _
  case round =>
    obtain ⟨k, lH, lK, rfl, hk, hH, hK, b0, b1, hkp⟩ := hrel
    have HH := Lib.hid hH
    have HK := Lib.hid hK
    have B0 := Lib.hid b0
    have B1 := Lib.hid b1
    have HKP := Lib.hid hkp
    have hlH : lH.length = 8 := hH.len
    have hlK : lK.length = 64 := hK.len
    have hz1 := hkp.size
    have hz2 := b1.lt
    clear hH hK b0 b1 hkp
    by_cases hlt : k < 64
    · obtain ⟨a', ha1, -, -, ha3⟩ := (HA.out.kept HKP.out) k _ (primes_at k hlt)
      injection ha1 with ha1
      subst ha1
      have HKV := Lib.hid (K_at k hlt)
      have HHV := Lib.hid (H_at k)
      have HP := Lib.hid (Lies.kept HA.out HKP.out)
      obtain ⟨p, hp⟩ : ∃ p, Sh.primes.getD k 0 = p := ⟨_, rfl⟩
      have hpl : p < 18446744073709551616 := by
        have : ∀ j, j < 64 → Sh.primes.getD j 0 < 18446744073709551616 := by decide
        rw [← hp]; exact this k hlt
      rw [hp] at ha3 HKV HHV
      have HPE := Lib.hid hp
      clear hp
      have ki : (k : Int) < 64 := by omega
      go_wp2_with fail
      refine (root_cb p wr).mono ?_
      rintro e w2 ⟨rfl, hb2⟩
      have hk2 : Kept (fun b => b = w1.heap.size ∨ b = w1.heap.size + 1) w1 w2 := HKP.out.trans (Kept.of_below hb2) (fun x hx => .inl hx)
      have e0 : Blk w2 w1.heap.size 51 (ru lH) := B0.out.of (hb2.block _ B0.out.lt)
      have e1 : Blk w2 (w1.heap.size + 1) 64 (ru lK) := B1.out.of (hb2.block _ B1.out.lt)
      rw [HKV.out]
      have HP2 := Lib.hid (HP.out.below hb2)
      have d1 := Blk.ru e1 k (by omega)
      have d2 := Blk.frozen e1 k
      have HK2 := Lib.hid (hk2.setCell (p := ⟨w1.heap.size + 1, k, none⟩) (.inl (.inr rfl)) (.int .u32 (R (Sh.K.getD k 0))))
      have F0 := Lib.hid (e0.far (p := ⟨w1.heap.size + 1, k, none⟩) (by simp) (.int .u32 (R (Sh.K.getD k 0))))
      have F1 := Lib.hid (e1.ruSet k (Sh.K.getD k 0))
      generalize lK.getD k 0 = z1 at d1
      obtain ⟨KV, hKV⟩ : ∃ v, Sh.K.getD k 0 = v := ⟨_, rfl⟩
      rw [hKV] at HK2 F0 F1 ⊢
      have HKV2 := Lib.hid hKV
      clear e0 e1 hk2 hb2 hKV HKV B0 B1 HKP HP
      by_cases hk8 : k < 8
      · have k8 : (k : Int) < 8 := by omega
        have HV := Lib.hid (HHV.out hk8)
        have hm1 : min k 8 = k := by omega
        have hm2 : min (k + 1) 8 = k + 1 := by omega
        rw [hm1] at HH
        have hP3 := (Lies.kept HA.out HK2.out)
        obtain ⟨a', ha1, -, -, ha4⟩ := hP3 k _ (primes_at k hlt)
        injection ha1 with ha1
        subst ha1
        rw [HPE.out] at ha4
        clear hP3
        go_wp2_with fail
        refine (root_sq p _).mono ?_
        rintro e w3 ⟨rfl, hb3⟩
        rw [HV.out]
        have hk3 : Kept (fun b => b = w1.heap.size ∨ b = w1.heap.size + 1) w1 w3 := HK2.out.trans (Kept.of_below hb3) (fun x hx => .inl hx)
        have e0 : Blk w3 w1.heap.size 51 (ru lH) := F0.out.of (hb3.block _ F0.out.lt)
        have e1 : Blk w3 (w1.heap.size + 1) 64 (ru (lK.set k KV)) := F1.out.of (hb3.block _ F1.out.lt)
        have d3 := Blk.ru e0 k (by omega)
        have d4 := Blk.frozen e0 k
        have HK3 := Lib.hid (hk3.setCell (p := ⟨w1.heap.size, k, none⟩) (.inl (.inl rfl)) (.int .u32 (R (Sh.H0.getD k 0))))
        have G0 := Lib.hid (e0.ruSet k (Sh.H0.getD k 0))
        have G1 := Lib.hid (e1.far (p := ⟨w1.heap.size, k, none⟩) (by simp) (.int .u32 (R (Sh.H0.getD k 0))))
        generalize lH.getD k 0 = z2 at d3
        have HN := Lib.hid (HH.out.next (by show k < 8; exact hk8) (rfl : Sh.H0.getD k 0 = Sh.H0.getD k 0))
        have HN2 := Lib.hid (HK.out.next hlt HKV2.out.symm)
        rw [← hm2] at HN
        generalize Sh.H0.getD k 0 = HV0 at HK3 G0 G1 HN HV ⊢
        clear e0 e1 hk3 hb3 d1 d2 ha4 hm1 hm2
        go_wp2_with fail
        go_roundw
        case rel => exact ⟨k + 1, _, _, by go_num, by omega, HN.out, HN2.out, G0.out, G1.out, HK3.out⟩
        case measure => simp [intOf]; omega
      · have k8 : ¬ (k : Int) < 8 := by omega
        have HN2 := Lib.hid (HK.out.next hlt HKV2.out.symm)
        have hm2 : min (k + 1) 8 = min k 8 := by omega
        rw [← hm2] at HH
        clear hm2
        go_wp2_with fail
        go_roundw
        case rel => exact ⟨k + 1, _, _, by go_num, by omega, HH.out, HN2.out, F0.out, F1.out, HK2.out⟩
        case measure => simp [intOf]; omega
    · obtain rfl : k = 64 := by omega
      have h1 := HH.out.done (by decide)
      have h2 := HK.out.done (by decide)
      rw [h1] at B0
      rw [h2] at B1
      have HW := Lib.hid (Kept.below HB.out HKP.out (fun x hx => by have := HB.out.size; omega) HB.out.size)
      obtain ⟨g, hg⟩ : ∃ g, w1.heap.size = g := ⟨_, rfl⟩
      have hgw : w.heap.size ≤ g := by have := HB.out.size; omega
      rw [hg] at B0 B1
      rw [show ((64 : Nat) : Int) = 64 from rfl, hg]
      clear HH HK HKP h1 h2 hlH hlK hz1 hz2 hg HA HB hk hlt
      go_wp2_with fail
      rw [HPS.out]
      go_loopw [7] (fun t wr' => ∃ j : Nat, wr' = wr ∧ j ≤ Sh.zeros n ∧ t = .string (ba (L ++ 128 :: List.replicate j 0)))
        (fun t _ => Sh.zeros n + n + 1 - strSz t)
      case atStart => exact ⟨0, rfl, Nat.zero_le _, by rw [← HT0.out]⟩
      case round =>
        obtain ⟨j, rfl, hj, rfl⟩ := hrel
        have hT : (ba (L ++ 128 :: List.replicate j 0)).size = n + 1 + j := by
          rw [ba_size, List.length_append, HL.out, List.length_cons, List.length_replicate]
          omega
        have hnx : ba (L ++ 128 :: List.replicate j 0) ++ ⟨#[0]⟩ = ba (L ++ 128 :: List.replicate (j + 1) 0) := by
          rw [show (⟨#[0]⟩ : ByteArray) = ba [0] from rfl, ba_append, List.append_assoc, List.replicate_succ']
          rfl
        have hz : Sh.zeros n = (119 - n % 64) % 64 := rfl
        have HNX := Lib.hid hnx
        by_cases hjl : j < Sh.zeros n
        · have hm1 : ¬ (((n + 1 + j : Nat) : Int) % 64 = 56) := by omega
          have HZ := Lib.hid hjl
          obtain ⟨T, hTT⟩ : ∃ T, ba (L ++ 128 :: List.replicate j 0) = T := ⟨_, rfl⟩
          obtain ⟨m, hm⟩ : ∃ m, n + 1 + j = m := ⟨_, rfl⟩
          have hmm : m ≤ 100100 := by omega
          rw [hTT] at hT HNX ⊢
          rw [hm] at hT hm1
          have HT := Lib.hid hT
          have HM := Lib.hid hm
          clear hz hjl hnx hj hTT hm
          go_wp2_with fail
          have hT1 : (T ++ (⟨#[0]⟩ : ByteArray)).size = m + 1 := by rw [ByteArray.size_append, HT.out]; rfl
          go_roundw
          case rel => exact ⟨j + 1, by first | trivial | rfl, HZ.out, by rw [HNX.out]⟩
          case measure => simp only [strSz, hT1, HT.out]; have := HZ.out; have := HM.out; omega
        · obtain rfl : j = Sh.zeros n := by omega
          have hm1 : (((n + 1 + Sh.zeros n : Nat) : Int) % 64 = 56) := by omega
          obtain ⟨P, hP⟩ : ∃ P, L ++ 128 :: List.replicate (Sh.zeros n) 0 = P := ⟨_, rfl⟩
          have HPL := Lib.hid hP
          obtain ⟨m, hm⟩ : ∃ m, n + 1 + Sh.zeros n = m := ⟨_, rfl⟩
          rw [hP] at hT ⊢
          rw [hm] at hT hm1
          have HPS : Hid (P.length = m) := Lib.hid (by rw [← hT, ba_size])
          have hmm : m ≤ 100100 := by omega
          have hm8 : Hid ((m + 8) % 64 = 0) := Lib.hid (by omega)
          have h00 : Hid (ba P = ba (P ++ (Sh.be8 (8 * n)).take 0)) := Lib.hid (by simp)
          obtain ⟨T, hTT⟩ : ∃ T, ba P = T := ⟨_, rfl⟩
          have HTT := Lib.hid hTT
          rw [hTT] at hT ⊢
          have wu1 := IntWalk.u64_in (n : Int) (by omega)
          obtain ⟨N, hN⟩ : ∃ N, 8 * n = N := ⟨_, rfl⟩
          have wu2 : IntKind.u64.wrap ((n : Int) * 8) = (N : Int) := by rw [IntWalk.u64_in _ (by omega)]; omega
          have hNl : N ≤ 800000 := by omega
          clear hz hjl hnx hj HNX hP hm hTT
          go_wp2_with fail
          clear hm1
          rw [hN] at h00
          have HN8 := Lib.hid hN
          clear hN
          go_loopw [7, 9] (fun t i wr' => ∃ (k : Nat), i = .int .i64 ((7 : Int) - k) ∧ k ≤ 8 ∧ t = .string (ba (P ++ (Sh.be8 N).take k)) ∧ Below wr.heap.size wr wr')
            (fun _ i _ => (intOf i + 1).toNat)
          case atStart => exact ⟨0, rfl, by omega, by rw [← HTT.out, h00.out], Below.refl _ _⟩
          case round =>
            obtain ⟨k, rfl, hk, rfl, hb⟩ := hrel
            have HWB := Lib.hid hb
            clear hb
            by_cases hk8 : k < 8
            · rcases (by omega : k = 0 ∨ k = 1 ∨ k = 2 ∨ k = 3 ∨ k = 4 ∨ k = 5 ∨ k = 6 ∨ k = 7) with rfl | rfl | rfl | rfl | rfl | rfl | rfl | rfl
              · have hnx : ba (P ++ (Sh.be8 N).take 0) ++ ba [UInt8.ofNat (N / 72057594037927936)] = ba (P ++ (Sh.be8 N).take 1) := by
                  rw [ba_append, List.append_assoc]
                  rfl
                have hbv : ((UInt8.ofNat (N / 72057594037927936)).toNat : Int) = (N : Int) / 72057594037927936 % 256 := by rw [UInt8.toNat_ofNat']; omega
                have hts : (ba (P ++ (Sh.be8 N).take 0)).size = m + 0 := by rw [ba_size, List.length_append, HPS.out]; rfl
                generalize UInt8.ofNat (N / 72057594037927936) = b at hnx hbv
                have hb1 : (ba [b]).size = 1 := rfl
                have HNX := Lib.hid hnx
                have HBV := Lib.hid hbv
                obtain ⟨T', hTT'⟩ : ∃ T, ba (P ++ (Sh.be8 N).take 0) = T := ⟨_, rfl⟩
                rw [hTT'] at HNX hts ⊢
                clear hnx hTT' hbv
                go_wp2_with (refine wpList_convert_run rfl _ 27 9 rfl _ _ rfl (run_one _ wr.heap.size _ b (by have h1 := HBV.out; omega) (((Blk.new wr _ _).cell 0).trans rfl)) ?_)
                rw [HNX.out]
                go_roundw
                case rel => exact ⟨1, by go_num, by omega, rfl, HWB.out.alloc HWB.out.size _⟩
                case measure => simp [intOf]
              · have hnx : ba (P ++ (Sh.be8 N).take 1) ++ ba [UInt8.ofNat (N / 281474976710656)] = ba (P ++ (Sh.be8 N).take 2) := by
                  rw [ba_append, List.append_assoc]
                  rfl
                have hbv : ((UInt8.ofNat (N / 281474976710656)).toNat : Int) = (N : Int) / 281474976710656 % 256 := by rw [UInt8.toNat_ofNat']; omega
                have hts : (ba (P ++ (Sh.be8 N).take 1)).size = m + 1 := by rw [ba_size, List.length_append, HPS.out]; rfl
                generalize UInt8.ofNat (N / 281474976710656) = b at hnx hbv
                have hb1 : (ba [b]).size = 1 := rfl
                have HNX := Lib.hid hnx
                have HBV := Lib.hid hbv
                obtain ⟨T', hTT'⟩ : ∃ T, ba (P ++ (Sh.be8 N).take 1) = T := ⟨_, rfl⟩
                rw [hTT'] at HNX hts ⊢
                clear hnx hTT' hbv
                go_wp2_with (refine wpList_convert_run rfl _ 27 9 rfl _ _ rfl (run_one _ wr.heap.size _ b (by have h1 := HBV.out; omega) (((Blk.new wr _ _).cell 0).trans rfl)) ?_)
                rw [HNX.out]
                go_roundw
                case rel => exact ⟨2, by go_num, by omega, rfl, HWB.out.alloc HWB.out.size _⟩
                case measure => simp [intOf]
              · have hnx : ba (P ++ (Sh.be8 N).take 2) ++ ba [UInt8.ofNat (N / 1099511627776)] = ba (P ++ (Sh.be8 N).take 3) := by
                  rw [ba_append, List.append_assoc]
                  rfl
                have hbv : ((UInt8.ofNat (N / 1099511627776)).toNat : Int) = (N : Int) / 1099511627776 % 256 := by rw [UInt8.toNat_ofNat']; omega
                have hts : (ba (P ++ (Sh.be8 N).take 2)).size = m + 2 := by rw [ba_size, List.length_append, HPS.out]; rfl
                generalize UInt8.ofNat (N / 1099511627776) = b at hnx hbv
                have hb1 : (ba [b]).size = 1 := rfl
                have HNX := Lib.hid hnx
                have HBV := Lib.hid hbv
                obtain ⟨T', hTT'⟩ : ∃ T, ba (P ++ (Sh.be8 N).take 2) = T := ⟨_, rfl⟩
                rw [hTT'] at HNX hts ⊢
                clear hnx hTT' hbv
                go_wp2_with (refine wpList_convert_run rfl _ 27 9 rfl _ _ rfl (run_one _ wr.heap.size _ b (by have h1 := HBV.out; omega) (((Blk.new wr _ _).cell 0).trans rfl)) ?_)
                rw [HNX.out]
                go_roundw
                case rel => exact ⟨3, by go_num, by omega, rfl, HWB.out.alloc HWB.out.size _⟩
                case measure => simp [intOf]
              · have hnx : ba (P ++ (Sh.be8 N).take 3) ++ ba [UInt8.ofNat (N / 4294967296)] = ba (P ++ (Sh.be8 N).take 4) := by
                  rw [ba_append, List.append_assoc]
                  rfl
                have hbv : ((UInt8.ofNat (N / 4294967296)).toNat : Int) = (N : Int) / 4294967296 % 256 := by rw [UInt8.toNat_ofNat']; omega
                have hts : (ba (P ++ (Sh.be8 N).take 3)).size = m + 3 := by rw [ba_size, List.length_append, HPS.out]; rfl
                generalize UInt8.ofNat (N / 4294967296) = b at hnx hbv
                have hb1 : (ba [b]).size = 1 := rfl
                have HNX := Lib.hid hnx
                have HBV := Lib.hid hbv
                obtain ⟨T', hTT'⟩ : ∃ T, ba (P ++ (Sh.be8 N).take 3) = T := ⟨_, rfl⟩
                rw [hTT'] at HNX hts ⊢
                clear hnx hTT' hbv
                go_wp2_with (refine wpList_convert_run rfl _ 27 9 rfl _ _ rfl (run_one _ wr.heap.size _ b (by have h1 := HBV.out; omega) (((Blk.new wr _ _).cell 0).trans rfl)) ?_)
                rw [HNX.out]
                go_roundw
                case rel => exact ⟨4, by go_num, by omega, rfl, HWB.out.alloc HWB.out.size _⟩
                case measure => simp [intOf]
              · have hnx : ba (P ++ (Sh.be8 N).take 4) ++ ba [UInt8.ofNat (N / 16777216)] = ba (P ++ (Sh.be8 N).take 5) := by
                  rw [ba_append, List.append_assoc]
                  rfl
                have hbv : ((UInt8.ofNat (N / 16777216)).toNat : Int) = (N : Int) / 16777216 % 256 := by rw [UInt8.toNat_ofNat']; omega
                have hts : (ba (P ++ (Sh.be8 N).take 4)).size = m + 4 := by rw [ba_size, List.length_append, HPS.out]; rfl
                generalize UInt8.ofNat (N / 16777216) = b at hnx hbv
                have hb1 : (ba [b]).size = 1 := rfl
                have HNX := Lib.hid hnx
                have HBV := Lib.hid hbv
                obtain ⟨T', hTT'⟩ : ∃ T, ba (P ++ (Sh.be8 N).take 4) = T := ⟨_, rfl⟩
                rw [hTT'] at HNX hts ⊢
                clear hnx hTT' hbv
                go_wp2_with (refine wpList_convert_run rfl _ 27 9 rfl _ _ rfl (run_one _ wr.heap.size _ b (by have h1 := HBV.out; omega) (((Blk.new wr _ _).cell 0).trans rfl)) ?_)
                rw [HNX.out]
                go_roundw
                case rel => exact ⟨5, by go_num, by omega, rfl, HWB.out.alloc HWB.out.size _⟩
                case measure => simp [intOf]
              · have hnx : ba (P ++ (Sh.be8 N).take 5) ++ ba [UInt8.ofNat (N / 65536)] = ba (P ++ (Sh.be8 N).take 6) := by
                  rw [ba_append, List.append_assoc]
                  rfl
                have hbv : ((UInt8.ofNat (N / 65536)).toNat : Int) = (N : Int) / 65536 % 256 := by rw [UInt8.toNat_ofNat']; omega
                have hts : (ba (P ++ (Sh.be8 N).take 5)).size = m + 5 := by rw [ba_size, List.length_append, HPS.out]; rfl
                generalize UInt8.ofNat (N / 65536) = b at hnx hbv
                have hb1 : (ba [b]).size = 1 := rfl
                have HNX := Lib.hid hnx
                have HBV := Lib.hid hbv
                obtain ⟨T', hTT'⟩ : ∃ T, ba (P ++ (Sh.be8 N).take 5) = T := ⟨_, rfl⟩
                rw [hTT'] at HNX hts ⊢
                clear hnx hTT' hbv
                go_wp2_with (refine wpList_convert_run rfl _ 27 9 rfl _ _ rfl (run_one _ wr.heap.size _ b (by have h1 := HBV.out; omega) (((Blk.new wr _ _).cell 0).trans rfl)) ?_)
                rw [HNX.out]
                go_roundw
                case rel => exact ⟨6, by go_num, by omega, rfl, HWB.out.alloc HWB.out.size _⟩
                case measure => simp [intOf]
              · have hnx : ba (P ++ (Sh.be8 N).take 6) ++ ba [UInt8.ofNat (N / 256)] = ba (P ++ (Sh.be8 N).take 7) := by
                  rw [ba_append, List.append_assoc]
                  rfl
                have hbv : ((UInt8.ofNat (N / 256)).toNat : Int) = (N : Int) / 256 % 256 := by rw [UInt8.toNat_ofNat']; omega
                have hts : (ba (P ++ (Sh.be8 N).take 6)).size = m + 6 := by rw [ba_size, List.length_append, HPS.out]; rfl
                generalize UInt8.ofNat (N / 256) = b at hnx hbv
                have hb1 : (ba [b]).size = 1 := rfl
                have HNX := Lib.hid hnx
                have HBV := Lib.hid hbv
                obtain ⟨T', hTT'⟩ : ∃ T, ba (P ++ (Sh.be8 N).take 6) = T := ⟨_, rfl⟩
                rw [hTT'] at HNX hts ⊢
                clear hnx hTT' hbv
                go_wp2_with (refine wpList_convert_run rfl _ 27 9 rfl _ _ rfl (run_one _ wr.heap.size _ b (by have h1 := HBV.out; omega) (((Blk.new wr _ _).cell 0).trans rfl)) ?_)
                rw [HNX.out]
                go_roundw
                case rel => exact ⟨7, by go_num, by omega, rfl, HWB.out.alloc HWB.out.size _⟩
                case measure => simp [intOf]
              · have hnx : ba (P ++ (Sh.be8 N).take 7) ++ ba [UInt8.ofNat N] = ba (P ++ (Sh.be8 N).take 8) := by
                  rw [ba_append, List.append_assoc]
                  rfl
                have hbv : ((UInt8.ofNat N).toNat : Int) = (N : Int) / 1 % 256 := by rw [UInt8.toNat_ofNat']; omega
                have hts : (ba (P ++ (Sh.be8 N).take 7)).size = m + 7 := by rw [ba_size, List.length_append, HPS.out]; rfl
                generalize UInt8.ofNat N = b at hnx hbv
                have hb1 : (ba [b]).size = 1 := rfl
                have HNX := Lib.hid hnx
                have HBV := Lib.hid hbv
                obtain ⟨T', hTT'⟩ : ∃ T, ba (P ++ (Sh.be8 N).take 7) = T := ⟨_, rfl⟩
                rw [hTT'] at HNX hts ⊢
                clear hnx hTT' hbv
                go_wp2_with (refine wpList_convert_run rfl _ 27 9 rfl _ _ rfl (run_one _ wr.heap.size _ b (by have h1 := HBV.out; omega) (((Blk.new wr _ _).cell 0).trans rfl)) ?_)
                rw [HNX.out]
                go_roundw
                case rel => exact ⟨8, by go_num, by omega, rfl, HWB.out.alloc HWB.out.size _⟩
                case measure => simp [intOf]
            · obtain rfl : k = 8 := by omega
              obtain ⟨F, hF⟩ : ∃ F, P ++ Sh.be8 N = F := ⟨_, rfl⟩
              have hFP : F = Sh.pad L := by
                rw [← hF, ← HPL.out, ← HN8.out, Sh.pad, HL.out]
                simp
              have hFl : F.length = m + 8 := by rw [← hF, List.length_append, HPS.out]; rfl
              have hFs : (ba F).size = m + 8 := by rw [ba_size, hFl]
              rw [show P ++ (Sh.be8 N).take 8 = F from hF, show (7 : Int) - ((8 : Nat) : Int) = -1 from rfl]
              obtain ⟨TF, hTF⟩ : ∃ T, ba F = T := ⟨_, rfl⟩
              have HTF := Lib.hid hTF
              rw [hTF] at hFs ⊢
              have HFP := Lib.hid hFP
              have C0 := Lib.hid (B0.out.of (HWB.out.block _ B0.out.lt))
              have C1 := Lib.hid (B1.out.of (HWB.out.block _ B1.out.lt))
              have CB := Lib.hid (HW.out.trans (HWB.out.mono HW.out.size))
              have HFL := Lib.hid hFl
              clear hTF hF hFP hFl B0 B1 HWB HW h00 HPL
              obtain ⟨M, hM⟩ : ∃ M, m + 8 = 64 * M := ⟨(m + 8) / 64, by have := hm8.out; omega⟩
              go_wp2_with fail
              go_loopw [10] (fun i wr' => ∃ (q : Nat) (hv : Sh.V), i = .int .i64 (64 * (q : Int)) ∧ q ≤ M ∧ hv.length = 8 ∧ Blk wr' g 51 (ru hv) ∧ Blk wr' (g + 1) 64 (ru Sh.K) ∧ Below w.heap.size w wr' ∧ Sh.blocks hv (F.drop (64 * q)) = Sh.blocks Sh.H0 F)
                (fun i _ => (64 * M - (intOf i)).toNat)
              case atStart => exact ⟨0, Sh.H0, rfl, Nat.zero_le _, rfl, C0.out, C1.out, CB.out, rfl⟩
              case round =>
                obtain ⟨q, hv, rfl, hq, hvl, b0, b1, hb, hbl⟩ := hrel
                clear C0 C1 CB
                have C0 := Lib.hid b0
                have C1 := Lib.hid b1
                have CB := Lib.hid hb
                have HBL := Lib.hid hbl
                have HVL := Lib.hid hvl
                by_cases hqM : q < M
                · have hsp := (List.take_append_drop 64 (F.drop (64 * q))).symm
                  rw [List.drop_drop, show 64 * q + 64 = 64 * (q + 1) by omega] at hsp
                  have hxl : ((F.drop (64 * q)).take 64).length = 64 := by rw [List.length_take, List.length_drop, HFL.out]; omega
                  have hcut := fun W => run_cut TF F HTF.out.symm (64 * q) (by rw [HFL.out]; omega) W
                  rw [show ((64 * q : Nat) : Int) = 64 * (q : Int) by omega] at hcut
                  generalize (F.drop (64 * q)).take 64 = x at hsp hxl hcut
                  rw [hsp, Sh.blocks_step _ _ _ hxl, ← blk_eq] at hbl
                  have HC := Lib.hid (fun W => ref_block hv hvl (ba x) (by rw [ba_size]; exact hxl) W)
                  rw [ba_list] at HC
                  have HBL2 := Lib.hid hbl
                  have HWL := Lib.hid (blk_length hv x hvl)
                  obtain ⟨KK, hKK⟩ : ∃ K, Sh.K = K := ⟨_, rfl⟩
                  have hKl : KK.length = 64 := by rw [← hKK]; rfl
                  rw [hKK] at b1 HC
                  have HKK := Lib.hid hKK
                  have l0 : (loadVar 51 ⟨g, 0, none⟩).run Tryd.prog wr.drew = .ok (.agg (ru hv)) wr.drew := run_loadVar_row wr.drew g 51 51 (ru hv) (0, 0) _ b0.drew Tryd.underlying51 rfl (sz8_of hvl)
                  have l1 : (loadVar 64 ⟨g + 1, 0, none⟩).run Tryd.prog wr.drew = .ok (.agg (ru KK)) wr.drew := run_loadVar_row wr.drew (g + 1) 64 64 (ru KK) (0, 0) _ b1.drew Tryd.underlying64 rfl (by rw [ru_size, hKl]; exact words_size)
                  have qi : 64 * (q : Int) < (m : Int) + 8 := by omega
                  have qw : (m : Int) + 8 ≤ 100200 := by omega
                  have qw2 := IntWalk.i64_in (64 * (q : Int) + 64) (by omega)
                  clear hKK hsp hbl b0 b1 hb hvl hKl
                  go_wp2_with fail
                  refine wp_region_still_tail 7 (by kernel_rfl) (by kernel_rfl) ?_
                  simp only [List.take_succ_cons, List.take_zero, List.drop_succ_cons, List.drop_zero]
                  refine wpStill_load rfl 51 _ rfl g rfl _ l0 ?_
                  refine wpStill_load rfl 64 _ rfl (g + 1) rfl _ l1 ?_
                  clear l0 l1
                  repeat still_step
                  refine wpStill_nil ?_
                  change wpList _ _ _ _ _ wr.drew
                  go_wp2_with fail
                  refine (HC.out _).mono ?_
                  rintro e w4 ⟨rfl, hb4⟩
                  have e0 : Blk w4 g 51 (ru hv) := C0.out.drew.of (hb4.block _ C0.out.lt)
                  have E0 := Lib.hid e0
                  have E1 := Lib.hid (C1.out.drew.of (hb4.block _ C1.out.lt))
                  have EB := Lib.hid (Kept.below (CB.out.drew.trans (hb4.mono CB.out.size)) (Kept.setRow (S := fun b => b = g) (Kept.refl _ w4) (.inl rfl) (ru (blk hv x))) (fun y hy => by omega) (CB.out.drew.trans (hb4.mono CB.out.size)).size)
                  clear e0 hb4
                  go_wp2_with (refine wpList_store_row rfl 51 _ _ rfl g (ru (blk hv x)) rfl rfl 51 (ru hv) E0.out (sz8_of HWL.out) (by rw [ru_size, ru_size, HWL.out, HVL.out]) (ru_one _) (Hid.out ?_))
                  refine Lib.hid ?_
                  go_wp2_with fail
                  go_roundw
                  case rel => exact ⟨q + 1, blk hv x, by go_num, by omega, HWL.out, E0.out.row _, E1.out.rowFar (by omega) _, EB.out, HBL2.out⟩
                  case measure => simp [intOf]; omega
                · obtain rfl : q = M := by omega
                  rw [List.drop_eq_nil_of_le (by rw [HFL.out]; omega), Sh.blocks_low hv [] (by simp)] at hbl
                  have HD : Hid (dig L = Sh.out hv) := Lib.hid (by rw [dig_eq, hbl, HFP.out]; rfl)
                  obtain ⟨wB, hwB⟩ : ∃ x, x = wr := ⟨_, rfl⟩
                  have hgB : g + 1 < wB.heap.size := by rw [hwB]; exact C1.out.lt
                  subst hwB
                  have qi : ¬ (64 * (q : Int) < (m : Int) + 8) := by omega
                  clear b0 b1 hb hbl HBL
                  go_wp2_with fail
                  clear qi
                  go_loopw [11, 12] (fun v i wr => ∃ (k : Nat) (A' : Option Addr) (c' : Nat), i = .int .i64 (k : Int) ∧ k ≤ 8 ∧ v = .slice A' (Sh.out (hv.take k)).length c' ∧ wr.ownsRow wB.heap.size 5 1 v (Sh.out (hv.take k)).length (cb (Sh.out (hv.take k))) ∧ Below wB.heap.size wB wr)
                    (fun _ i _ => 8 - (intOf i).toNat)
                  case atStart => exact ⟨0, none, 0, rfl, by omega, rfl, World.ownsRow_nil _ _ _ _, Below.refl _ _⟩
                  case round =>
                    obtain ⟨k, A', c', rfl, hk, rfl, hown, hb⟩ := hrel
                    by_cases hlt : k < 8
                    · have hcg := (Blk.ru C0.out k (by rw [HVL.out]; exact hlt))
                      have ca : wr.cell? ⟨g, k, none⟩ = some (.int .u32 (R (hv.getD k 0))) := by rw [← hcg]; exact hb.cell (p := ⟨g, k, none⟩) (by show g < wB.heap.size; omega)
                      have HE := Lib.hid (out_take hv k (by rw [HVL.out]; exact hlt))
                      have HO := Lib.hid (cb_out4 (hv.getD k 0))
                      have hlen : (Sh.out (hv.take k)).length = 4 * k := by rw [Sh.out_length, List.length_take, HVL.out]; omega
                      have hlen2 : Hid (4 * k + 4 = (Sh.out (hv.take (k + 1))).length) := Lib.hid (by rw [Sh.out_length, List.length_take, HVL.out]; omega)
                      generalize hv.getD k 0 = x at ca HE HO
                      rw [hlen] at hown ⊢
                      have ag : (Value.slice A' (4 * k) c').ownBlock ≠ some g := fun h => by have := own_base hown h; omega
                      have hn63 : 4 * k + 4 ≤ maxLen := by unfold maxLen; omega
                      have hnb : (4 * k + 4) * 1 ≤ 140737488355328 := by omega
                      have hgw2 := hb.size
                      have Hown := Lib.hid (show wr.ownsRow wB.heap.size 5 1 (.slice A' (4 * k) c') (4 * k) (cb (Sh.out (hv.take k))) from hown)
                      have Hb := Lib.hid hb
                      have ki : (k : Int) < 8 := by omega
                      clear hlen
                      generalize Sh.out (hv.take k) = o at Hown HE
                      clear hown hb hcg
                      go_wp2_with fail
                      go_region_held3 (fun w' => w'.cell? ⟨g, k, none⟩ = some (.int .u32 (R x)))
                        (first | go_keep | (rw [hgrow.cell_far _ (by simp; omega) (Ne.symm ag)]; assumption))
                        ((refine step_append_lies _ (by rfl) _ _ _ (by rfl) wB.heap.size 5 i0 _ 1 1 Tryd.underlying27 hi hz0 hz1 hz2 rfl (by omega) (.slice A' (4 * k) c') (4 * k) (cb o) (by rfl) ((Hown.out.alloc _).drew) ⟨wr.heap.size, 0, none⟩ 4 4 [.int .u8 (R x / 16777216 % 256), .int .u8 (R x / 65536 % 256), .int .u8 (R x / 256 % 256), .int .u8 (R x % 256)] (by rfl) (by rfl) (World.news_of_block (cs := #[.int .u8 (R x / 16777216 % 256), .int .u8 (R x / 65536 % 256), .int .u8 (R x / 256 % 256), .int .u8 (R x % 256)]) (t := 5) (fr := (0, 0)) (heap_alloc_new wr _)) (by simp [Value.oneCell']) (by omega) hn63 hnb (by simp; omega) (wr.heap.size + 1) (by simp) ?_; intro g' cap w2 hown' hgrow hgo hlt'))
                      rw [← HO.out] at hown'
                      rw [← show cb (o ++ Sh.out4 x) = cb o ++ cb (Sh.out4 x) by simp [cb], ← HE.out] at hown'
                      have hown2 := Lib.hid hown'
                      have hK2 := Lib.hid (Kept.grown (S := fun b => wB.heap.size ≤ b) (Kept.drew (Kept.alloc (Kept.refl _ wr) _)) hgrow (fun b hb => .inl (own_base Hown.out (b := b) hb)))
                      have hHb := Lib.hid (Kept.below Hb.out hK2.out (fun _ h => h) Hb.out.size)
                      clear hown' hgrow
                      go_wp2_with fail
                      go_roundw
                      case rel => exact ⟨k + 1, _, _, by go_num, by omega, by rw [← hlen2.out], by rw [← hlen2.out]; exact hown2.out, hHb.out⟩
                      case measure => simp [intOf]; omega
                    · obtain rfl : k = 8 := by omega
                      rw [List.take_of_length_le (by rw [HVL.out]; exact Nat.le_refl 8)] at hown
                      have HCV := run_own_text hown
                      rw [List.take_of_length_le (by rw [HVL.out]; exact Nat.le_refl 8)]
                      have HBE := Lib.hid (CB.out.trans (hb.mono CB.out.size))
                      clear hown hb
                      go_wp2_with fail
                      go_ret
                      exact ⟨by rw [HD.out]; rfl, HBE.out⟩
end Go.Proofs.YthaejfbbefpojaaDoor
