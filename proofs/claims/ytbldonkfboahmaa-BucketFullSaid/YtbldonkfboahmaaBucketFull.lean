/-
  BucketFull: where there is no more room, a new key is refused, till one is full again. No condition.
-/
import Derived.Test.YtbldonkfboahmaaBcZ
import Derived.Test.YtbldonkfboahmaaTkT
namespace Go.Proofs.Ytbldonkfboahmaa.bucketFull
open Go.ChangeShapes Go.WideShapes Go.ChangeAt Go.RowKit
open Go.ChangeMaps (open_string shut_string)


/-! ### Pairs that the law makes -/
def prC (x : Int × Int) : List Value := [.int .i64 x.1, .int .i64 x.2]
def pcs (l : List (Int × Int)) : List Value := l.flatMap prC
theorem pcs_cons (x : Int × Int) (l : List (Int × Int)) : pcs (x :: l) = prC x ++ pcs l := by simp [pcs]
theorem pcs_append (l m : List (Int × Int)) : pcs (l ++ m) = pcs l ++ pcs m := by simp [pcs]
theorem pcs_one (x : Int × Int) : pcs [x] = prC x := by simp [pcs]
theorem pcs_length (l : List (Int × Int)) : (pcs l).length = l.length * 2 := by
  induction l with
  | nil => rfl
  | cons s l ih => rw [pcs_cons, List.length_append, ih, List.length_cons]; show 2 + l.length * 2 = _; omega
theorem pcs_cell (l : List (Int × Int)) : ∀ u ∈ pcs l, u.oneCell' = true := by
  intro u hu
  obtain ⟨s, _, h⟩ := List.mem_flatMap.1 hu
  simp only [prC, List.mem_cons, List.not_mem_nil, or_false] at h
  rcases h with rfl | rfl <;> rfl
theorem pcs_get (l : List (Int × Int)) (i k : Nat) (hi : i < l.length) (hk : k < 2) : (pcs l)[i * 2 + k]? = (prC l[i])[k]? := by
  induction l generalizing i with
  | nil => simp at hi
  | cons s l ih =>
    rw [pcs_cons]
    cases i with
    | zero =>
      rw [Nat.zero_mul, Nat.zero_add, List.getElem?_append_left (by show k < 2; exact hk)]
      rfl
    | succ i =>
      rw [List.getElem?_append_right (by show 2 ≤ _; omega), show (i + 1) * 2 + k - (prC s).length = i * 2 + k by show _ - 2 = _; omega, ih i (by simpa using hi)]
      rfl
theorem prs_of {S : Nat → Prop} {w : World} {A : Option Addr} {l : List (Int × Int)} (h : Lies S w A (pcs l)) : Prs w A l := fun i hi => by
  obtain ⟨a, rfl, hb, _, h0⟩ := h (i * 2 + 0) _ ((pcs_get l i 0 hi (by decide)).trans rfl)
  obtain ⟨a', e, _, _, h1⟩ := h (i * 2 + 1) _ ((pcs_get l i 1 hi (by decide)).trans rfl)
  injection e with e
  subst e
  rw [add_add _ _ _ (by decide)] at h1
  exact ⟨a, rfl, h0, h1, by rw [add_block]; exact hb⟩
theorem append_pair {base : Nat} {W : World} (hbase : base ≤ W.heap.size) {A : Option Addr} {n c : Nat} {xs : List (Int × Int)} (hown : W.ownsRow base 44 2 (.slice A n c) n (pcs xs)) (x : Int × Int) (hn : n ≤ 1000000) (ty : TypeId) :
    ∃ A' c' W', (Builtin.append_ #[22, 22] ty #[.slice A n c, .slice (some ⟨W.heap.size, 0, none⟩) 1 1]).run Try.prog (W.alloc (.cells #[.int .i64 x.1, .int .i64 x.2] 44)) = .ok (.slice A' (n + 1) c') W' ∧
      W'.ownsRow base 44 2 (.slice A' (n + 1) c') (n + 1) (pcs (xs ++ [x])) ∧ ∀ w0, Below base w0 W → Below base w0 W' := by
  obtain ⟨i0, hi, hz, hs, hb⟩ := info_two
  have hblk := Blk.new W 44 #[.int .i64 x.1, .int .i64 x.2]
  have hA : Lies (fun _ => False) (W.alloc (.cells #[.int .i64 x.1, .int .i64 x.2] 44)) (some ⟨W.heap.size, 0, none⟩) (pcs [x]) := fun j u hj => by
    refine ⟨_, rfl, hblk.lt, fun h => h, ?_⟩
    rw [Addr.add_mid, Nat.zero_add, hblk.cell, ← Array.getElem?_toList, ← hj, pcs_one]
    rfl
  obtain ⟨A', c', W', hr, ho, hg⟩ := run_append_rows (P := Try.prog) (W.alloc (.cells #[.int .i64 x.1, .int .i64 x.2] 44)) base 2 (by decide) 22 ty 44 i0 _ 16 Try.underlying22 hi hz hs hb rfl (.slice A n c) n (pcs xs) (own_on hown ((Below.refl _ W).alloc (Nat.le_refl _) _)) (some ⟨W.heap.size, 0, none⟩) 1 1 (pcs [x]) (pcs_length [x]) hA (pcs_cell [x]) (by unfold maxLen; omega) (by omega) (by simp; omega)
  rw [← pcs_append] at ho
  exact ⟨A', c', W', hr, ho, fun w0 h0 => (h0.alloc hbase _).grown hg (by simp; omega) (fun j hj => own_base hown hj)⟩

/-! ### What the law tells of -/
def atK (zs : List Int) (i : Nat) : Nat := lo (zs.getD i 0) 128
def leastK (zs : List Int) (k : Nat) : Nat := (List.range k).foldl (fun m i => min m (atK zs i)) 1000
theorem least_more (zs : List Int) (k : Nat) : leastK zs (k + 1) = min (leastK zs k) (atK zs k) := by
  unfold leastK
  rw [List.range_succ, List.foldl_append]
  rfl
theorem least_le (zs : List Int) (k : Nat) : leastK zs k ≤ 1000 ∧ (∀ i, i < k → leastK zs k ≤ atK zs i) ∧ ((∃ i, i < k ∧ leastK zs k = atK zs i) ∨ leastK zs k = 1000) := by
  induction k with
  | zero => exact ⟨Nat.le_refl _, fun i hi => absurd hi (by omega), .inr rfl⟩
  | succ k ih =>
    obtain ⟨h0, h1, h2⟩ := ih
    rw [least_more]
    refine ⟨by omega, fun i hi => ?_, ?_⟩
    · rcases Nat.lt_or_ge i k with h | h
      · have := h1 i h; omega
      · have e : i = k := by omega
        subst e; omega
    · by_cases hc : leastK zs k ≤ atK zs k
      · rcases h2 with ⟨i, hi, e⟩ | e
        · exact .inl ⟨i, by omega, by omega⟩
        · exact .inr (by omega)
      · exact .inl ⟨k, by omega, by omega⟩
def pairsK (zs : List Int) (k : Nat) : List (Int × Int) := (List.range k).map fun i => (0, zs.getD i 0)
theorem pairsK_more (zs : List Int) (k : Nat) : pairsK zs (k + 1) = pairsK zs k ++ [(0, zs.getD k 0)] := by
  unfold pairsK
  rw [List.range_succ, List.map_append]
  rfl
theorem pairsK_length (zs : List Int) (k : Nat) : (pairsK zs k).length = k := by simp [pairsK]
def ZZ : ByteArray := ⟨#[122, 122]⟩
theorem ZZ_ne : ¬ ZZ = ⟨#[]⟩ := ba_ne (a := [122, 122]) (by decide)
theorem row_mem {zs : List Int} {b : Bb} (h : b ∈ rowsK (pairsK zs 24) 24) : ∃ i, i < 24 ∧ b = ⟨rk i, 0, atK zs i⟩ := by
  obtain ⟨i, hi, rfl⟩ := rows_mem h
  refine ⟨i, hi, ?_⟩
  unfold rowOf
  rw [List.getD_eq_getElem?_getD, List.getElem?_eq_getElem (by rw [pairsK_length]; exact hi)]
  unfold pairsK
  rw [Option.getD_some, List.getElem_map, List.getElem_range]
  rfl
theorem row_mem' (zs : List Int) (i : Nat) (hi : i < 24) : (⟨rk i, 0, atK zs i⟩ : Bb) ∈ rowsK (pairsK zs 24) 24 := by
  have : rowOf (pairsK zs 24) i = ⟨rk i, 0, atK zs i⟩ := by
    unfold rowOf
    rw [List.getD_eq_getElem?_getD, List.getElem?_eq_getElem (by rw [pairsK_length]; exact hi)]
    unfold pairsK
    rw [Option.getD_some, List.getElem_map, List.getElem_range]
    rfl
  rw [← this]
  exact List.mem_map.2 ⟨i, List.mem_range.2 hi, rfl⟩
theorem rk_ne_zz (i : Nat) (_hi : i < 36) : ¬ rk i = ZZ := fun e => by
  have h : (rk i).size = ZZ.size := by rw [e]
  unfold rk at h
  rw [ba_size, List.length_take] at h
  have h2 : ZZ.size = 2 := rfl
  omega
theorem no_zz {L : List Bb} (h : ∀ b ∈ L, ¬ b.key = ZZ) : Bk.find L ZZ = none := by
  unfold Bk.find
  rw [List.find?_eq_none]
  intro b hb e
  exact h b hb (by simpa using e)
theorem full_math (zs : List Int) (t : Nat) : (t < leastK zs 24 + 100 → takeB (rowsK (pairsK zs 24) 24) ZZ t = (rowsK (pairsK zs 24) 24, 15)) ∧
    (¬ t < leastK zs 24 + 100 → (takeB (rowsK (pairsK zs 24) 24) ZZ t).2 = 0 ∧ Bk.left (takeB (rowsK (pairsK zs 24) 24) ZZ t).1 ZZ t = 3) := by
  obtain ⟨hl0, hl1, hl2⟩ := least_le zs 24
  have hg := rows_gd (pairsK zs 24) 24 (Nat.le_refl _)
  have hlen := rowsK_length (pairsK zs 24) 24
  have hkey : ∀ b ∈ rowsK (pairsK zs 24) 24, ¬ b.key = ZZ := fun b hb => by
    obtain ⟨i, hi, rfl⟩ := row_mem hb
    exact rk_ne_zz i (by omega)
  have hleft : Bk.left (rowsK (pairsK zs 24) 24) ZZ t = 4 := by
    unfold Bk.left
    rw [no_zz hkey]
  have h0 : ¬ (ZZ = ⟨#[]⟩ ∨ Bk.left (rowsK (pairsK zs 24) 24) ZZ t = 0) := by
    rw [hleft]
    rintro (h | h)
    · exact ZZ_ne h
    · cases h
  have hhas : has (Bk.sweep (rowsK (pairsK zs 24) 24) t) ZZ = false := by
    unfold has
    rw [no_zz (fun b hb => hkey b ((Bk.sweep_sub _ t).subset hb))]
    rfl
  constructor
  · intro ht
    have hs : Bk.sweep (rowsK (pairsK zs 24) 24) t = rowsK (pairsK zs 24) 24 := by
      unfold Bk.sweep
      rw [List.filter_eq_self]
      intro b hb
      obtain ⟨i, hi, rfl⟩ := row_mem hb
      have := hl1 i hi
      rw [decide_eq_true_eq]
      unfold Bk.left1
      show min 4 (0 + (t - atK zs i) / 25) < 4
      omega
    exact take_b h0 hhas (by rw [hs, hlen]; exact Nat.le_refl _)
  · intro ht
    have hi : ∃ i, i < 24 ∧ leastK zs 24 = atK zs i := by
      rcases hl2 with h | h
      · exact h
      · have h1 := hl1 0 (by decide)
        have h2 : atK zs 0 < 128 := lo_lt _ 128 (by decide)
        omega
    obtain ⟨i, hi, e⟩ := hi
    have hmem := row_mem' zs i hi
    have hlt : (Bk.sweep (rowsK (pairsK zs 24) 24) t).length < 24 := by
      have hle := List.length_filter_le (fun b => decide (Bk.left1 b t < 4)) (rowsK (pairsK zs 24) 24)
      rcases Nat.lt_or_ge (Bk.sweep (rowsK (pairsK zs 24) 24) t).length 24 with h | h
      · exact h
      · exfalso
        have heq : (Bk.sweep (rowsK (pairsK zs 24) 24) t).length = (rowsK (pairsK zs 24) 24).length := by unfold Bk.sweep at h ⊢; omega
        have hall := List.length_filter_eq_length_iff.1 heq _ hmem
        rw [decide_eq_true_eq] at hall
        unfold Bk.left1 at hall
        have : min 4 (0 + (t - atK zs i) / 25) < 4 := hall
        omega
    rw [take_c h0 (fun e => by omega)]
    refine ⟨rfl, ?_⟩
    have := Bk.left_taken ordK hg.vl.rise ZZ t (by rw [hleft]; decide)
    rw [hleft] at this
    exact this
set_option maxRecDepth 100000 in
set_option maxHeartbeats 8000000 in
theorem walk (zs : List Int) (hz : zs.length = 24) (q : Int) (w : World) :
    Calls Try.prog 8 #[.agg (zs.map (Value.int .i64)).toArray, .int .i64 q] w fun e w' => e = .returned (.bool true) ∧ Below w.heap.size w w' := by
  have ha := and127 q
  have hlo := lo_lt q 128 (by decide)
  obtain ⟨t, ht⟩ : ∃ t, lo q 128 = t := ⟨_, rfl⟩
  rw [ht] at ha hlo
  have hb0 : Below w.heap.size w (w.alloc (.cells (zs.map (Value.int .i64)).toArray 49)) := (Below.refl _ w).alloc (Nat.le_refl _) _
  have hx0 := Blk.new w 49 (zs.map (Value.int .i64)).toArray
  obtain ⟨ARR, hARR⟩ : ∃ a, (zs.map (Value.int .i64)).toArray = a := ⟨_, rfl⟩
  have HARR : Hid (∀ i, i < 24 → ARR[i]? = some (.int .i64 (zs.getD i 0))) := Lib.hid (fun i hi => by
    rw [← hARR, List.getD_eq_getElem?_getD, List.getElem?_eq_getElem (by omega)]
    simp [hz, hi])
  rw [hARR] at hb0 hx0 ⊢
  have HBX := Lib.hid hx0
  have HB0 := Lib.hid hb0
  obtain ⟨hls, hl1, hl2⟩ := least_le zs 24
  obtain ⟨f1, f2⟩ := full_math zs t
  obtain ⟨g1, g2⟩ := full_math zs (leastK zs 24 + 100)
  have G2 := Lib.hid (g2 (by omega))
  have hgd := rows_gd (pairsK zs 24) 24 (Nat.le_refl _)
  have hck := gd_check hgd
  have hml := M_length (rowsK (pairsK zs 24) 24)
  have hrl := rowsK_length (pairsK zs 24) 24
  have hpl := pairsK_length zs 24
  have HR : Hid (∀ B c W, Lies (fun _ => False) W B (pcs (pairsK zs 24)) → Calls Try.prog 11 #[.slice B 24 c] W fun e w' => (∃ A' c', e = .returned (.slice A' 24 c') ∧ 24 ≤ c' ∧ Lies (fun _ => False) w' A' (bus (M (rowsK (pairsK zs 24) 24)))) ∧ Below W.heap.size W w') := Lib.hid (fun B c W hL => by
    have h := rows_few B c (pairsK zs 24) (by omega) W (prs_of hL)
    rw [hpl, hrl] at h
    exact h)
  obtain ⟨RL, hRL⟩ : ∃ RL, rowsK (pairsK zs 24) 24 = RL := ⟨_, rfl⟩
  rw [hRL] at HR hgd hck hml hrl f1 f2 G2
  rw [hrl] at hml
  obtain ⟨ls, hlsn⟩ : ∃ n, leastK zs 24 = n := ⟨_, rfl⟩
  have HLS := Lib.hid hlsn
  rw [hlsn] at f1 f2 G2 hls
  have HCK : Hid (∀ B d W, Lies (fun _ => False) W B (bus (M RL)) → Calls Try.prog 14 #[.slice B 24 d] W fun e w' => e = .returned (.bool true) ∧ Below W.heap.size W w') := Lib.hid (fun B d W hL => by
    have h := Check_any B d (M RL) (by omega) W hL
    rw [hck, hml] at h
    exact h)
  have HTT : Hid (∀ (now : Nat) B d W, now ≤ 10000 → 24 ≤ d → Lies (fun _ => False) W B (bus (M RL)) → Calls Try.prog 19 #[.slice B 24 d, .string ⟨#[122, 122]⟩, .int .i64 (now : Int)] W fun e w' => (∃ v, e = .returned (.tuple #[v, .int .i64 ((takeB RL ZZ now).2 : Int)]) ∧ Row (fun _ => False) (M (takeB RL ZZ now).1) v w') ∧ Below W.heap.size W w') := Lib.hid (fun now B d W hn hd hL => by
    have h := Take_any B d RL (by rw [hrl]; exact hd) hgd ZZ now (by omega) W hL
    rw [hrl] at h
    exact h)
  obtain ⟨nx, hnx⟩ : ∃ n, ls + 100 = n := ⟨_, rfl⟩
  have hv1 : IntKind.i64.wrap ((ls : Int) + 100) = (nx : Int) := by rw [IntKind.wrap_i64]; omega
  rw [hnx] at f1 f2 G2
  have gt1 := gd_take hgd ZZ nx (by omega)
  have gt0 := gd_take hgd ZZ t (by omega)
  have H2 := Lib.hid (fun B d W hd hL => HTT.out nx B d W (by omega) hd hL)
  rw [G2.out.1] at H2
  have HLF : Hid (∀ B d W, Lies (fun _ => False) W B (bus (M (takeB RL ZZ nx).1)) → Calls Try.prog 22 #[.slice B (takeB RL ZZ nx).1.length d, .string ⟨#[122, 122]⟩, .int .i64 (nx : Int)] W fun e w' => e = .returned (.int .i64 3) ∧ Below W.heap.size W w') := Lib.hid (fun B d W hL => by
    have h := Left_any B d (takeB RL ZZ nx).1 gt1.vl ZZ nx (by omega) W hL
    rw [G2.out.2] at h
    exact h)
  have hy24 := gt1.len
  generalize (takeB RL ZZ nx).1 = Y at H2 HLF hy24
  have hyi : ((Y.length : Int) ≤ 24) := by omega
  have H1 := Lib.hid (fun B d W hd hL => HTT.out t B d W (by omega) hd hL)
  have hx24 := gt0.len
  have hmx := M_length (takeB RL ZZ t).1
  have HSM : Hid (∀ v u W, Row (fun _ => False) (M (takeB RL ZZ t).1) v W → Row (fun _ => False) (M RL) u W → Calls Try.prog 21 #[v, u] W fun e w' => e = .returned (.bool (decide (M (takeB RL ZZ t).1 = M RL))) ∧ Below W.heap.size W w') := Lib.hid (fun v u W hv hu => by
    obtain ⟨A', c', rfl, _, hA'⟩ := hv
    obtain ⟨B', d', rfl, _, hB'⟩ := hu
    exact Same_any A' B' c' d' _ _ (by omega) (by omega) W hA' hB')
  have hfull : ∃ (X : List Bb) (code : Nat) (sm : Bool), takeB RL ZZ t = (X, code) ∧ decide (M X = M RL) = sm ∧ ((t < nx ∧ code = 15 ∧ sm = true) ∨ (¬ t < nx ∧ code = 0)) := by
    by_cases hc : t < nx
    · rw [f1 hc]
      exact ⟨_, _, _, rfl, rfl, .inl ⟨hc, rfl, by simp⟩⟩
    · exact ⟨(takeB RL ZZ t).1, (takeB RL ZZ t).2, _, rfl, rfl, .inr ⟨hc, (f2 hc).1⟩⟩
  obtain ⟨X, code, sm, hX, hsm, hcase⟩ := hfull
  rw [hX] at H1 HSM
  simp only at H1 HSM
  rw [hsm] at HSM
  have HX24 : Hid (X.length ≤ 24) := Lib.hid (by rw [hX] at hx24; exact hx24)
  have HRLL : Hid (RL.length = 24) := Lib.hid hrl
  clear hb0 hx0 ht hARR hl1 hl2 f1 f2 g1 g2 hgd hck hRL hlsn hnx gt1 gt0 hx24 hmx hX hsm hml hrl hpl
  rcases hcase with ⟨hc, rfl, rfl⟩ | ⟨hc, rfl⟩
  · have hci : ((t : Int) < (nx : Int)) := by omega
    go_enter Try.func8, Try.ntmps8
    go_wp2_with fail
    refine (awake_any _).mono ?_
    rintro e w1 ⟨rfl, hb1⟩
    have HB1 := Lib.hid (HB0.out.trans (hb1.mono HB0.out.size))
    have HT1 := Lib.hid (HBX.out.of (hb1.block _ HBX.out.lt))
    clear hb1
    obtain ⟨gx, hgx⟩ : ∃ g, w.heap.size = g := ⟨_, rfl⟩
    rw [hgx] at HT1
    simp only [hgx]
    go_wp2_with fail
    go_loopw [6, 7, 8] (fun v m ii wr => ∃ (k : Nat) (B : Option Addr) (c : Nat), v = .slice B k c ∧ m = .int .i64 (leastK zs k : Int) ∧ ii = .int .i64 (k : Int) ∧ k ≤ 24 ∧ wr.ownsRow w1.heap.size 44 2 (.slice B k c) k (pcs (pairsK zs k)) ∧ Below w1.heap.size w1 wr) (fun _ _ ii _ => 24 - (intOf ii).toNat)
    case atStart => exact ⟨0, none, 0, rfl, rfl, rfl, by omega, ⟨rfl, .inl ⟨rfl, rfl⟩⟩, Below.refl _ w1⟩
    case round =>
      obtain ⟨k, B, c, rfl, rfl, rfl, hk, hown, hB⟩ := hrel
      have HOW := Lib.hid hown
      have HBW := Lib.hid hB
      clear hown hB
      by_cases hlt : k < 24
      · have hki : (k : Int) < 24 := by omega
        have HT := Lib.hid (HT1.out.of (HBW.out.block _ HT1.out.lt))
        have hcx : wr.cell? ⟨gx, k, none⟩ = some (.int .i64 (zs.getD k 0)) := (HT.out.cell k).trans (HARR.out k hlt)
        have hadd : (⟨gx, 0, none⟩ : Addr).add k = ⟨gx, k, none⟩ := by rw [Addr.add_mid, Nat.zero_add]
        have hmask := and127 (zs.getD k 0)
        have hat : lo (zs.getD k 0) 128 = atK zs k := rfl
        rw [hat] at hmask
        have HLM := Lib.hid (least_more zs k)
        have HPM := Lib.hid (pairsK_more zs k)
        obtain ⟨B3, c3, w3, hrun, hown3, hbel⟩ := append_pair HBW.out.size HOW.out (0, zs.getD k 0) (by omega) 22
        rw [← HPM.out] at hown3
        have HRU := Lib.hid hrun
        have HO3 := Lib.hid hown3
        have HB3 := Lib.hid (hbel w1 HBW.out)
        have hcx3 : w3.cell? ⟨gx, k, none⟩ = some (.int .i64 (zs.getD k 0)) := ((HT1.out.of (HB3.out.block _ HT1.out.lt)).cell k).trans (HARR.out k hlt)
        clear hrun hown3 hbel hat
        generalize zs.getD k 0 = z at hcx hcx3 hmask HRU
        generalize atK zs k = at_ at hmask HLM
        go_wp2_with (at_builtin; refine wpList_append_run rfl (.tmp 22) (.tmp 27) 22 22 rfl _ _ _ rfl rfl HRU.out ?_)
        go_roundw
        case rel => exact ⟨k + 1, _, _, rfl, by rw [HLM.out]; first | rfl | (refine congrArg (Value.int .i64) ?_; omega), by go_num, by omega, HO3.out, HB3.out⟩
        case measure => simp [intOf]; omega
      · obtain rfl : k = 24 := by omega
        have hlsz := HLS.out
        simp only [hlsz]
        have HL1 := Lib.hid (lies_made (S := fun _ => False) HOW.out (fun _ _ h => h))
        have HBA := Lib.hid (HB1.out.trans (HBW.out.mono HB1.out.size))
        clear hlsz
        go_wp2_with fail
        refine (HR.out _ _ wr HL1.out).mono ?_
        rintro e w2 ⟨⟨A2, c2, rfl, hc2, hL2⟩, hb2⟩
        have HB2 := Lib.hid (HBA.out.trans (hb2.mono HBA.out.size))
        have HL2 := Lib.hid hL2
        clear hb2 hL2
        go_wp2_with fail
        refine (H1.out A2 c2 w2 hc2 HL2.out).mono ?_
        rintro e w3 ⟨⟨v3, rfl, hr3⟩, hb3⟩
        have HB3 := Lib.hid (HB2.out.trans (hb3.mono HB2.out.size))
        have HL3 := Lib.hid (HL2.out.below hb3)
        have HR3 := Lib.hid hr3
        clear hb3 hr3
        go_wp2_with fail
        refine (H2.out A2 c2 w3 hc2 HL3.out).mono ?_
        rintro e w4 ⟨⟨v4, rfl, hr4⟩, hb4⟩
        have HB4 := Lib.hid (HB3.out.trans (hb4.mono HB3.out.size))
        have HL4 := Lib.hid (HL3.out.below hb4)
        have HR4 := Lib.hid (HR3.out.below hb4)
        obtain ⟨A4, c4, rfl, hc4, hL4⟩ := hr4
        simp only [M_length]
        have HM4 := Lib.hid hL4
        have HSS := Lib.hid (HSM.out v3 (.slice A2 24 c2) w4 HR4.out ⟨A2, c2, by rw [M_length]; exact congrArg (fun n => Value.slice A2 n c2) HRLL.out.symm, by rw [M_length, HRLL.out]; exact hc2, HL4.out⟩)
        clear hb4 hL4 hc4
        go_wp2_with fail
        refine HSS.out.mono ?_
        rintro e w5 ⟨rfl, hb5⟩
        have HB5 := Lib.hid (HB4.out.trans (hb5.mono HB4.out.size))
        have HL5 := Lib.hid (HL4.out.below hb5)
        have HM5 := Lib.hid (HM4.out.below hb5)
        clear hb5
        go_wp2_with fail
        refine (HCK.out A2 c2 w5 HL5.out).mono ?_
        rintro e w6 ⟨rfl, hb6⟩
        have HB6 := Lib.hid (HB5.out.trans (hb6.mono HB5.out.size))
        have HM6 := Lib.hid (HM5.out.below hb6)
        clear hb6
        go_wp2_with fail
        refine (HLF.out A4 c4 w6 HM6.out).mono ?_
        rintro e w7 ⟨rfl, hb7⟩
        have HB7 := Lib.hid (HB6.out.trans (hb7.mono HB6.out.size))
        clear hb7
        go_wp2_with fail
        go_ret
        exact ⟨rfl, HB7.out⟩
  · have hci : ¬ ((t : Int) < (nx : Int)) := by omega
    go_enter Try.func8, Try.ntmps8
    go_wp2_with fail
    refine (awake_any _).mono ?_
    rintro e w1 ⟨rfl, hb1⟩
    have HB1 := Lib.hid (HB0.out.trans (hb1.mono HB0.out.size))
    have HT1 := Lib.hid (HBX.out.of (hb1.block _ HBX.out.lt))
    clear hb1
    obtain ⟨gx, hgx⟩ : ∃ g, w.heap.size = g := ⟨_, rfl⟩
    rw [hgx] at HT1
    simp only [hgx]
    go_wp2_with fail
    go_loopw [6, 7, 8] (fun v m ii wr => ∃ (k : Nat) (B : Option Addr) (c : Nat), v = .slice B k c ∧ m = .int .i64 (leastK zs k : Int) ∧ ii = .int .i64 (k : Int) ∧ k ≤ 24 ∧ wr.ownsRow w1.heap.size 44 2 (.slice B k c) k (pcs (pairsK zs k)) ∧ Below w1.heap.size w1 wr) (fun _ _ ii _ => 24 - (intOf ii).toNat)
    case atStart => exact ⟨0, none, 0, rfl, rfl, rfl, by omega, ⟨rfl, .inl ⟨rfl, rfl⟩⟩, Below.refl _ w1⟩
    case round =>
      obtain ⟨k, B, c, rfl, rfl, rfl, hk, hown, hB⟩ := hrel
      have HOW := Lib.hid hown
      have HBW := Lib.hid hB
      clear hown hB
      by_cases hlt : k < 24
      · have hki : (k : Int) < 24 := by omega
        have HT := Lib.hid (HT1.out.of (HBW.out.block _ HT1.out.lt))
        have hcx : wr.cell? ⟨gx, k, none⟩ = some (.int .i64 (zs.getD k 0)) := (HT.out.cell k).trans (HARR.out k hlt)
        have hadd : (⟨gx, 0, none⟩ : Addr).add k = ⟨gx, k, none⟩ := by rw [Addr.add_mid, Nat.zero_add]
        have hmask := and127 (zs.getD k 0)
        have hat : lo (zs.getD k 0) 128 = atK zs k := rfl
        rw [hat] at hmask
        have HLM := Lib.hid (least_more zs k)
        have HPM := Lib.hid (pairsK_more zs k)
        obtain ⟨B3, c3, w3, hrun, hown3, hbel⟩ := append_pair HBW.out.size HOW.out (0, zs.getD k 0) (by omega) 22
        rw [← HPM.out] at hown3
        have HRU := Lib.hid hrun
        have HO3 := Lib.hid hown3
        have HB3 := Lib.hid (hbel w1 HBW.out)
        have hcx3 : w3.cell? ⟨gx, k, none⟩ = some (.int .i64 (zs.getD k 0)) := ((HT1.out.of (HB3.out.block _ HT1.out.lt)).cell k).trans (HARR.out k hlt)
        clear hrun hown3 hbel hat
        generalize zs.getD k 0 = z at hcx hcx3 hmask HRU
        generalize atK zs k = at_ at hmask HLM
        go_wp2_with (at_builtin; refine wpList_append_run rfl (.tmp 22) (.tmp 27) 22 22 rfl _ _ _ rfl rfl HRU.out ?_)
        go_roundw
        case rel => exact ⟨k + 1, _, _, rfl, by rw [HLM.out]; first | rfl | (refine congrArg (Value.int .i64) ?_; omega), by go_num, by omega, HO3.out, HB3.out⟩
        case measure => simp [intOf]; omega
      · obtain rfl : k = 24 := by omega
        have hlsz := HLS.out
        simp only [hlsz]
        have HL1 := Lib.hid (lies_made (S := fun _ => False) HOW.out (fun _ _ h => h))
        have HBA := Lib.hid (HB1.out.trans (HBW.out.mono HB1.out.size))
        clear hlsz
        go_wp2_with fail
        refine (HR.out _ _ wr HL1.out).mono ?_
        rintro e w2 ⟨⟨A2, c2, rfl, hc2, hL2⟩, hb2⟩
        have HB2 := Lib.hid (HBA.out.trans (hb2.mono HBA.out.size))
        have HL2 := Lib.hid hL2
        clear hb2 hL2
        go_wp2_with fail
        refine (H1.out A2 c2 w2 hc2 HL2.out).mono ?_
        rintro e w3 ⟨⟨v3, rfl, hr3⟩, hb3⟩
        have HB3 := Lib.hid (HB2.out.trans (hb3.mono HB2.out.size))
        have HL3 := Lib.hid (HL2.out.below hb3)
        have HR3 := Lib.hid hr3
        clear hb3 hr3
        go_wp2_with fail
        refine (H2.out A2 c2 w3 hc2 HL3.out).mono ?_
        rintro e w4 ⟨⟨v4, rfl, hr4⟩, hb4⟩
        have HB4 := Lib.hid (HB3.out.trans (hb4.mono HB3.out.size))
        have HL4 := Lib.hid (HL3.out.below hb4)
        have HR4 := Lib.hid (HR3.out.below hb4)
        obtain ⟨A4, c4, rfl, hc4, hL4⟩ := hr4
        simp only [M_length]
        have HM4 := Lib.hid hL4
        have HSS := Lib.hid (HSM.out v3 (.slice A2 24 c2) w4 HR4.out ⟨A2, c2, by rw [M_length]; exact congrArg (fun n => Value.slice A2 n c2) HRLL.out.symm, by rw [M_length, HRLL.out]; exact hc2, HL4.out⟩)
        clear hb4 hL4 hc4
        go_wp2_with fail
        refine HSS.out.mono ?_
        rintro e w5 ⟨rfl, hb5⟩
        have HB5 := Lib.hid (HB4.out.trans (hb5.mono HB4.out.size))
        have HL5 := Lib.hid (HL4.out.below hb5)
        have HM5 := Lib.hid (HM4.out.below hb5)
        clear hb5
        go_wp2_with fail
        refine (HCK.out A2 c2 w5 HL5.out).mono ?_
        rintro e w6 ⟨rfl, hb6⟩
        have HB6 := Lib.hid (HB5.out.trans (hb6.mono HB5.out.size))
        have HM6 := Lib.hid (HM5.out.below hb6)
        clear hb6
        go_wp2_with fail
        refine (HLF.out A4 c4 w6 HM6.out).mono ?_
        rintro e w7 ⟨rfl, hb7⟩
        have HB7 := Lib.hid (HB6.out.trans (hb7.mono HB6.out.size))
        clear hb7
        go_wp2_with fail
        go_ret
        exact ⟨rfl, HB7.out⟩

/-! ### The row -/
theorem contract (H : Type) (enc : TypeId × Value → H) (W : World) (base : Nat) (args : Array Value) (ds gs : List (DataW H)) (before : List MemPlace)
    (hval : ∀ (j : Nat) t v, Try.f8.params[j]? = some t → args[j]? = some v → Value.okWide Try.prog W .any base t v)
    (hW : DataW.Whole enc Try.prog Try.f8.params.toList Rows.bucketFullSpec.vars false W args.toList ds gs before) :
    Calls Try.prog 8 args W fun e W' => ∃ v, e = .returned v ∧ Rows.bucketFullSpec.post enc Try.prog Try.f8 false true false false W args v W' := by
  have hW' := hW
  obtain ⟨p, q, hA0, hV, rfl, hfz, hnd⟩ := hW
  have hA : DataW.TrodAll enc Try.prog W 0 (fun _ => true) true Try.f8.params.toList args.toList ds p := hA0
  rw [Try.params8] at hA hval
  obtain ⟨v0, vs0, d0, ds0, p0, q0, hargs, rfl, rfl, h0, r0⟩ := trodAll_cons hA
  obtain ⟨v1, vs1, d1, ds1, p1, q1, rfl, rfl, rfl, h1, r1⟩ := trodAll_cons r0
  obtain ⟨rfl, rfl, rfl⟩ := trodAll_nil r1
  obtain rfl : args = #[v0, v1] := by cases args; simp_all
  obtain ⟨rfl, rfl⟩ := trodVars_none hV
  refine law_contract (tb := 4) laidOut (by kernel_rfl) rfl (by kernel_rfl) Try.underlying4 rfl hW' ?_
  clear hA0 hW' hA
  obtain ⟨zs0, rfl, hz0, _⟩ := open_array Try.underlying49 Try.underlying3 cells_i (by kernel_rfl) (hval 0 49 v0 rfl rfl) h0
  obtain ⟨a1, rfl, rfl, rfl, w1⟩ := open_int Try.underlying3 (hval 1 3 v1 rfl rfl) h1
  exact walk zs0 hz0 a1 W

set_option maxRecDepth 100000 in
theorem lifted (os : Os) (started : os.Started) (H : Type) (enc : TypeId × Value → H) :
    ReturnsInHanded {} Try.checked os 8 .any (Rows.bucketFullSpec.pre6 enc Try.prog Try.f8 Rows.bucketFullRow.domain false) (Rows.bucketFullSpec.post enc Try.prog Try.f8 false true false false) := by
  refine returnsInHanded_of_change (C := Try.checked) own started (by kernel_rfl) Try.func8
    (ChangeSpec.witness6 (enc := enc) (C := Try.checked) false ⟨#[], #[.agg #[.int .i64 0, .int .i64 0, .int .i64 0, .int .i64 0, .int .i64 0, .int .i64 0, .int .i64 0, .int .i64 0, .int .i64 0, .int .i64 0, .int .i64 0, .int .i64 0, .int .i64 0, .int .i64 0, .int .i64 0, .int .i64 0, .int .i64 0, .int .i64 0, .int .i64 0, .int .i64 0, .int .i64 0, .int .i64 0, .int .i64 0, .int .i64 0], .int .i64 0], []⟩ 8 (by kernel_rfl) (by kernel_rfl) (by kernel_rfl) (by kernel_rfl)) ?_
  intro W base args ds gs before hval hW _ _
  exact contract H enc W base args ds gs before hval hW

/-- THE STATEMENT. -/
theorem said : Rows.BucketFullSaid :=
  OpenClaim.holds_of_wide 8 Try.f8 rfl rfl rfl rfl rfl rfl rfl ⟨rfl, rfl, rfl, rfl, rfl⟩ rfl rfl rfl rfl rfl (by kernel_rfl) Try.func8 (by kernel_rfl)
    (of_decide_eq_true (by kernel_rfl)) (by unfold Func.isWrapper; first | (rw [if_pos (by decide +kernel)]; kernel_rfl) | (rw [if_neg (by decide +kernel)]; exact ⟨rfl, rfl⟩))
    (fun os started H enc _ => lifted os started H enc)
#print axioms said
end Go.Proofs.Ytbldonkfboahmaa.bucketFull
