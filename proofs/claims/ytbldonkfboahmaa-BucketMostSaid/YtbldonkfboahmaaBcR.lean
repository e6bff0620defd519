/-
  Contracts of bucket.Sweep and Most, of the document's Sweep, Most and Same; one bucket appended to a row of the call's own. Condition: rows that may be, of at most 1000 buckets (Same: any of at most 1000000); times of at most 2000000000000 (Most: any ticks).
-/
import Derived.Test.YtbldonkfboahmaaBcQ
namespace Go.Proofs.Ytbldonkfboahmaa
open Go.RowKit

theorem own_on {w w' : World} {base : Nat} {e : TypeId} {size n : Nat} {v : Value} {xs : List Value} (h : w.ownsRow base e size v n xs) (hb : Below w.heap.size w w') : w'.ownsRow base e size v n xs :=
  own_of h (fun b hk => hb.block b (own_lt h hk))
/-- One bucket, from a literal, appended to a row of the call's own. -/
theorem append_one {base : Nat} {W : World} (hbase : base ≤ W.heap.size) {A : Option Addr} {n c : Nat} {xs : List Bu} (hown : W.ownsRow base 54 3 (.slice A n c) n (bus xs)) (s : Bu) (hn : n ≤ 1000000) (ty : TypeId) :
    ∃ A' c' W', (Builtin.append_ #[23, 23] ty #[.slice A n c, .slice (some ⟨W.heap.size, 0, none⟩) 1 1]).run Try.prog (W.alloc (.cells #[.string s.key, .int .i64 s.left, .int .i64 s.at_] 54)) = .ok (.slice A' (n + 1) c') W' ∧
      W'.ownsRow base 54 3 (.slice A' (n + 1) c') (n + 1) (bus (xs ++ [s])) ∧ ∀ w0, Below base w0 W → Below base w0 W' := by
  obtain ⟨i0, hi, hz, hs, hb⟩ := info_bu
  have hblk := Blk.new W 54 (buC s).toArray
  rw [bu_row] at hblk
  have hA : Lies (fun _ => False) (W.alloc (.cells #[.string s.key, .int .i64 s.left, .int .i64 s.at_] 54)) (some ⟨W.heap.size, 0, none⟩) (bus [s]) :=
    lies_of_cells W.heap.size hblk.lt (fun h => h) (fun i k hi hk => by
      obtain rfl : i = 0 := by simpa using hi
      rw [hblk.cell, Nat.zero_mul, Nat.zero_add]
      show (#[Value.string s.key, .int .i64 s.left, .int .i64 s.at_] : Array Value)[k]? = _
      rw [← Array.getElem?_toList]
      rfl)
  obtain ⟨A', c', W', hr, ho, hg⟩ := run_append_rows (P := Try.prog) (W.alloc (.cells #[.string s.key, .int .i64 s.left, .int .i64 s.at_] 54)) base 3 (by decide) 23 ty 54 i0 _ 32 Try.underlying23 hi hz hs hb rfl (.slice A n c) n (bus xs) (own_on hown ((Below.refl _ W).alloc (Nat.le_refl _) _)) (some ⟨W.heap.size, 0, none⟩) 1 1 (bus [s]) (bus_length [s]) hA (bus_cell [s]) (by unfold maxLen; omega) (by omega) (by simp; omega)
  rw [← bus_append] at ho
  exact ⟨A', c', W', hr, ho, fun w0 h0 => (h0.alloc hbase _).grown hg (by simp; omega) (fun j hj => own_base hown hj)⟩
/-- A bucket in memory, read again. -/
def dn (s : Bu) : Bb := ⟨s.key, s.left.toNat, s.at_.toNat⟩
theorem dn_up (b : Bb) : dn (up b) = b := by
  obtain ⟨k, l, t⟩ := b
  simp [dn, up]
def full (now : Nat) (s : Bu) : Bool := decide (Bk.left1 (dn s) now = 4)
theorem sweep_M (L : List Bb) (now : Nat) : (M L).filter (fun s => !full now s) = M (Bk.sweep L now) := by
  unfold M Bk.sweep
  rw [List.filter_map]
  congr 1
  apply List.filter_congr
  intro b _
  have := left1_le b now
  simp only [Function.comp, full, dn_up]
  by_cases h : Bk.left1 b now = 4
  · simp [h]
  · simp [h]; omega
theorem vl_sweep {L : List Bb} (h : Vl L) (now : Nat) : Vl (Bk.sweep L now) :=
  ⟨h.rise.sweep now, fun b hb => h.ok b ((Bk.sweep_sub L now).subset hb), fun b hb => h.few b ((Bk.sweep_sub L now).subset hb), Nat.le_trans (List.length_filter_le _ _) h.len⟩
set_option maxRecDepth 100000 in
set_option maxHeartbeats 2000000 in
theorem sweep1_any (b : Bb) (hb : Ok b) (g now : Nat) (hn : now ≤ 2000000000000) (w : World) (hk : Blk w g 2 #[.int .i64 (now : Int)]) :
    Calls Try.prog 35 #[.agg #[.string b.key, .int .i64 (b.left : Int), .int .i64 (b.at_ : Int)], .pointer (some ⟨g, 0, none⟩)] w fun e w' => e = .returned (.bool (decide (Bk.left1 b now = 4))) ∧ Below w.heap.size w w' := by
  have HL := Lib.hid (fun W => left_any b hb now hn W)
  have hbq : ∀ m : Nat, (((m : Int) == 4) : Bool) = decide (m = 4) := fun m => by
    rw [Bool.eq_iff_iff, beq_iff_eq, decide_eq_true_eq]
    omega
  have hbm := hbq (Bk.left1 b now)
  generalize Bk.left1 b now = m at HL hbm ⊢
  have hg := hk.lt
  have hne : ¬ g = w.heap.size := by omega
  have hb1 : Below w.heap.size w (w.alloc (.cells #[.string b.key, .int .i64 (b.left : Int), .int .i64 (b.at_ : Int)] 54)) := (Below.refl _ w).alloc (Nat.le_refl _) _
  have hk1 := hk.of (hb1.block _ hg)
  have h2 := (hk1.cell 0).trans rfl
  have HB := Lib.hid hb1
  clear hbq hb1 hk1 hk
  go_enter Try.func35, Try.ntmps35
  go_wp2_with fail
  refine (HL.out _).mono ?_
  rintro e w2 ⟨rfl, hb⟩
  have HB2 := Lib.hid (HB.out.trans (hb.mono HB.out.size))
  clear hb
  go_wp2_with fail
  go_ret
  exact ⟨by first | rfl | (simp only [hbm]), HB2.out⟩
theorem enter_sweep : ∀ (args : Array Value) (W : World), (callFunc 35 args).run Try.prog W = .ok (.enter 35 args) W := fun args W => by go_simp
set_option maxRecDepth 100000 in
set_option maxHeartbeats 2000000 in
theorem Sweep_any {S : Nat → Prop} (A : Option Addr) (cp : Nat) (L : List Bb) (hcp : L.length ≤ cp) (h : Vl L) (now : Nat) (hn : now ≤ 2000000000000) (w : World) (hA : Lies S w A (bus (M L))) :
    Calls Try.prog 25 #[.slice A L.length cp, .int .i64 (now : Int)] w fun e w' => (∃ v, e = .returned v ∧ Row (fun b => b < w.heap.size) (M (Bk.sweep L now)) v w') ∧ Below w.heap.size w w' := by
  have hb0 : Below w.heap.size w (w.alloc (.cells #[.int .i64 (now : Int)] 2)) := (Below.refl _ w).alloc (Nat.le_refl _) _
  have h1 := Blk.new w 2 #[.int .i64 (now : Int)]
  have hT : Tells (fun s => ∃ b, s = up b ∧ Ok b) 35 #[.pointer (some ⟨w.heap.size, 0, none⟩)] (full now) (w.alloc (.cells #[.int .i64 (now : Int)] 2)) :=
    ⟨enter_sweep, fun W s hs hW => by
      obtain ⟨b, rfl, hb⟩ := hs
      unfold full
      rw [dn_up]
      exact sweep1_any b hb w.heap.size now hn W (h1.of (hW.block _ h1.lt))⟩
  have hV : ∀ s ∈ M L, ∃ b, s = up b ∧ Ok b := fun s hs => by
    obtain ⟨b, hb, rfl⟩ := List.mem_map.1 hs
    exact ⟨b, rfl, h.ok b hb⟩
  have hlen := h.len
  have hC := clone_any (S := S) A cp (M L) (by rw [M_length]; omega) (by rw [M_length]; exact hcp) _ (hA.below hb0)
  rw [M_length] at hC
  have HC := Lib.hid hC
  have HD := Lib.hid (fun A' c' W h1 (h2 : World.ownsRow W _ _ _ (.slice A' (M L).length c') _ _) => delete_any _ (full now) _ _ _ hT A' c' (M L) (by rw [M_length]; omega) hV W h1 h2)
  have HB0 := Lib.hid hb0
  have hml := M_length L
  rw [sweep_M, hml] at HD
  clear hC hT h1 hb0 hA hV hml
  go_enter Try.func25, Try.ntmps25
  go_wp2_with fail
  refine HC.out.mono ?_
  rintro e w1 ⟨⟨A', c', rfl, ho⟩, hb⟩
  have HX := Lib.hid (HD.out A' c' w1 hb ho)
  have HB1 := Lib.hid (HB0.out.trans (hb.mono HB0.out.size))
  clear ho hb
  go_wp2_with fail
  refine HX.out.mono ?_
  rintro e w2 ⟨⟨v, rfl, hv⟩, hb⟩
  have HV := Lib.hid (hv.weaker (fun b hb => Nat.lt_of_lt_of_le hb HB0.out.size))
  have HB := Lib.hid (HB0.out.trans (hb.mono HB0.out.size))
  clear hv hb
  go_wp2_with fail
  go_ret
  exact ⟨⟨_, rfl, HV.out⟩, HB.out⟩
theorem M_append (K L : List Bb) : M (K ++ L) = M K ++ M L := by simp [M]
theorem M_one (b : Bb) : M [b] = [up b] := rfl
set_option maxRecDepth 100000 in
set_option maxHeartbeats 4000000 in
theorem RSweep_any {S : Nat → Prop} (A : Option Addr) (cp : Nat) (L : List Bb) (h : Vl L) (now : Nat) (hn : now ≤ 2000000000000) (w : World) (hA : Lies S w A (bus (M L))) :
    Calls Try.prog 26 #[.slice A L.length cp, .int .i64 (now : Int)] w fun e w' => (∃ v, e = .returned v ∧ Row (fun b => b < w.heap.size) (M (Bk.sweep L now)) v w') ∧ Below w.heap.size w w' := by
  have HA := Lib.hid hA
  have hlen := h.len
  unfold Bk.sweep
  generalize hQ : (fun b : Bb => decide (Bk.left1 b now < 4)) = Q
  have HQ : Hid (∀ b, Q b = decide (Bk.left1 b now < 4)) := Lib.hid (fun s => by rw [← hQ])
  clear hQ hA
  go_enter Try.func26, Try.ntmps26
  go_wp2_with fail
  go_loopw [5, 6] (fun v i wr => ∃ (k n : Nat) (A' : Option Addr) (c' : Nat), v = .slice A' n c' ∧ i = .int .i64 (k : Int) ∧ k ≤ L.length ∧ n = ((L.take k).filter Q).length ∧ wr.ownsRow w.heap.size 54 3 (.slice A' n c') n (bus (M ((L.take k).filter Q))) ∧ Below w.heap.size w wr) (fun _ i _ => L.length - (intOf i).toNat)
  case atStart => exact ⟨0, 0, _, _, rfl, rfl, by omega, rfl, ⟨rfl, .inl ⟨rfl, rfl⟩⟩, Below.refl _ w⟩
  case round =>
    obtain ⟨k, n, A', c', rfl, rfl, hk, hnl, hown, hB⟩ := hrel
    have HN := Lib.hid hnl
    have HOW := Lib.hid hown
    have HBW := Lib.hid hB
    have hfew := filter_few Q L k
    rw [← hnl] at hfew
    clear hown hB hnl
    by_cases hlt : k < L.length
    · have hki : (k : Int) < (L.length : Int) := by omega
      obtain ⟨ad, rfl, sa0⟩ := lies_ups HA.out k hlt
      have sa := sa0.below HBW.out
      obtain ⟨q, hq0⟩ : ∃ q, ad.add (k * 3) = q := ⟨_, rfl⟩
      have hmore := filter_more Q L k hlt
      have hok := h.get k hlt
      have hqb := HQ.out L[k]
      generalize L[k] = b at sa hmore hok hqb sa0
      rw [hq0] at sa
      have HS := Lib.hid sa
      have s0 := sa.c0
      have s1 := sa.c1
      have s2 := sa.c2
      simp only [up] at s0 s1 s2
      have HL := Lib.hid (rleft_any b hok now hn wr)
      generalize Bk.left1 b now = m at HL hqb
      clear sa sa0 hok
      by_cases h4 : m < 4
      · have hm4 : ((m : Int) < 4) := by omega
        rw [decide_eq_true h4] at hqb
        rw [if_pos hqb] at hmore
        have hn2 : n + 1 = ((L.take (k + 1)).filter Q).length := by rw [hmore, List.length_append, ← HN.out]; rfl
        have HT : Hid (bus (M ((L.take (k + 1)).filter Q)) = bus (M ((L.take k).filter Q) ++ [up b])) := Lib.hid (by rw [hmore, M_append, M_one])
        have HN2 := Lib.hid hn2
        clear hn2 hmore h4 hqb
        go_wp2_with fail
        refine HL.out.mono ?_
        rintro e w2 ⟨rfl, hb⟩
        have HB2 := Lib.hid (HBW.out.trans (hb.mono HBW.out.size))
        have sb := HS.out.below hb
        have t0 := sb.c0
        have t1 := sb.c1
        have t2 := sb.c2
        simp only [up] at t0 t1 t2
        obtain ⟨A3, c3, w3, hrun, hown3, hbel⟩ := append_one HB2.out.size (own_on HOW.out hb) (up b) (by omega) 23
        simp only [up] at hrun
        have HRU := Lib.hid hrun
        have HO3 := Lib.hid hown3
        have HB3 := Lib.hid (hbel w HB2.out)
        clear hb sb hrun hown3 hbel
        go_wp2_with (at_builtin; refine wpList_append_run rfl (.tmp 20) (.tmp 25) 23 23 rfl _ _ _ rfl rfl HRU.out ?_)
        go_roundw
        case rel => exact ⟨k + 1, n + 1, _, _, rfl, by go_num, by omega, HN2.out, by rw [HT.out]; exact HO3.out, HB3.out⟩
        case measure => simp [intOf]; omega
      · have hm4 : ¬ ((m : Int) < 4) := by omega
        rw [decide_eq_false h4] at hqb
        rw [if_neg (by rw [hqb]; decide), List.append_nil] at hmore
        have HT := Lib.hid hmore
        clear hmore h4 hqb
        go_wp2_with fail
        refine HL.out.mono ?_
        rintro e w2 ⟨rfl, hb⟩
        have HB2 := Lib.hid (HBW.out.trans (hb.mono HBW.out.size))
        have HO2 := Lib.hid (own_on HOW.out hb)
        clear hb
        go_wp2_with fail
        go_roundw
        case rel => exact ⟨k + 1, n, _, _, rfl, by go_num, by omega, by rw [HT.out]; exact HN.out, by rw [HT.out]; exact HO2.out, HB2.out⟩
        case measure => simp [intOf]; omega
    · obtain rfl : k = L.length := by omega
      have hno := HN.out
      have ho := HOW.out
      rw [List.take_length] at hno ho
      have HO := Lib.hid ho
      have HNO := Lib.hid hno
      clear ho hno HN HOW
      go_wp2_with fail
      go_ret
      exact ⟨⟨_, rfl, A', c', by rw [HNO.out, M_length]; rfl, by rw [M_length, ← HNO.out]; exact own_cap HO.out, lies_made HO.out (fun g hg h => by omega)⟩, HBW.out⟩
end Go.Proofs.Ytbldonkfboahmaa
