/-
  Proves the statement of TokenGroups: for every text and every two numbers the law returns true (a token in groups is cleaned to itself; between two groups there is just one dash), and its arguments read as they did. No condition.
-/
import Derived.Test.YtcijkfnhjajfbaaTkH
import Derived.Test.YtcijkfnhjajfbaaTkT
namespace Go.Proofs.Ytcijkfnhjajfbaa.tokenGroups
open Go.ChangeShapes Go.WideShapes Go.ChangeAt Go.RowKit
open Go.ChangeMaps (open_string shut_string)

theorem glen_len (L : List UInt8) (n : Nat) : (Tk.grp L n).length = Tk.glen n L.length := by
  unfold Tk.grp
  exact Tk.grpTo_length _ _ _
theorem grp_get (L : List UInt8) (n i : Nat) (h : i < (Tk.grp L n).length) : (Tk.grp L n)[i] = Tk.gat L n i := by
  simp [Tk.grp, Tk.grpTo]
theorem place_lt (len n i : Nat) (hn : 1 ≤ n) (h : i < Tk.glen n len) (_hm : i % (n + 1) ≠ n) : i - i / (n + 1) < len := by
  unfold Tk.glen at h
  by_cases h0 : len = 0
  · rw [if_pos h0] at h; omega
  · rw [if_neg h0] at h
    have h1 := Nat.div_add_mod i (n + 1)
    have h2 := Nat.mod_lt i (show 0 < n + 1 by omega)
    obtain ⟨q, hq⟩ : ∃ q, i / (n + 1) = q := ⟨_, rfl⟩
    rw [hq, Nat.add_mul, Nat.one_mul] at h1
    rw [hq]
    rcases Nat.lt_or_ge (i - q) len with h3 | h3
    · exact h3
    · exfalso
      have h4 : (len - 1) / n ≤ q := by
        apply Nat.le_of_lt_succ
        rw [Nat.div_lt_iff_lt_mul (by omega), Nat.succ_mul, Nat.mul_comm]
        omega
      omega
theorem glen_all (len n : Nat) (hn : 1 ≤ n) : Tk.glen n len - Tk.glen n len / (n + 1) = len := by
  unfold Tk.glen
  by_cases h0 : len = 0
  · rw [if_pos h0, h0]; simp
  · rw [if_neg h0]
    obtain ⟨q, hq⟩ : ∃ q, (len - 1) / n = q := ⟨_, rfl⟩
    have h1 := Nat.div_add_mod (len - 1) n
    have h2 := Nat.mod_lt (len - 1) (show 0 < n by omega)
    rw [hq] at h1 ⊢
    have e : len + q = ((len - 1) % n + 1) + (n + 1) * q := by rw [Nat.add_mul, Nat.one_mul]; omega
    rw [e, Nat.add_mul_div_left _ _ (by omega), Nat.div_eq_of_lt (by omega), Nat.zero_add]
    rw [Nat.add_mul, Nat.one_mul]
    omega
theorem left_next (n i : Nat) : (i + 1) - (i + 1) / (n + 1) = (i - i / (n + 1)) + (if i % (n + 1) = n then 0 else 1) := by
  have h1 := Nat.div_add_mod i (n + 1)
  have h2 := Nat.mod_lt i (show 0 < n + 1 by omega)
  obtain ⟨q, hq⟩ : ∃ q, i / (n + 1) = q := ⟨_, rfl⟩
  rw [hq, Nat.add_mul, Nat.one_mul] at h1
  have hle : q ≤ i := by omega
  by_cases h : i % (n + 1) = n
  · rw [if_pos h]
    have e : (i + 1) / (n + 1) = q + 1 := by
      rw [show i + 1 = (n + 1) * (q + 1) by rw [Nat.mul_add, Nat.add_mul]; omega, Nat.mul_div_cancel_left _ (by omega)]
    rw [e, hq]
    omega
  · rw [if_neg h]
    have e : (i + 1) / (n + 1) = q := by
      rw [show i + 1 = (i % (n + 1) + 1) + (n + 1) * q by rw [Nat.add_mul, Nat.one_mul]; omega, Nat.add_mul_div_left _ _ (by omega), Nat.div_eq_of_lt (by omega), Nat.zero_add]
    rw [e, hq]
    omega
theorem tok_ten (s : ByteArray) : (cut (s ++ ⟨#[48, 49, 50, 51, 52, 53, 54, 55, 56, 57]⟩) 10).size = 10 := by
  have h : (s ++ ⟨#[48, 49, 50, 51, 52, 53, 54, 55, 56, 57]⟩).size = s.size + 10 := by rw [ByteArray.size_append]; rfl
  unfold cut
  split
  · simp
    have : (⟨#[48, 49, 50, 51, 52, 53, 54, 55, 56, 57]⟩ : ByteArray).size = 10 := rfl
    omega
  · omega
theorem place8 (q : Int) : ∃ (t : Int) (k : Nat), q.tmod 8 = t ∧ -8 ≤ t ∧ t ≤ 8 ∧ 1 ≤ k ∧ k ≤ 8 ∧ 1 + t % 8 = (k : Int) := by
  have h1 := Int.tmod_lt_of_pos q (show (0 : Int) < 8 by omega)
  have h2 : -(8 : Int) < q.tmod 8 := by
    have := Int.tmod_lt_of_pos (-q) (show (0 : Int) < 8 by omega)
    rw [Int.neg_tmod] at this
    omega
  generalize q.tmod 8 = t at h1 h2
  exact ⟨t, (1 + t % 8).toNat, rfl, by omega, by omega, by omega, by omega, by omega⟩
theorem mod_beq (j k : Nat) : ((j : Int) % ((k : Int) + 1) == (k : Int)) = decide (j % (k + 1) = k) := by
  have e : (j : Int) % ((k : Int) + 1) = ((j % (k + 1) : Nat) : Int) := by simp
  rw [e, Bool.eq_iff_iff, beq_iff_eq, decide_eq_true_iff]
  omega
theorem ba_get (G : List UInt8) (i : Nat) (h : i < (ba G).size) (h2 : i < G.length) : (ba G)[i]'h = G[i]'h2 := by
  simp [ba]
  rfl
set_option maxRecDepth 100000 in
set_option maxHeartbeats 8000000 in
theorem walkLow (s0 : ByteArray) (n raw : Int) (hs0 : s0.size ≤ maxLen) (_hn : -9223372036854775808 ≤ n ∧ n ≤ 9223372036854775807) (_hr : -9223372036854775808 ≤ raw ∧ raw ≤ 9223372036854775807) (hlow : raw < 1) (w : World) :
    Calls Try.prog 7 #[.string s0, .int .i64 n, .int .i64 raw] w fun e w' => e = .returned (.bool true) ∧ Below w.heap.size w w' := by
  have hcs := cut_size s0 60
  have HS0 := Lib.hid (fun W => short_any s0 60 hs0 W)
  generalize cut s0 60 = s at hcs HS0
  have hten := tok_ten s
  have HSs := Lib.hid (fun W => short_any (s ++ ⟨#[48, 49, 50, 51, 52, 53, 54, 55, 56, 57]⟩) 10 (by rw [ByteArray.size_append, show (⟨#[48, 49, 50, 51, 52, 53, 54, 55, 56, 57]⟩ : ByteArray).size = 10 from rfl]; unfold maxLen; omega) W)
  generalize cut (s ++ ⟨#[48, 49, 50, 51, 52, 53, 54, 55, 56, 57]⟩) 10 = T at hten HSs
  have hTl : T.data.toList.length = 10 := by have : T.data.toList.length = T.size := by simp
                                             omega
  have HT := Lib.hid (fun W => token_any T (by omega) W)
  rw [show tokS T.data.toList = ba (Tk.enc T.data.toList) by unfold tokS; rw [if_pos hTl]] at HT
  have hDl := Tk.enc_length T.data.toList
  rw [hTl] at hDl
  have hst := Tk.still_enc T.data.toList
  generalize Tk.enc T.data.toList = D at HT hDl hst
  have hD16 : D.length = 16 := hDl
  clear hDl hTl hten
  obtain ⟨t, k, e1, t1, t2, k1, k2, e2⟩ := place8 n
  have HG := Lib.hid (fun W => group_any (ba D) (by rw [ba_size]; omega) (k : Int) (by omega) (by omega) W)
  rw [ba_list, show grpV D (k : Int) = Tk.grp D k by unfold grpV; rw [if_neg (by omega), Int.toNat_natCast]] at HG
  have hgl := glen_len D k
  have hget := grp_get D k
  have hcg := Tk.clean_grp_all D k k1 hst
  have hpl := place_lt D.length k
  rw [← hgl] at hpl
  have hg45 : ∀ (i : Nat) (h : i < (Tk.grp D k).length), (Tk.grp D k)[i] = 45 ↔ i % (k + 1) = k := by
    intro i h
    rw [hget i h]
    unfold Tk.gat
    by_cases hm : i % (k + 1) = k
    · rw [if_pos hm]; simp [hm]
    · rw [if_neg hm]
      have hlt := hpl i k1 h hm
      rw [List.getD_eq_getElem?_getD, List.getElem?_eq_getElem hlt]
      have hs2 := (hst _ (List.getElem_mem hlt)).2
      constructor
      · intro hh
        rw [Option.getD_some] at hh
        rw [hh] at hs2
        exact absurd hs2 (by decide)
      · intro hh; exact absurd hh hm
  rw [hD16] at hgl
  have hgl2 : Tk.glen k 16 = 16 + 15 / k := rfl
  rw [hgl2] at hgl
  generalize Tk.grp D k = G at HG hgl hcg hg45
  have hgz : (ba G).size = 16 + 15 / k := by rw [ba_size]; exact hgl
  have hg31 : (ba G).size ≤ 31 := by
    have := Nat.div_le_self 15 k
    omega
  have HC := Lib.hid (fun W => clean_any (ba G) (by omega) W)
  rw [ba_list, hcg] at HC
  have hgB : ∀ (i : Nat) (h : i < (ba G).size), ((ba G)[i] = 45 ↔ i % (k + 1) = k) := by
    intro i h
    have h2 : i < G.length := by rw [ba_size] at h; exact h
    rw [ba_get G i h h2]
    exact hg45 i h2
  obtain ⟨gl, hglv⟩ : ∃ gl : Nat, 16 + 15 / k = gl := ⟨_, rfl⟩
  rw [hglv] at hgz
  have hglw : 16 + 15 / (k : Int) = (gl : Int) := by rw [← hglv]; simp
  have HGB := Lib.hid hgB
  generalize ba G = g at HG HC hgz hg31 HGB
  have hselfd : ((ba D).toList == (ba D).toList) = true := by simp
  generalize ba D = d at HT HG HC hselfd
  have hselfs : (s.toList == s.toList) = true := by simp
  clear hget hcg hpl hg45 hgl hgB hgl2 hst hs0
  have HX := Lib.hid (fun W => group_any s (by omega) raw _hr.1 _hr.2 W)
  rw [show grpV s.data.toList raw = s.data.toList by unfold grpV; rw [if_pos hlow], ba_back] at HX
  have r1 : ¬ 1 ≤ raw := by omega
  have r2 : ¬ 60 ≤ raw := by omega
  have r3 : raw < 60 := by omega
  go_enter Try.func7, Try.ntmps7
  go_wp2_with fail
  refine (awake_any _).mono ?_
  rintro e w1 ⟨rfl, hb1⟩
  have HB1 := Lib.hid hb1
  clear hb1
  go_wp2_with fail
  refine (HS0.out _).mono ?_
  rintro e w2 ⟨rfl, rfl⟩
  go_wp2_with fail
  refine (HSs.out _).mono ?_
  rintro e w2 ⟨rfl, rfl⟩
  go_wp2_with fail
  refine (HT.out _).mono ?_
  rintro e w2 ⟨rfl, hb⟩
  have HB2 := Lib.hid (HB1.out.trans (hb.mono HB1.out.size))
  clear hb HT HSs HS0
  go_wp2_with fail
  refine (HG.out _).mono ?_
  rintro e w3 ⟨rfl, hb⟩
  have HB3 := Lib.hid (HB2.out.trans (hb.mono HB2.out.size))
  clear hb HG
  go_wp2_with fail
  refine (HX.out _).mono ?_
  rintro e w4 ⟨rfl, hb⟩
  have HB4 := Lib.hid (HB3.out.trans (hb.mono HB3.out.size))
  clear hb HX
  go_wp2_with fail
  refine (HC.out _).mono ?_
  rintro e w5 ⟨rfl, hb⟩
  have HB5 := Lib.hid (HB4.out.trans (hb.mono HB4.out.size))
  clear hb HC
  go_wp2_with fail
  go_loopw [12] (fun i wr => ∃ j : Nat, i = .int .i64 (j : Int) ∧ j ≤ gl ∧ Below w.heap.size w wr) (fun i _ => gl - (intOf i).toNat)
  case atStart => exact ⟨0, rfl, by omega, HB5.out⟩
  case round =>
    clear HB5
    obtain ⟨j, rfl, hj, hB⟩ := hrel
    have HB := Lib.hid hB
    clear hB
    by_cases hlt : j < gl
    · have hjg : j < g.size := by omega
      have hji : (j : Int) < (gl : Int) := by omega
      have hgB := HGB.out j hjg
      obtain ⟨c, hc⟩ : ∃ c, g[j] = c := ⟨_, rfl⟩
      rw [hc] at hgB
      obtain ⟨b, hb⟩ : ∃ b, decide (j % (k + 1) = k) = b := ⟨_, rfl⟩
      have f1 : ((c.toNat : Int) == 45) = b := by
        rw [← hb]
        by_cases h : j % (k + 1) = k
        · rw [decide_eq_true h, hgB.2 h]; rfl
        · rw [decide_eq_false h]
          exact beq_eq_false_iff_ne.2 (fun hh => h (hgB.1 (UInt8.toNat_inj.1 (by have : c.toNat = 45 := by omega
                                                                                 rw [this]; rfl))))
      have f2 : ((j : Int) % ((k : Int) + 1) == (k : Int)) = b := by rw [← hb]; exact mod_beq j k
      have hbb : (b != b) = false := by cases b <;> rfl
      clear hgB hb
      go_wp2_with fail
      go_big_quiet (fail)
      go_wp2_with fail
      go_roundw
      case rel => exact ⟨j + 1, by go_num, by omega, below_drewN HB.out _⟩
      case measure => simp [intOf]; omega
    · obtain rfl : j = gl := by omega
      go_wp2_with fail
      go_loopw [13, 14] (fun l i wr => l = .int .i64 0 ∧ i = .int .i64 0 ∧ Below w.heap.size w wr) (fun _ _ _ => 0)
      case atStart => exact ⟨rfl, rfl, HB.out⟩
      case round =>
        obtain ⟨rfl, rfl, hB2⟩ := hrel
        have HBE := Lib.hid hB2
        clear hB2
        by_cases hz : 0 < s.size
        · have hzi : (0 : Int) < (s.size : Int) := by omega
          go_wp2_with fail
          go_ret
          exact ⟨rfl, HBE.out⟩
        · have hzi : ¬ (0 : Int) < (s.size : Int) := by omega
          go_wp2_with fail
          go_ret
          exact ⟨rfl, HBE.out⟩
set_option maxRecDepth 100000 in
set_option maxHeartbeats 8000000 in
theorem walkGreat (s0 : ByteArray) (n raw : Int) (hs0 : s0.size ≤ maxLen) (_hn : -9223372036854775808 ≤ n ∧ n ≤ 9223372036854775807) (_hr : -9223372036854775808 ≤ raw ∧ raw ≤ 9223372036854775807) (hgreat : 60 ≤ raw) (w : World) :
    Calls Try.prog 7 #[.string s0, .int .i64 n, .int .i64 raw] w fun e w' => e = .returned (.bool true) ∧ Below w.heap.size w w' := by
  have hcs := cut_size s0 60
  have HS0 := Lib.hid (fun W => short_any s0 60 hs0 W)
  generalize cut s0 60 = s at hcs HS0
  have hten := tok_ten s
  have HSs := Lib.hid (fun W => short_any (s ++ ⟨#[48, 49, 50, 51, 52, 53, 54, 55, 56, 57]⟩) 10 (by rw [ByteArray.size_append, show (⟨#[48, 49, 50, 51, 52, 53, 54, 55, 56, 57]⟩ : ByteArray).size = 10 from rfl]; unfold maxLen; omega) W)
  generalize cut (s ++ ⟨#[48, 49, 50, 51, 52, 53, 54, 55, 56, 57]⟩) 10 = T at hten HSs
  have hTl : T.data.toList.length = 10 := by have : T.data.toList.length = T.size := by simp
                                             omega
  have HT := Lib.hid (fun W => token_any T (by omega) W)
  rw [show tokS T.data.toList = ba (Tk.enc T.data.toList) by unfold tokS; rw [if_pos hTl]] at HT
  have hDl := Tk.enc_length T.data.toList
  rw [hTl] at hDl
  have hst := Tk.still_enc T.data.toList
  generalize Tk.enc T.data.toList = D at HT hDl hst
  have hD16 : D.length = 16 := hDl
  clear hDl hTl hten
  obtain ⟨t, k, e1, t1, t2, k1, k2, e2⟩ := place8 n
  have HG := Lib.hid (fun W => group_any (ba D) (by rw [ba_size]; omega) (k : Int) (by omega) (by omega) W)
  rw [ba_list, show grpV D (k : Int) = Tk.grp D k by unfold grpV; rw [if_neg (by omega), Int.toNat_natCast]] at HG
  have hgl := glen_len D k
  have hget := grp_get D k
  have hcg := Tk.clean_grp_all D k k1 hst
  have hpl := place_lt D.length k
  rw [← hgl] at hpl
  have hg45 : ∀ (i : Nat) (h : i < (Tk.grp D k).length), (Tk.grp D k)[i] = 45 ↔ i % (k + 1) = k := by
    intro i h
    rw [hget i h]
    unfold Tk.gat
    by_cases hm : i % (k + 1) = k
    · rw [if_pos hm]; simp [hm]
    · rw [if_neg hm]
      have hlt := hpl i k1 h hm
      rw [List.getD_eq_getElem?_getD, List.getElem?_eq_getElem hlt]
      have hs2 := (hst _ (List.getElem_mem hlt)).2
      constructor
      · intro hh
        rw [Option.getD_some] at hh
        rw [hh] at hs2
        exact absurd hs2 (by decide)
      · intro hh; exact absurd hh hm
  rw [hD16] at hgl
  have hgl2 : Tk.glen k 16 = 16 + 15 / k := rfl
  rw [hgl2] at hgl
  generalize Tk.grp D k = G at HG hgl hcg hg45
  have hgz : (ba G).size = 16 + 15 / k := by rw [ba_size]; exact hgl
  have hg31 : (ba G).size ≤ 31 := by
    have := Nat.div_le_self 15 k
    omega
  have HC := Lib.hid (fun W => clean_any (ba G) (by omega) W)
  rw [ba_list, hcg] at HC
  have hgB : ∀ (i : Nat) (h : i < (ba G).size), ((ba G)[i] = 45 ↔ i % (k + 1) = k) := by
    intro i h
    have h2 : i < G.length := by rw [ba_size] at h; exact h
    rw [ba_get G i h h2]
    exact hg45 i h2
  obtain ⟨gl, hglv⟩ : ∃ gl : Nat, 16 + 15 / k = gl := ⟨_, rfl⟩
  rw [hglv] at hgz
  have hglw : 16 + 15 / (k : Int) = (gl : Int) := by rw [← hglv]; simp
  have HGB := Lib.hid hgB
  generalize ba G = g at HG HC hgz hg31 HGB
  have hselfd : ((ba D).toList == (ba D).toList) = true := by simp
  generalize ba D = d at HT HG HC hselfd
  have hselfs : (s.toList == s.toList) = true := by simp
  clear hget hcg hpl hg45 hgl hgB hgl2 hst hs0
  have HX := Lib.hid (fun W => group_any s (by omega) raw _hr.1 _hr.2 W)
  have hsl : s.data.toList.length = s.size := by simp
  rw [show grpV s.data.toList raw = s.data.toList by unfold grpV; rw [if_neg (by omega), Tk.grp_great _ _ (by omega) (by omega)], ba_back] at HX
  clear hsl
  have r1 : 1 ≤ raw := by omega
  have r0 : ¬ raw < 1 := by omega
  have r3 : ¬ raw < 60 := by omega
  go_enter Try.func7, Try.ntmps7
  go_wp2_with fail
  refine (awake_any _).mono ?_
  rintro e w1 ⟨rfl, hb1⟩
  have HB1 := Lib.hid hb1
  clear hb1
  go_wp2_with fail
  refine (HS0.out _).mono ?_
  rintro e w2 ⟨rfl, rfl⟩
  go_wp2_with fail
  refine (HSs.out _).mono ?_
  rintro e w2 ⟨rfl, rfl⟩
  go_wp2_with fail
  refine (HT.out _).mono ?_
  rintro e w2 ⟨rfl, hb⟩
  have HB2 := Lib.hid (HB1.out.trans (hb.mono HB1.out.size))
  clear hb HT HSs HS0
  go_wp2_with fail
  refine (HG.out _).mono ?_
  rintro e w3 ⟨rfl, hb⟩
  have HB3 := Lib.hid (HB2.out.trans (hb.mono HB2.out.size))
  clear hb HG
  go_wp2_with fail
  refine (HX.out _).mono ?_
  rintro e w4 ⟨rfl, hb⟩
  have HB4 := Lib.hid (HB3.out.trans (hb.mono HB3.out.size))
  clear hb HX
  go_wp2_with fail
  refine (HC.out _).mono ?_
  rintro e w5 ⟨rfl, hb⟩
  have HB5 := Lib.hid (HB4.out.trans (hb.mono HB4.out.size))
  clear hb HC
  go_wp2_with fail
  go_loopw [12] (fun i wr => ∃ j : Nat, i = .int .i64 (j : Int) ∧ j ≤ gl ∧ Below w.heap.size w wr) (fun i _ => gl - (intOf i).toNat)
  case atStart => exact ⟨0, rfl, by omega, HB5.out⟩
  case round =>
    clear HB5
    obtain ⟨j, rfl, hj, hB⟩ := hrel
    have HB := Lib.hid hB
    clear hB
    by_cases hlt : j < gl
    · have hjg : j < g.size := by omega
      have hji : (j : Int) < (gl : Int) := by omega
      have hgB := HGB.out j hjg
      obtain ⟨c, hc⟩ : ∃ c, g[j] = c := ⟨_, rfl⟩
      rw [hc] at hgB
      obtain ⟨b, hb⟩ : ∃ b, decide (j % (k + 1) = k) = b := ⟨_, rfl⟩
      have f1 : ((c.toNat : Int) == 45) = b := by
        rw [← hb]
        by_cases h : j % (k + 1) = k
        · rw [decide_eq_true h, hgB.2 h]; rfl
        · rw [decide_eq_false h]
          exact beq_eq_false_iff_ne.2 (fun hh => h (hgB.1 (UInt8.toNat_inj.1 (by have : c.toNat = 45 := by omega
                                                                                 rw [this]; rfl))))
      have f2 : ((j : Int) % ((k : Int) + 1) == (k : Int)) = b := by rw [← hb]; exact mod_beq j k
      have hbb : (b != b) = false := by cases b <;> rfl
      clear hgB hb
      go_wp2_with fail
      go_big_quiet (fail)
      go_wp2_with fail
      go_roundw
      case rel => exact ⟨j + 1, by go_num, by omega, below_drewN HB.out _⟩
      case measure => simp [intOf]; omega
    · obtain rfl : j = gl := by omega
      go_wp2_with fail
      go_loopw [13, 14] (fun l i wr => l = .int .i64 0 ∧ i = .int .i64 0 ∧ Below w.heap.size w wr) (fun _ _ _ => 0)
      case atStart => exact ⟨rfl, rfl, HB.out⟩
      case round =>
        obtain ⟨rfl, rfl, hB2⟩ := hrel
        have HBE := Lib.hid hB2
        clear hB2
        by_cases hz : 0 < s.size
        · have hzi : (0 : Int) < (s.size : Int) := by omega
          go_wp2_with fail
          go_ret
          exact ⟨rfl, HBE.out⟩
        · have hzi : ¬ (0 : Int) < (s.size : Int) := by omega
          go_wp2_with fail
          go_ret
          exact ⟨rfl, HBE.out⟩
set_option maxRecDepth 100000 in
set_option maxHeartbeats 8000000 in
theorem walkMid (s0 : ByteArray) (n raw : Int) (hs0 : s0.size ≤ maxLen) (_hn : -9223372036854775808 ≤ n ∧ n ≤ 9223372036854775807) (_hr : -9223372036854775808 ≤ raw ∧ raw ≤ 9223372036854775807) (m : Nat) (hm : raw = (m : Int)) (hm1 : 1 ≤ m) (hm2 : m < 60) (w : World) :
    Calls Try.prog 7 #[.string s0, .int .i64 n, .int .i64 raw] w fun e w' => e = .returned (.bool true) ∧ Below w.heap.size w w' := by
  have hcs := cut_size s0 60
  have HS0 := Lib.hid (fun W => short_any s0 60 hs0 W)
  generalize cut s0 60 = s at hcs HS0
  have hten := tok_ten s
  have HSs := Lib.hid (fun W => short_any (s ++ ⟨#[48, 49, 50, 51, 52, 53, 54, 55, 56, 57]⟩) 10 (by rw [ByteArray.size_append, show (⟨#[48, 49, 50, 51, 52, 53, 54, 55, 56, 57]⟩ : ByteArray).size = 10 from rfl]; unfold maxLen; omega) W)
  generalize cut (s ++ ⟨#[48, 49, 50, 51, 52, 53, 54, 55, 56, 57]⟩) 10 = T at hten HSs
  have hTl : T.data.toList.length = 10 := by have : T.data.toList.length = T.size := by simp
                                             omega
  have HT := Lib.hid (fun W => token_any T (by omega) W)
  rw [show tokS T.data.toList = ba (Tk.enc T.data.toList) by unfold tokS; rw [if_pos hTl]] at HT
  have hDl := Tk.enc_length T.data.toList
  rw [hTl] at hDl
  have hst := Tk.still_enc T.data.toList
  generalize Tk.enc T.data.toList = D at HT hDl hst
  have hD16 : D.length = 16 := hDl
  clear hDl hTl hten
  obtain ⟨t, k, e1, t1, t2, k1, k2, e2⟩ := place8 n
  have HG := Lib.hid (fun W => group_any (ba D) (by rw [ba_size]; omega) (k : Int) (by omega) (by omega) W)
  rw [ba_list, show grpV D (k : Int) = Tk.grp D k by unfold grpV; rw [if_neg (by omega), Int.toNat_natCast]] at HG
  have hgl := glen_len D k
  have hget := grp_get D k
  have hcg := Tk.clean_grp_all D k k1 hst
  have hpl := place_lt D.length k
  rw [← hgl] at hpl
  have hg45 : ∀ (i : Nat) (h : i < (Tk.grp D k).length), (Tk.grp D k)[i] = 45 ↔ i % (k + 1) = k := by
    intro i h
    rw [hget i h]
    unfold Tk.gat
    by_cases hm : i % (k + 1) = k
    · rw [if_pos hm]; simp [hm]
    · rw [if_neg hm]
      have hlt := hpl i k1 h hm
      rw [List.getD_eq_getElem?_getD, List.getElem?_eq_getElem hlt]
      have hs2 := (hst _ (List.getElem_mem hlt)).2
      constructor
      · intro hh
        rw [Option.getD_some] at hh
        rw [hh] at hs2
        exact absurd hs2 (by decide)
      · intro hh; exact absurd hh hm
  rw [hD16] at hgl
  have hgl2 : Tk.glen k 16 = 16 + 15 / k := rfl
  rw [hgl2] at hgl
  generalize Tk.grp D k = G at HG hgl hcg hg45
  have hgz : (ba G).size = 16 + 15 / k := by rw [ba_size]; exact hgl
  have hg31 : (ba G).size ≤ 31 := by
    have := Nat.div_le_self 15 k
    omega
  have HC := Lib.hid (fun W => clean_any (ba G) (by omega) W)
  rw [ba_list, hcg] at HC
  have hgB : ∀ (i : Nat) (h : i < (ba G).size), ((ba G)[i] = 45 ↔ i % (k + 1) = k) := by
    intro i h
    have h2 : i < G.length := by rw [ba_size] at h; exact h
    rw [ba_get G i h h2]
    exact hg45 i h2
  obtain ⟨gl, hglv⟩ : ∃ gl : Nat, 16 + 15 / k = gl := ⟨_, rfl⟩
  rw [hglv] at hgz
  have hglw : 16 + 15 / (k : Int) = (gl : Int) := by rw [← hglv]; simp
  have HGB := Lib.hid hgB
  generalize ba G = g at HG HC hgz hg31 HGB
  have hselfd : ((ba D).toList == (ba D).toList) = true := by simp
  generalize ba D = d at HT HG HC hselfd
  have hselfs : (s.toList == s.toList) = true := by simp
  clear hget hcg hpl hg45 hgl hgB hgl2 hst hs0
  have HX := Lib.hid (fun W => group_any s (by omega) raw _hr.1 _hr.2 W)
  subst hm
  have hsl : s.data.toList.length = s.size := by simp
  rw [show grpV s.data.toList (m : Int) = Tk.grp s.data.toList m by unfold grpV; rw [if_neg (by omega), Int.toNat_natCast]] at HX
  have hxl := glen_len s.data.toList m
  have hxg := grp_get s.data.toList m
  have hxp := place_lt s.data.toList.length m
  have hxa := glen_all s.data.toList.length m hm1
  rw [← hxl] at hxp hxa
  have hx120 : (Tk.grp s.data.toList m).length ≤ 120 := by
    rw [hxl]
    unfold Tk.glen
    have := Nat.div_le_self (s.data.toList.length - 1) m
    split <;> omega
  have hXB : ∀ (i : Nat) (h : i < (ba (Tk.grp s.data.toList m)).size), (i % (m + 1) = m → (ba (Tk.grp s.data.toList m))[i] = 45) ∧ (i % (m + 1) ≠ m → ∃ h2 : i - i / (m + 1) < s.size, (ba (Tk.grp s.data.toList m))[i] = s[i - i / (m + 1)]) := by
    intro i h
    have h2 : i < (Tk.grp s.data.toList m).length := by rw [ba_size] at h; exact h
    rw [ba_get _ i h h2, hxg i h2]
    unfold Tk.gat
    constructor
    · intro hm; rw [if_pos hm]
    · intro hm
      have h3 := hxp i hm1 h2 hm
      refine ⟨by omega, ?_⟩
      rw [if_neg hm, List.getD_eq_getElem?_getD, List.getElem?_eq_getElem h3]
      simp
      rfl
  have hxz : (ba (Tk.grp s.data.toList m)).size - (ba (Tk.grp s.data.toList m)).size / (m + 1) = s.size := by rw [ba_size, hxa, hsl]
  have hx121 : (ba (Tk.grp s.data.toList m)).size ≤ 120 := by rw [ba_size]; exact hx120
  have HXB := Lib.hid hXB
  clear hXB hxl hxg hxp hxa hx120 hsl
  generalize ba (Tk.grp s.data.toList m) = x at HX hxz hx121 HXB
  have r0 : ¬ (m : Int) < 1 := by omega
  have r1 : 1 ≤ (m : Int) := by omega
  have r2 : ¬ 60 ≤ (m : Int) := by omega
  have r3 : (m : Int) < 60 := by omega
  go_enter Try.func7, Try.ntmps7
  go_wp2_with fail
  refine (awake_any _).mono ?_
  rintro e w1 ⟨rfl, hb1⟩
  have HB1 := Lib.hid hb1
  clear hb1
  go_wp2_with fail
  refine (HS0.out _).mono ?_
  rintro e w2 ⟨rfl, rfl⟩
  go_wp2_with fail
  refine (HSs.out _).mono ?_
  rintro e w2 ⟨rfl, rfl⟩
  go_wp2_with fail
  refine (HT.out _).mono ?_
  rintro e w2 ⟨rfl, hb⟩
  have HB2 := Lib.hid (HB1.out.trans (hb.mono HB1.out.size))
  clear hb HT HSs HS0
  go_wp2_with fail
  refine (HG.out _).mono ?_
  rintro e w3 ⟨rfl, hb⟩
  have HB3 := Lib.hid (HB2.out.trans (hb.mono HB2.out.size))
  clear hb HG
  go_wp2_with fail
  refine (HX.out _).mono ?_
  rintro e w4 ⟨rfl, hb⟩
  have HB4 := Lib.hid (HB3.out.trans (hb.mono HB3.out.size))
  clear hb HX
  go_wp2_with fail
  refine (HC.out _).mono ?_
  rintro e w5 ⟨rfl, hb⟩
  have HB5 := Lib.hid (HB4.out.trans (hb.mono HB4.out.size))
  clear hb HC
  go_wp2_with fail
  go_loopw [12] (fun i wr => ∃ j : Nat, i = .int .i64 (j : Int) ∧ j ≤ gl ∧ Below w.heap.size w wr) (fun i _ => gl - (intOf i).toNat)
  case atStart => exact ⟨0, rfl, by omega, HB5.out⟩
  case round =>
    clear HB5
    obtain ⟨j, rfl, hj, hB⟩ := hrel
    have HB := Lib.hid hB
    clear hB
    by_cases hlt : j < gl
    · have hjg : j < g.size := by omega
      have hji : (j : Int) < (gl : Int) := by omega
      have hgB := HGB.out j hjg
      obtain ⟨c, hc⟩ : ∃ c, g[j] = c := ⟨_, rfl⟩
      rw [hc] at hgB
      obtain ⟨b, hb⟩ : ∃ b, decide (j % (k + 1) = k) = b := ⟨_, rfl⟩
      have f1 : ((c.toNat : Int) == 45) = b := by
        rw [← hb]
        by_cases h : j % (k + 1) = k
        · rw [decide_eq_true h, hgB.2 h]; rfl
        · rw [decide_eq_false h]
          exact beq_eq_false_iff_ne.2 (fun hh => h (hgB.1 (UInt8.toNat_inj.1 (by have : c.toNat = 45 := by omega
                                                                                 rw [this]; rfl))))
      have f2 : ((j : Int) % ((k : Int) + 1) == (k : Int)) = b := by rw [← hb]; exact mod_beq j k
      have hbb : (b != b) = false := by cases b <;> rfl
      clear hgB hb
      go_wp2_with fail
      go_big_quiet (fail)
      go_wp2_with fail
      go_roundw
      case rel => exact ⟨j + 1, by go_num, by omega, below_drewN HB.out _⟩
      case measure => simp [intOf]; omega
    · obtain rfl : j = gl := by omega
      go_wp2_with fail
      go_loopw [13, 14] (fun l i wr => ∃ j : Nat, i = .int .i64 (j : Int) ∧ j ≤ x.size ∧ l = .int .i64 ((j - j / (m + 1) : Nat) : Int) ∧ Below w.heap.size w wr) (fun _ i _ => x.size - (intOf i).toNat)
      case atStart => exact ⟨0, rfl, by omega, by simp, HB.out⟩
      case round =>
        obtain ⟨j, rfl, hj, rfl, hB2⟩ := hrel
        have HBE := Lib.hid hB2
        clear hB2
        by_cases hlt : j < x.size
        · have hji : (j : Int) < (x.size : Int) := by omega
          have hln := left_next m j
          have hxb := HXB.out j hlt
          obtain ⟨c, hc⟩ : ∃ c, x[j] = c := ⟨_, rfl⟩
          rw [hc] at hxb
          obtain ⟨l, hl⟩ : ∃ l, j - j / (m + 1) = l := ⟨_, rfl⟩
          rw [hl] at hln ⊢
          by_cases hmm : j % (m + 1) = m
          · rw [if_pos hmm, Nat.add_zero] at hln
            have HLN := Lib.hid hln
            have hmi : ((j : Int) % ((m : Int) + 1) == (m : Int)) = true := by rw [mod_beq]; exact decide_eq_true hmm
            have hc45 : c = 45 := hxb.1 hmm
            subst hc45
            clear hxb hln hmm
            go_wp2_with fail
            go_roundw
            case rel => exact ⟨j + 1, by go_num, by omega, by rw [HLN.out]; rfl, HBE.out⟩
            case measure => simp [intOf]; omega
          · rw [if_neg hmm] at hln
            have HLN := Lib.hid hln
            have hmi : ((j : Int) % ((m : Int) + 1) == (m : Int)) = false := by rw [mod_beq]; exact decide_eq_false hmm
            obtain ⟨h2, h3⟩ := hxb.2 hmm
            simp only [hl] at h2 h3
            have hli : (l : Int) < (s.size : Int) := by omega
            have hli2 : ¬ (s.size : Int) ≤ (l : Int) := by omega
            have h4 : s[l] = c := h3.symm
            have hli3 : decide ((s.size : Int) ≤ (l : Int)) = false := decide_eq_false hli2
            have hli4 : decide (s.size ≤ l) = false := decide_eq_false (by omega)
            clear hxb hln hmm h3
            go_wp2_with fail
            go_big_quiet (fail)
            go_wp2_with fail
            go_roundw
            case rel => exact ⟨j + 1, by go_num, by omega, by rw [HLN.out]; go_num, below_drewN HBE.out _⟩
            case measure => simp [intOf]; omega
        · obtain rfl : j = x.size := by omega
          rw [hxz]
          go_wp2_with fail
          go_ret
          exact ⟨rfl, HBE.out⟩

/-! ### The row -/
theorem contract (H : Type) (enc : TypeId × Value → H) (W : World) (base : Nat) (args : Array Value) (ds gs : List (DataW H)) (before : List MemPlace)
    (hval : ∀ (j : Nat) t v, Try.f7.params[j]? = some t → args[j]? = some v → Value.okWide Try.prog W .any base t v)
    (hW : DataW.Whole enc Try.prog Try.f7.params.toList Rows.tokenGroupsSpec.vars false W args.toList ds gs before) :
    Calls Try.prog 7 args W fun e W' => ∃ v, e = .returned v ∧ Rows.tokenGroupsSpec.post enc Try.prog Try.f7 false true false false W args v W' := by
  have hW' := hW
  obtain ⟨p, q, hA0, hV, rfl, hfz, hnd⟩ := hW
  have hA : DataW.TrodAll enc Try.prog W 0 (fun _ => true) true Try.f7.params.toList args.toList ds p := hA0
  rw [Try.params7] at hA hval
  obtain ⟨v0, vs0, d0, ds0, p0, q0, hargs, rfl, rfl, h0, r0⟩ := trodAll_cons hA
  obtain ⟨v1, vs1, d1, ds1, p1, q1, rfl, rfl, rfl, h1, r1⟩ := trodAll_cons r0
  obtain ⟨v2, vs2, d2, ds2, p2, q2, rfl, rfl, rfl, h2, r2⟩ := trodAll_cons r1
  obtain ⟨rfl, rfl, rfl⟩ := trodAll_nil r2
  obtain rfl : args = #[v0, v1, v2] := by cases args; simp_all
  obtain ⟨rfl, rfl⟩ := trodVars_none hV
  refine law_contract (tb := 4) laidOut (by kernel_rfl) rfl (by kernel_rfl) Try.underlying4 rfl hW' ?_
  clear hA0 hW' hA
  obtain ⟨a0, rfl, _, _, w0⟩ := open_string Try.underlying9 (hval 0 9 v0 rfl rfl) h0
  obtain ⟨a1, rfl, rfl, rfl, w1⟩ := open_int Try.underlying3 (hval 1 3 v1 rfl rfl) h1
  obtain ⟨a2, rfl, rfl, rfl, w2⟩ := open_int Try.underlying3 (hval 2 3 v2 rfl rfl) h2
  have b1 := bounds_int w1
  have b2 := bounds_int w2
  by_cases h1 : a2 < 1
  · exact walkLow a0 a1 a2 w0 b1 b2 h1 W
  · by_cases h2 : 60 ≤ a2
    · exact walkGreat a0 a1 a2 w0 b1 b2 h2 W
    · exact walkMid a0 a1 a2 w0 b1 b2 a2.toNat (by omega) (by omega) (by omega) W

set_option maxRecDepth 100000 in
theorem lifted (os : Os) (started : os.Started) (H : Type) (enc : TypeId × Value → H) :
    ReturnsInHanded {} Try.checked os 7 .any (Rows.tokenGroupsSpec.pre6 enc Try.prog Try.f7 Rows.tokenGroupsRow.domain false) (Rows.tokenGroupsSpec.post enc Try.prog Try.f7 false true false false) := by
  refine returnsInHanded_of_change (C := Try.checked) own started (by kernel_rfl) Try.func7
    (ChangeSpec.witness6 (enc := enc) (C := Try.checked) false ⟨#[], #[.string ⟨#[]⟩, .int .i64 0, .int .i64 0], []⟩ 8 (by kernel_rfl) (by kernel_rfl) (by kernel_rfl) (by kernel_rfl)) ?_
  intro W base args ds gs before hval hW _ _
  exact contract H enc W base args ds gs before hval hW

/-- THE STATEMENT. -/
theorem said : Rows.TokenGroupsSaid :=
  OpenClaim.holds_of_wide 7 Try.f7 rfl rfl rfl rfl rfl rfl rfl ⟨rfl, rfl, rfl, rfl, rfl⟩ rfl rfl rfl rfl rfl (by kernel_rfl) Try.func7 (by kernel_rfl)
    (of_decide_eq_true (by kernel_rfl)) (by unfold Func.isWrapper; first | (rw [if_pos (by decide +kernel)]; kernel_rfl) | (rw [if_neg (by decide +kernel)]; exact ⟨rfl, rfl⟩))
    (fun os started H enc _ => lifted os started H enc)
#print axioms said
end Go.Proofs.Ytcijkfnhjajfbaa.tokenGroups
