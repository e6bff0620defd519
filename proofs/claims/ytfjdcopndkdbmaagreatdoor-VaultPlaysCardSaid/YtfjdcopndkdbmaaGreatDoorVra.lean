/-
  Contracts of the document's own at, Of, Find (layer 11). Condition: rows of at most 1000000 secrets.
  Contracts of the document's own Drop and Sweep (layer 11): rows filtered into a new one. Condition: rows of at most 1000000 secrets.
  Contracts of the document's own with, without (layer 11): a row with another one in a place, without one. Condition: rows of at most 1000000 secrets.
-/
import Derived.Deep.AppendLies
import Derived.Lib.Hide
import Derived.Deep.MidRow
import Derived.Test.YtfjdcopndkdbmaaGreatDoorVaa
import Derived.Test.YtfjdcopndkdbmaaGreatDoorBas
import Derived.Test.YtfjdcopndkdbmaaGreatDoorMinV

namespace Go.Proofs.YtfjdcopndkdbmaaGreatDoor
open Go.RowKit

/-- The place of the first of a key, or -1. -/
def atI (l : List Va.Sec) (k : Va.Key) : Int := match Rw.place Va.Sec.key l k with | some i => (i : Int) | none => -1
theorem place_first {l : List Va.Sec} {k : Va.Key} {i : Nat} (hi : i < l.length) (he : l[i].key = k) (hf : ∀ j (hj : j < i), (l[j]'(by omega)).key ≠ k) : Rw.place Va.Sec.key l k = some i := by
  cases hp : Rw.place Va.Sec.key l k with
  | none => exact absurd he (Rw.find_none.1 (Rw.place_none.1 hp) _ (List.getElem_mem hi))
  | some j =>
    obtain ⟨hj, _, h2, h3⟩ := Rw.place_some hp
    rcases Nat.lt_trichotomy i j with h | h | h
    · exact absurd he (h3 i h)
    · rw [h]
    · exact absurd h2 (hf j h)
theorem place_never {l : List Va.Sec} {k : Va.Key} (hf : ∀ j (hj : j < l.length), l[j].key ≠ k) : Rw.place Va.Sec.key l k = none := by
  rw [Rw.place_none, Rw.find_none]
  intro s hs
  obtain ⟨j, hj, rfl⟩ := List.mem_iff_getElem.1 hs
  exact hf j hj
set_option maxRecDepth 100000 in
set_option maxHeartbeats 2000000 in
theorem rat_any {S : Nat → Prop} (A : Option Addr) (cp : Nat) (l : List Va.Sec) (_hl : l.length ≤ 1000000) (a p : Int) (c : ByteArray) (w : World) (hA : Lies S w A (secs l)) :
    Calls Tryz.prog 53 #[.slice A l.length cp, .int .i64 a, .int .i64 p, .string c] w fun e w' => e = .returned (.int .i64 (atI l (a, p, c))) ∧ w' = w := by
  have HA := Lib.hid hA
  obtain ⟨R, hR⟩ : ∃ R, atI l (a, p, c) = R := ⟨_, rfl⟩
  rw [hR]
  have HR := Lib.hid hR
  clear hA hR
  go_enter Tryz.func53, Tryz.ntmps53
  go_wp2_with fail
  go_loopw [9] (fun i wr => ∃ k : Nat, i = .int .i64 (k : Int) ∧ k ≤ l.length ∧ wr = w ∧ ∀ j (hj : j < k) (hl : j < l.length), l[j].key ≠ (a, p, c)) (fun i _ => l.length - (intOf i).toNat)
  case atStart => exact ⟨0, rfl, by omega, rfl, fun j hj => by omega⟩
  case round =>
    obtain ⟨k, rfl, hk, rfl, hf⟩ := hrel
    have HF := Lib.hid hf
    clear hf
    by_cases hlt : k < l.length
    · have hki : (k : Int) < (l.length : Int) := by omega
      obtain ⟨ad, hAe, sa⟩ := lies_sec HA.out k hlt
      subst hAe
      obtain ⟨q, hq⟩ : ∃ q, ad.add (k * 6) = q := ⟨_, rfl⟩
      rw [hq] at sa
      obtain ⟨s, hs⟩ : ∃ s, l[k] = s := ⟨_, rfl⟩
      rw [hs] at sa
      have s1 := sa.c1
      have s2 := sa.c2
      have s3 := sa.c3
      have HS := Lib.hid hs
      clear sa hs
      by_cases h1 : s.account = a
      · by_cases h2 : s.purpose = p
        · by_cases h3 : s.channel = c
          · have HZ : Hid (R = (k : Int)) := Lib.hid (by
              rw [← HR.out]
              unfold atI
              rw [place_first hlt (by rw [HS.out]; show (s.account, s.purpose, s.channel) = _; rw [h1, h2, h3]) (fun j hj => HF.out j hj (by omega))])
            rw [h1] at s1
            rw [h2] at s2
            rw [h3] at s3
            have b3 : (c.toList == c.toList) = true := by simp
            clear HF HS
            go_wp2_with fail
            go_ret
            exact ⟨congrArg (fun z => Ending.returned (.int .i64 z)) HZ.out.symm, rfl⟩
          · have b3 : (s.channel.toList == c.toList) = false := str_ne h3
            have HN : Hid (l[k].key ≠ (a, p, c)) := Lib.hid (by rw [HS.out]; intro e; exact h3 (by injection e with _ e; injection e))
            rw [h1] at s1
            rw [h2] at s2
            go_wp2_with fail
            go_roundw
            case rel => exact ⟨k + 1, by go_num, by omega, trivial, fun j hj hl => by
              rcases Nat.lt_or_ge j k with h | h
              · exact HF.out j h hl
              · obtain rfl : j = k := by omega
                exact HN.out⟩
            case measure => simp [intOf]; omega
        · have b2 : (s.purpose == p) = false := by simpa using h2
          have HN : Hid (l[k].key ≠ (a, p, c)) := Lib.hid (by rw [HS.out]; intro e; exact h2 (by injection e with _ e; injection e))
          rw [h1] at s1
          go_wp2_with fail
          go_roundw
          case rel => exact ⟨k + 1, by go_num, by omega, trivial, fun j hj hl => by
            rcases Nat.lt_or_ge j k with h | h
            · exact HF.out j h hl
            · obtain rfl : j = k := by omega
              exact HN.out⟩
          case measure => simp [intOf]; omega
      · have b1 : (s.account == a) = false := by simpa using h1
        have HN : Hid (l[k].key ≠ (a, p, c)) := Lib.hid (by rw [HS.out]; intro e; exact h1 (by injection e))
        go_wp2_with fail
        go_roundw
        case rel => exact ⟨k + 1, by go_num, by omega, trivial, fun j hj hl => by
          rcases Nat.lt_or_ge j k with h | h
          · exact HF.out j h hl
          · obtain rfl : j = k := by omega
            exact HN.out⟩
        case measure => simp [intOf]; omega
    · obtain rfl : k = l.length := by omega
      have HZ : Hid (R = -1) := Lib.hid (by
        rw [← HR.out]
        unfold atI
        rw [place_never (fun j hj => HF.out j hj hj)])
      clear HF
      go_wp2_with fail
      go_ret
      exact ⟨congrArg (fun z => Ending.returned (.int .i64 z)) HZ.out.symm, rfl⟩
theorem of_take_succ (l : List Va.Sec) (a : Int) (k : Nat) (h : k < l.length) : Va.of (l.take (k + 1)) a = Va.of (l.take k) a + (if l[k].account = a then 1 else 0) := by
  unfold Va.of
  rw [List.take_succ_eq_append_getElem h, List.countP_append, List.countP_singleton]
  by_cases h1 : l[k].account = a <;> simp [h1]
theorem of_le (l : List Va.Sec) (a : Int) : Va.of l a ≤ l.length := List.countP_le_length
set_option maxRecDepth 100000 in
set_option maxHeartbeats 2000000 in
theorem rof_any {S : Nat → Prop} (A : Option Addr) (cp : Nat) (l : List Va.Sec) (_hl : l.length ≤ 1000000) (a : Int) (w : World) (hA : Lies S w A (secs l)) :
    Calls Tryz.prog 34 #[.slice A l.length cp, .int .i64 a] w fun e w' => e = .returned (.int .i64 (Va.of l a : Int)) ∧ w' = w := by
  have HA := Lib.hid hA
  clear hA
  go_enter Tryz.func34, Tryz.ntmps34
  go_wp2_with fail
  go_loopw [5, 6] (fun n i wr => ∃ k : Nat, n = .int .i64 (Va.of (l.take k) a : Int) ∧ i = .int .i64 (k : Int) ∧ k ≤ l.length ∧ wr = w) (fun _ i _ => l.length - (intOf i).toNat)
  case atStart => exact ⟨0, rfl, rfl, by omega, rfl⟩
  case round =>
    obtain ⟨k, rfl, rfl, hk, rfl⟩ := hrel
    by_cases hlt : k < l.length
    · have hki : (k : Int) < (l.length : Int) := by omega
      obtain ⟨ad, hAe, sa⟩ := lies_sec HA.out k hlt
      subst hAe
      obtain ⟨q, hq⟩ : ∃ q, ad.add (k * 6) = q := ⟨_, rfl⟩
      rw [hq] at sa
      have ht := of_take_succ l a k hlt
      have hle := of_le (l.take k) a
      rw [List.length_take] at hle
      obtain ⟨s, hs⟩ : ∃ s, l[k] = s := ⟨_, rfl⟩
      rw [hs] at sa ht
      have s1 := sa.c1
      clear sa hs
      generalize Va.of (l.take k) a = m at *
      by_cases h1 : s.account = a
      · rw [h1] at s1
        rw [if_pos h1] at ht
        have HT := Lib.hid ht
        clear ht
        go_wp2_with fail
        go_roundw
        case rel => exact ⟨k + 1, by rw [HT.out]; push_cast; rfl, by go_num, by omega, trivial⟩
        case measure => simp [intOf]; omega
      · have b1 : (s.account == a) = false := by simpa using h1
        rw [if_neg h1] at ht
        have HT := Lib.hid ht
        clear ht
        go_wp2_with fail
        go_roundw
        case rel => exact ⟨k + 1, by rw [HT.out]; rfl, by go_num, by omega, trivial⟩
        case measure => simp [intOf]; omega
    · obtain rfl : k = l.length := by omega
      rw [List.take_length]
      go_wp2_with fail
      go_ret
      exact ⟨rfl, rfl⟩
end Go.Proofs.YtfjdcopndkdbmaaGreatDoor

namespace Go.Proofs.YtfjdcopndkdbmaaGreatDoor
open Go.RowKit

/-- A row of secrets, as a value: it lies off S. -/
def Row (S : Nat → Prop) (m : List Va.Sec) (v : Value) (W : World) : Prop := ∃ A c, v = .slice A m.length c ∧ m.length ≤ c ∧ Lies S W A (secs m)
theorem Row.below {S : Nat → Prop} {m : List Va.Sec} {v : Value} {W W' : World} (h : Row S m v W) (hb : Below W.heap.size W W') : Row S m v W' := by
  obtain ⟨A, c, e, hc, hA⟩ := h
  exact ⟨A, c, e, hc, hA.below hb⟩
theorem own_cap {w : World} {base n c size : Nat} {e : TypeId} {A : Option Addr} {vs : List Value} (h : w.ownsRow base e size (.slice A n c) n vs) : n ≤ c := by
  rcases h.2 with ⟨hv, h0⟩ | ⟨g, cap, cur, hv, _, _, h1, _⟩
  · omega
  · injection hv with _ _ hc
    omega
theorem info_sec : ∃ i, Tryz.prog.info? 26 = some i ∧ i.zero = some (.agg #[.string ⟨#[]⟩, .int .i64 0, .int .i64 0, .string ⟨#[]⟩, .int .i64 0, .int .i64 0]) ∧ i.size = 6 ∧ i.bytes = 64 := info_parts (by kernel_rfl)
theorem secC_cell (s : Va.Sec) : ∀ u ∈ secC s, u.oneCell' = true := fun u hu => secs_cell [s] u (by rw [secs_one]; exact hu)
theorem filter_more (q : Va.Sec → Bool) (l : List Va.Sec) (k : Nat) (h : k < l.length) : (l.take (k + 1)).filter q = (l.take k).filter q ++ (if q l[k] = true then [l[k]] else []) := by
  rw [List.take_succ_eq_append_getElem h, List.filter_append]
  by_cases h1 : q l[k] = true <;> simp [h1]
theorem filter_few (q : Va.Sec → Bool) (l : List Va.Sec) (k : Nat) : ((l.take k).filter q).length ≤ k := by
  refine Nat.le_trans (List.length_filter_le _ _) ?_
  rw [List.length_take]
  omega
set_option maxRecDepth 100000 in
set_option maxHeartbeats 4000000 in
theorem rdrop_any {S : Nat → Prop} (A : Option Addr) (cp : Nat) (l : List Va.Sec) (_hl : l.length ≤ 1000000) (a p : Int) (w : World) (hA : Lies S w A (secs l)) :
    Calls Tryz.prog 28 #[.slice A l.length cp, .int .i64 a, .int .i64 p] w fun e w' => (∃ v, e = .returned v ∧ Row (fun b => b < w.heap.size) (Va.drop l a p) v w') ∧ Below w.heap.size w w' := by
  obtain ⟨i0, hi, hz, hs, hb⟩ := info_sec
  have HI := Lib.hid hi
  have HZ := Lib.hid hz
  have HZ1 := Lib.hid hs
  have HZ2 := Lib.hid hb
  have HA := Lib.hid hA
  clear hA hi hz hs hb
  unfold Va.drop
  generalize hQ : (fun s : Va.Sec => !(decide (s.account = a) && (decide (p = 0) || decide (s.purpose = p)))) = Q
  have HQ : Hid (∀ s, Q s = (fun s : Va.Sec => !(decide (s.account = a) && (decide (p = 0) || decide (s.purpose = p)))) s) := Lib.hid (fun s => by rw [← hQ])
  clear hQ
  go_enter Tryz.func28, Tryz.ntmps28
  go_wp2_with fail
  go_loopw [7, 8] (fun v i wr => ∃ (k n : Nat) (A' : Option Addr) (c' : Nat), v = .slice A' n c' ∧ i = .int .i64 (k : Int) ∧ k ≤ l.length ∧ n = ((l.take k).filter Q).length ∧ wr.ownsRow w.heap.size 26 6 (.slice A' n c') n (secs ((l.take k).filter Q)) ∧ Below w.heap.size w wr) (fun _ i _ => l.length - (intOf i).toNat)
  case atStart => exact ⟨0, 0, _, _, rfl, rfl, by omega, rfl, ⟨rfl, .inl ⟨rfl, rfl⟩⟩, Below.refl _ w⟩
  case round =>
    obtain ⟨k, n, A', c', rfl, rfl, hk, hn, hown, hB⟩ := hrel
    have HN := Lib.hid hn
    have HOW := Lib.hid hown
    have HBW := Lib.hid hB
    have HBs := hB.size
    have hfew := filter_few Q l k
    rw [← hn] at hfew
    clear hown hB hn
    by_cases hlt : k < l.length
    · have hki : (k : Int) < (l.length : Int) := by omega
      obtain ⟨ad, hAe, sa0⟩ := lies_sec HA.out k hlt
      subst hAe
      obtain ⟨q, hq0⟩ : ∃ q, ad.add (k * 6) = q := ⟨_, rfl⟩
      have sa : SecAt wr (ad.add (k * 6)) l[k] := sa0.below HBW.out
      rw [hq0] at sa
      have hmore := filter_more Q l k hlt
      obtain ⟨s, hs⟩ : ∃ s, l[k] = s := ⟨_, rfl⟩
      rw [hs] at sa hmore
      have s1 := sa.c1
      have s2 := sa.c2
      clear hs sa0
      by_cases h1 : s.account = a
      · by_cases h2 : p = 0
        · have hq : Q s = false := by rw [HQ.out]; simp [h1, h2]
          have b1 : (s.account != a) = false := by simpa using h1
          have b2 : (p != 0) = false := by simpa using h2
          rw [if_neg (by rw [hq]; decide), List.append_nil] at hmore
          have hn2 : n = ((l.take (k + 1)).filter Q).length := by rw [hmore]; exact HN.out
          have HN2 := Lib.hid hn2
          have HT := Lib.hid hmore
          clear hmore hn2 sa
          go_wp2_with fail
          go_roundw
          case rel => exact ⟨k + 1, n, _, _, rfl, by go_num, by omega, HN2.out, by rw [HT.out]; exact HOW.out, HBW.out⟩
          case measure => simp [intOf]; omega
        · have b1 : (s.account != a) = false := by simpa using h1
          have b2 : (p != 0) = true := by simpa using h2
          by_cases h3 : s.purpose = p
          · have hq : Q s = false := by rw [HQ.out]; simp [h1, h3]
            have b3 : (s.purpose != p) = false := by simpa using h3
            rw [if_neg (by rw [hq]; decide), List.append_nil] at hmore
            have hn2 : n = ((l.take (k + 1)).filter Q).length := by rw [hmore]; exact HN.out
            have HN2 := Lib.hid hn2
            have HT := Lib.hid hmore
            clear hmore hn2 sa
            go_wp2_with fail
            go_roundw
            case rel => exact ⟨k + 1, n, _, _, rfl, by go_num, by omega, HN2.out, by rw [HT.out]; exact HOW.out, HBW.out⟩
            case measure => simp [intOf]; omega
          · have hq : Q s = true := by rw [HQ.out]; simp [h2, h3]
            have b3 : (s.purpose != p) = true := by simpa using h3
            clear h1 h2 h3
            have ht : secs ((l.take (k + 1)).filter Q) = secs ((l.take k).filter Q) ++ secs (if Q s = true then [s] else []) := by rw [hmore, secs_append]
            rw [if_pos hq, secs_one] at ht
            have hn2 : n + 1 = ((l.take (k + 1)).filter Q).length := by rw [hmore, if_pos hq, List.length_append, ← HN.out]; rfl
            have HN2 := Lib.hid hn2
            have HT := Lib.hid ht
            clear ht hn2
            have s0 := sa.c0
            have s3 := sa.c3
            have s4 := sa.c4
            have s5 := sa.c5
            have hblk0 := Blk.new wr 26 (secC s).toArray
            have hown0 := HOW.out.alloc (.cells (secC s).toArray 26)
            rw [show (secC s).toArray = #[.string s.digest, .int .i64 s.account, .int .i64 s.purpose, .string s.channel, .int .i64 s.expires, .int .i64 s.tries] from rfl] at hblk0 hown0
            clear sa
            go_wp2_with
              (at_builtin
               refine wpList_append_lies _ rfl (.tmp 35) (.tmp 40) 22 rfl w.heap.size 26 i0 _ 6 64 Tryz.underlying22 HI.out HZ.out HZ1.out HZ2.out rfl (by decide) (.slice A' n c') n (secs ((l.take k).filter Q)) rfl hown0 ⟨wr.heap.size, 0, none⟩ 1 1 (secC s) rfl rfl (World.news_of_block hblk0) (secC_cell s) (by omega) (by unfold maxLen; omega) (by omega) (by simp; omega) (wr.heap.size + 1) (by simp) ?_
               intro g cap w4 hown2 hgrow hat hlt2
               have HO2 := Lib.hid hown2
               have HB3 := Lib.hid ((HBW.out.alloc HBs _).grown hgrow (by simp; omega) (fun j hj => own_base HOW.out hj))
               clear hown2 hgrow hat hlt2 hown0 hblk0)
            go_roundw
            case rel => exact ⟨k + 1, n + 1, _, _, rfl, by go_num, by omega, HN2.out, by rw [HT.out]; exact HO2.out, HB3.out⟩
            case measure => simp [intOf]; omega
      · have hq : Q s = true := by rw [HQ.out]; simp [h1]
        have b1 : (s.account != a) = true := by simpa using h1
        have ht : secs ((l.take (k + 1)).filter Q) = secs ((l.take k).filter Q) ++ secs (if Q s = true then [s] else []) := by rw [hmore, secs_append]
        rw [if_pos hq, secs_one] at ht
        have hn2 : n + 1 = ((l.take (k + 1)).filter Q).length := by rw [hmore, if_pos hq, List.length_append, ← HN.out]; rfl
        have HN2 := Lib.hid hn2
        have HT := Lib.hid ht
        clear ht hn2
        have s0 := sa.c0
        have s3 := sa.c3
        have s4 := sa.c4
        have s5 := sa.c5
        have hblk0 := Blk.new wr 26 (secC s).toArray
        have hown0 := HOW.out.alloc (.cells (secC s).toArray 26)
        rw [show (secC s).toArray = #[.string s.digest, .int .i64 s.account, .int .i64 s.purpose, .string s.channel, .int .i64 s.expires, .int .i64 s.tries] from rfl] at hblk0 hown0
        clear sa
        go_wp2_with
          (at_builtin
           refine wpList_append_lies _ rfl (.tmp 35) (.tmp 40) 22 rfl w.heap.size 26 i0 _ 6 64 Tryz.underlying22 HI.out HZ.out HZ1.out HZ2.out rfl (by decide) (.slice A' n c') n (secs ((l.take k).filter Q)) rfl hown0 ⟨wr.heap.size, 0, none⟩ 1 1 (secC s) rfl rfl (World.news_of_block hblk0) (secC_cell s) (by omega) (by unfold maxLen; omega) (by omega) (by simp; omega) (wr.heap.size + 1) (by simp) ?_
           intro g cap w4 hown2 hgrow hat hlt2
           have HO2 := Lib.hid hown2
           have HB3 := Lib.hid ((HBW.out.alloc HBs _).grown hgrow (by simp; omega) (fun j hj => own_base HOW.out hj))
           clear hown2 hgrow hat hlt2 hown0 hblk0)
        go_roundw
        case rel => exact ⟨k + 1, n + 1, _, _, rfl, by go_num, by omega, HN2.out, by rw [HT.out]; exact HO2.out, HB3.out⟩
        case measure => simp [intOf]; omega
    · obtain rfl : k = l.length := by omega
      have hno := HN.out
      have ho := HOW.out
      rw [List.take_length] at hno ho
      have HO := Lib.hid ho
      have HNO := Lib.hid hno
      clear ho hno HN HOW
      go_wp2_with fail
      go_ret
      exact ⟨⟨_, rfl, A', c', by rw [HNO.out]; rfl, by rw [← HNO.out]; exact own_cap HO.out, lies_made HO.out (fun g hg h => by omega)⟩, HBW.out⟩
set_option maxRecDepth 100000 in
set_option maxHeartbeats 4000000 in
theorem rsweep_any {S : Nat → Prop} (A : Option Addr) (cp : Nat) (l : List Va.Sec) (_hl : l.length ≤ 1000000) (now : Int) (w : World) (hA : Lies S w A (secs l)) :
    Calls Tryz.prog 29 #[.slice A l.length cp, .int .i64 now] w fun e w' => (∃ v, e = .returned v ∧ Row (fun b => b < w.heap.size) (Va.sweep l now) v w') ∧ Below w.heap.size w w' := by
  obtain ⟨i0, hi, hz, hs, hb⟩ := info_sec
  have HI := Lib.hid hi
  have HZ := Lib.hid hz
  have HZ1 := Lib.hid hs
  have HZ2 := Lib.hid hb
  have HA := Lib.hid hA
  clear hA hi hz hs hb
  unfold Va.sweep
  generalize hQ : (fun s : Va.Sec => decide (now < s.expires)) = Q
  have HQ : Hid (∀ s, Q s = (fun s : Va.Sec => decide (now < s.expires)) s) := Lib.hid (fun s => by rw [← hQ])
  clear hQ
  go_enter Tryz.func29, Tryz.ntmps29
  go_wp2_with fail
  go_loopw [5, 6] (fun v i wr => ∃ (k n : Nat) (A' : Option Addr) (c' : Nat), v = .slice A' n c' ∧ i = .int .i64 (k : Int) ∧ k ≤ l.length ∧ n = ((l.take k).filter Q).length ∧ wr.ownsRow w.heap.size 26 6 (.slice A' n c') n (secs ((l.take k).filter Q)) ∧ Below w.heap.size w wr) (fun _ i _ => l.length - (intOf i).toNat)
  case atStart => exact ⟨0, 0, _, _, rfl, rfl, by omega, rfl, ⟨rfl, .inl ⟨rfl, rfl⟩⟩, Below.refl _ w⟩
  case round =>
    obtain ⟨k, n, A', c', rfl, rfl, hk, hn, hown, hB⟩ := hrel
    have HN := Lib.hid hn
    have HOW := Lib.hid hown
    have HBW := Lib.hid hB
    have HBs := hB.size
    have hfew := filter_few Q l k
    rw [← hn] at hfew
    clear hown hB hn
    by_cases hlt : k < l.length
    · have hki : (k : Int) < (l.length : Int) := by omega
      obtain ⟨ad, hAe, sa0⟩ := lies_sec HA.out k hlt
      subst hAe
      obtain ⟨q, hq0⟩ : ∃ q, ad.add (k * 6) = q := ⟨_, rfl⟩
      have sa : SecAt wr (ad.add (k * 6)) l[k] := sa0.below HBW.out
      rw [hq0] at sa
      have hmore := filter_more Q l k hlt
      obtain ⟨s, hs⟩ : ∃ s, l[k] = s := ⟨_, rfl⟩
      rw [hs] at sa hmore
      have s1 := sa.c1
      have s2 := sa.c2
      have s4 := sa.c4
      clear hs sa0
      by_cases h1 : now < s.expires
      · have hq : Q s = true := by rw [HQ.out]; simp [h1]
        have ht : secs ((l.take (k + 1)).filter Q) = secs ((l.take k).filter Q) ++ secs (if Q s = true then [s] else []) := by rw [hmore, secs_append]
        rw [if_pos hq, secs_one] at ht
        have hn2 : n + 1 = ((l.take (k + 1)).filter Q).length := by rw [hmore, if_pos hq, List.length_append, ← HN.out]; rfl
        have HN2 := Lib.hid hn2
        have HT := Lib.hid ht
        clear ht hn2
        have s0 := sa.c0
        have s3 := sa.c3
        have s5 := sa.c5
        have hblk0 := Blk.new wr 26 (secC s).toArray
        have hown0 := HOW.out.alloc (.cells (secC s).toArray 26)
        rw [show (secC s).toArray = #[.string s.digest, .int .i64 s.account, .int .i64 s.purpose, .string s.channel, .int .i64 s.expires, .int .i64 s.tries] from rfl] at hblk0 hown0
        clear sa
        go_wp2_with
          (at_builtin
           refine wpList_append_lies _ rfl (.tmp 20) (.tmp 25) 22 rfl w.heap.size 26 i0 _ 6 64 Tryz.underlying22 HI.out HZ.out HZ1.out HZ2.out rfl (by decide) (.slice A' n c') n (secs ((l.take k).filter Q)) rfl hown0 ⟨wr.heap.size, 0, none⟩ 1 1 (secC s) rfl rfl (World.news_of_block hblk0) (secC_cell s) (by omega) (by unfold maxLen; omega) (by omega) (by simp; omega) (wr.heap.size + 1) (by simp) ?_
           intro g cap w4 hown2 hgrow hat hlt2
           have HO2 := Lib.hid hown2
           have HB3 := Lib.hid ((HBW.out.alloc HBs _).grown hgrow (by simp; omega) (fun j hj => own_base HOW.out hj))
           clear hown2 hgrow hat hlt2 hown0 hblk0)
        go_roundw
        case rel => exact ⟨k + 1, n + 1, _, _, rfl, by go_num, by omega, HN2.out, by rw [HT.out]; exact HO2.out, HB3.out⟩
        case measure => simp [intOf]; omega
      · have hq : Q s = false := by rw [HQ.out]; simp [h1]
        rw [if_neg (by rw [hq]; decide), List.append_nil] at hmore
        have hn2 : n = ((l.take (k + 1)).filter Q).length := by rw [hmore]; exact HN.out
        have HN2 := Lib.hid hn2
        have HT := Lib.hid hmore
        clear hmore hn2 sa
        go_wp2_with fail
        go_roundw
        case rel => exact ⟨k + 1, n, _, _, rfl, by go_num, by omega, HN2.out, by rw [HT.out]; exact HOW.out, HBW.out⟩
        case measure => simp [intOf]; omega
    · obtain rfl : k = l.length := by omega
      have hno := HN.out
      have ho := HOW.out
      rw [List.take_length] at hno ho
      have HO := Lib.hid ho
      have HNO := Lib.hid hno
      clear ho hno HN HOW
      go_wp2_with fail
      go_ret
      exact ⟨⟨_, rfl, A', c', by rw [HNO.out]; rfl, by rw [← HNO.out]; exact own_cap HO.out, lies_made HO.out (fun g hg h => by omega)⟩, HBW.out⟩
end Go.Proofs.YtfjdcopndkdbmaaGreatDoor

namespace Go.Proofs.YtfjdcopndkdbmaaGreatDoor
open Go.RowKit

theorem lies_of_cells {S : Nat → Prop} {w : World} {l : List Va.Sec} (g : Nat) (hg : g < w.heap.size) (hS : ¬ S g) (h : ∀ i k (hi : i < l.length), k < 6 → w.cell? ⟨g, i * 6 + k, .none⟩ = (secC l[i])[k]?) : Lies S w (some ⟨g, 0, .none⟩) (secs l) := by
  intro j u hj
  have hjl : j < l.length * 6 := by
    have := (List.getElem?_eq_some_iff.1 hj).1
    rwa [secs_length] at this
  have hi : j / 6 < l.length := by omega
  have he : j = j / 6 * 6 + j % 6 := by omega
  have hc := h (j / 6) (j % 6) hi (by omega)
  have hs := secs_get l (j / 6) (j % 6) hi (by omega)
  rw [← he] at hc hs
  refine ⟨⟨g, 0, .none⟩, rfl, hg, hS, ?_⟩
  rw [Addr.add_mid, Nat.zero_add, hc, ← hs, hj]
theorem cells_of_own {w : World} {base n c : Nat} {e : TypeId} {A : Option Addr} {l : List Va.Sec} (h : w.ownsRow base e 6 (.slice A n c) n (secs l)) (hn : n = l.length) (hp : 0 < n) :
    ∃ g, A = some ⟨g, 0, none⟩ ∧ base ≤ g ∧ g < w.heap.size ∧ (∀ i k (hi : i < l.length), k < 6 → w.cell? ⟨g, i * 6 + k, none⟩ = (secC l[i])[k]?) ∧ ∀ j, w.frozen? ⟨g, j, none⟩ = false := by
  rcases h.2 with ⟨hv, h0⟩ | ⟨g, cap, cur, hv, hb, hh, h1, h2, h3, h4⟩
  · omega
  · have hA : A = some ⟨g, 0, none⟩ := by injection hv
    have hbk : Blk w g e cur := hh
    refine ⟨g, hA, hb, hbk.lt, fun i k hi hk => ?_, fun j => hbk.frozen j⟩
    rw [hbk.cell, ← Array.getElem?_toList, ← secs_get l i k hi hk, ← h4, List.getElem?_take, if_pos (by omega)]
theorem own_none (w : World) (e : TypeId) : (w.alloc (.cells #[] e)).ownsRow w.heap.size e 6 (.slice (some ⟨w.heap.size, 0, none⟩) 0 0) 0 [] :=
  ⟨rfl, .inr ⟨w.heap.size, 0, #[], rfl, Nat.le_refl _, Blk.new w e #[], Nat.le_refl _, by unfold maxLen; omega, rfl, rfl⟩⟩
theorem setCells_size (g : Nat) : ∀ (vs : List Value) (o : Nat) (w : World), (w.setCells g o vs).heap.size = w.heap.size
  | [], _, _ => rfl
  | v :: vs, o, w => by
    rw [World.setCells, setCells_size g vs (o + 1)]
    simp
theorem setCells_below {B g : Nat} {w0 : World} (hg : B ≤ g) : ∀ (vs : List Value) (o : Nat) (w : World), Below B w0 w → Below B w0 (w.setCells g o vs)
  | [], _, _, h => h
  | v :: vs, o, w, h => by
    rw [World.setCells]
    exact setCells_below hg vs (o + 1) _ (h.setCell (p := ⟨g, o, none⟩) hg v)
theorem sec_row (s : Va.Sec) : (secC s).toArray = #[.string s.digest, .int .i64 s.account, .int .i64 s.purpose, .string s.channel, .int .i64 s.expires, .int .i64 s.tries] := rfl
/-- A row appended to none. -/
theorem copy_rows {S : Nat → Prop} (w : World) (A : Option Addr) (cp : Nat) (l : List Va.Sec) (hl : l.length ≤ 1000000) (hA : Lies S w A (secs l)) (ty : TypeId) :
    ∃ A' c' w', (Builtin.append_ #[22, 22] ty #[.slice (some ⟨w.heap.size, 0, none⟩) 0 0, .slice A l.length cp]).run Tryz.prog (w.alloc (.cells #[] 26)) = .ok (.slice A' l.length c') w' ∧
      w'.ownsRow w.heap.size 26 6 (.slice A' l.length c') l.length (secs l) ∧ Below w.heap.size w w' := by
  obtain ⟨i0, hi, hz, hs, hb⟩ := info_sec
  have hb1 : Below w.heap.size w (w.alloc (.cells #[] 26)) := (Below.refl _ w).alloc (Nat.le_refl _) _
  obtain ⟨A', c', w', hr, ho, hg⟩ := run_append_rows (P := Tryz.prog) (w.alloc (.cells #[] 26)) w.heap.size 6 (by decide) 22 ty 26 i0 _ 64 Tryz.underlying22 hi hz hs hb rfl _ 0 [] (own_none w 26) A l.length cp (secs l) (secs_length l) (hA.below hb1) (secs_cell l) (by unfold maxLen; omega) (by omega) (by simp)
  rw [Nat.zero_add, List.nil_append] at *
  exact ⟨A', c', w', hr, ho, hb1.grown hg (by simp) (fun j hj => by injection hj with hj; show _ ≤ j; rw [← hj]; exact Nat.le_refl _)⟩
set_option maxRecDepth 100000 in
set_option maxHeartbeats 2000000 in
theorem rwith_any {S : Nat → Prop} (A : Option Addr) (cp : Nat) (l : List Va.Sec) (hl : l.length ≤ 1000000) (i : Nat) (hi : i < l.length) (s : Va.Sec) (w : World) (hA : Lies S w A (secs l)) :
    Calls Tryz.prog 55 #[.slice A l.length cp, .int .i64 (i : Int), .agg #[.string s.digest, .int .i64 s.account, .int .i64 s.purpose, .string s.channel, .int .i64 s.expires, .int .i64 s.tries]] w fun e w' => (∃ v, e = .returned v ∧ Row (fun b => b < w.heap.size) (l.set i s) v w') ∧ Below w.heap.size w w' := by
  have hb1 : Below w.heap.size w (w.alloc (.cells (secC s).toArray 26)) := (Below.refl _ w).alloc (Nat.le_refl _) _
  obtain ⟨A', c', w2, hr, ho, hb2⟩ := copy_rows (w.alloc (.cells (secC s).toArray 26)) A cp l hl (hA.below hb1) 22
  obtain ⟨g, rfl, hg, hgl, hc, hf⟩ := cells_of_own ho rfl (by omega)
  have hx := (Blk.new w 26 (secC s).toArray).of (hb2.block _ (by simp))
  have hg2 : w.heap.size + 1 ≤ g := by simpa using hg
  have hB : Below w.heap.size w w2 := hb1.trans (hb2.mono (by simp))
  have ht : w2.there g (i * 6) (secC s).toArray.size := fun j hj => ⟨by rw [hc i j hi (by simpa [secC] using hj), Option.isSome_iff_exists]; exact ⟨_, List.getElem?_eq_getElem (by simpa [secC] using hj)⟩, hf _⟩
  have hres : Row (fun b => b < w.heap.size) (l.set i s) (.slice (some ⟨g, 0, none⟩) l.length c') (w2.setCells g (i * 6) (secC s)) := by
    refine ⟨_, _, by rw [List.length_set], by rw [List.length_set]; exact own_cap ho, lies_of_cells g (by rw [setCells_size]; exact hgl) (by show ¬ g < w.heap.size; omega) (fun j k hj hk => ?_)⟩
    rw [List.length_set] at hj
    by_cases e : j = i
    · subst e
      have h6 : k < (secC s).length := hk
      rw [World.cell?_setCells_in g (secC s) (j * 6) w2 (fun q hq => (ht q (by simpa using hq)).1) k h6, List.getElem_set_self, List.getElem?_eq_getElem h6]
    · rw [World.cell?_setCells_out g (secC s) (i * 6) w2 ⟨g, j * 6 + k, none⟩ (fun _ _ => by show j * 6 + k < i * 6 ∨ i * 6 + 6 ≤ j * 6 + k; omega), hc j k hj hk, List.getElem_set_ne (by omega)]
  have hbel : Below w.heap.size w (w2.setCells g (i * 6) (secC s)) := setCells_below (by omega) _ _ _ hB
  have x0 : w2.cell? ⟨w.heap.size, 0, none⟩ = some (.string s.digest) := (hx.cell 0).trans rfl
  have x1 : w2.cell? ⟨w.heap.size, 1, none⟩ = some (.int .i64 s.account) := (hx.cell 1).trans rfl
  have x2 : w2.cell? ⟨w.heap.size, 2, none⟩ = some (.int .i64 s.purpose) := (hx.cell 2).trans rfl
  have x3 : w2.cell? ⟨w.heap.size, 3, none⟩ = some (.string s.channel) := (hx.cell 3).trans rfl
  have x4 : w2.cell? ⟨w.heap.size, 4, none⟩ = some (.int .i64 s.expires) := (hx.cell 4).trans rfl
  have x5 : w2.cell? ⟨w.heap.size, 5, none⟩ = some (.int .i64 s.tries) := (hx.cell 5).trans rfl
  have hp : (⟨g, 0, none⟩ : Addr).add (i * 6) = ⟨g, i * 6, none⟩ := by rw [Addr.add_mid, Nat.zero_add]
  have hili : (i : Int) < (l.length : Int) := by omega
  have hone := all_oneCell_toArray (secC_cell s)
  rw [sec_row] at hr ht hone
  rw [show (w.alloc (.cells #[.string s.digest, .int .i64 s.account, .int .i64 s.purpose, .string s.channel, .int .i64 s.expires, .int .i64 s.tries] 26)).heap.size = w.heap.size + 1 by simp] at hr
  have HRA := Lib.hid hr
  have HT := Lib.hid ht
  have HO := Lib.hid hone
  have HRES := Lib.hid hres
  have HBE := Lib.hid hbel
  clear hr ht hone hres hbel hx hc hf hb1 hb2 hB ho hg hA
  go_enter Tryz.func55, Tryz.ntmps55
  go_wp2_with (first
    | (at_builtin; refine wpList_append_run rfl (.tmp 8) (.tmp 9) 22 22 rfl _ _ _ rfl rfl HRA.out ?_)
    | (refine wpList_store_mid rfl 26 (.tmp 14) (.tmp 13) rfl g (i * 6) _ rfl rfl HT.out sec_size HO.out ?_))
  go_ret
  exact ⟨⟨_, rfl, HRES.out⟩, HBE.out⟩
/-- An append whose run is known, as a step of a statement whose order is open. -/
theorem step_append_run {P : Program} {w w' : World} {ops : Array Oper} {o : Oper} {a : Act} {K : Act → World → Prop} {Q : Exit → Act → World → Prop} {E : Prop} (hgd : o.guard = none) (s x : Operand) (t u : TypeId)
    (ho : o.op = .call { callee := .builtin .append, args := #[s, x], argTypes := #[t, u] }) (v y v' : Value) (hs : a.eval s = v) (hx : a.eval x = y)
    (hr : (Builtin.append_ #[t, u] o.type #[v, y]).run P w = .ok v' w') (h : K (a.put o.dst v') w') :
    if Region.wanted o (yielded ops a.tmps) = true then Oper.wp P o a w K Q else E := by
  have hw : Region.wanted o (yielded ops a.tmps) = true := by simp [Region.wanted, hgd]
  rw [if_pos hw]
  unfold Oper.wp execOp
  simp only [ho, resolve, invoke, builtin, Sem.run_bind, Sem.run_pure, Result.andThen_ok, List.map_toArray, List.map_cons, List.map_nil, hs, hx, hr]
  exact h
/-- A row cut: its beginning, and what is behind. -/
theorem add_zero_ (a : Addr) : a.add 0 = a := rfl
theorem run_rows_to (A : Option Addr) (n cp i : Nat) (hi : i ≤ n) (hn : n ≤ cp) (W : World) : (Instr.slice 22 (.slice A n cp) none (some (.int .i64 (i : Int))) none).run Tryz.prog W = .ok (.slice A i cp) W := by
  obtain ⟨t, hq, _, _, _⟩ := info_sec
  have h1 : i ≤ cp := Nat.le_trans hi hn
  cases A <;> simp [Instr.slice, Instr.sliceBounds, Instr.sliceBound, asIntOf, run_underlying Tryz.underlying22, sizeOf, typeInfo, hq, h1, add_zero_]
theorem lies_take {S : Nat → Prop} {w : World} {A : Option Addr} {l : List Va.Sec} (h : Lies S w A (secs l)) (i : Nat) : Lies S w A (secs (l.take i)) := fun j u hj => by
  rw [secs_take, List.getElem?_take] at hj
  split at hj
  · exact h j u hj
  · cases hj
theorem lies_drop {S : Nat → Prop} {w : World} {A A' : Option Addr} {l : List Va.Sec} (h : Lies S w A (secs l)) (i : Nat) (hA : i < l.length → ∀ a, A = some a → A' = some (a.add (i * 6))) : Lies S w A' (secs (l.drop i)) := fun j u hj => by
  rw [secs_drop, List.getElem?_drop] at hj
  have hi : i < l.length := by
    have h1 := (List.getElem?_eq_some_iff.1 hj).1
    rw [secs_length] at h1
    omega
  obtain ⟨a, rfl, h1, h2, h3⟩ := h _ u hj
  refine ⟨a.add (i * 6), hA hi a rfl, by rw [add_block]; exact h1, by rw [add_block]; exact h2, ?_⟩
  have e : (a.add (i * 6)).add j = a.add (i * 6 + j) := by
    rcases Nat.eq_zero_or_pos j with h0 | h0
    · subst h0; rfl
    · rw [add_add _ _ _ h0]
      unfold Addr.add
      rw [if_neg (by omega)]
  rw [e]
  exact h3
set_option maxRecDepth 100000 in
set_option maxHeartbeats 2000000 in
theorem rwithout_any {S : Nat → Prop} (A : Option Addr) (cp : Nat) (l : List Va.Sec) (hl : l.length ≤ 1000000) (hcp : l.length ≤ cp) (i : Nat) (hi : i < l.length) (w : World) (hA : Lies S w A (secs l)) :
    Calls Tryz.prog 54 #[.slice A l.length cp, .int .i64 (i : Int)] w fun e w' => (∃ v, e = .returned v ∧ Row (fun b => b < w.heap.size) (l.eraseIdx i) v w') ∧ Below w.heap.size w w' := by
  have hlt : (l.take i).length = i := by rw [List.length_take]; omega
  have hld : (l.drop (i + 1)).length = l.length - (i + 1) := by rw [List.length_drop]
  obtain ⟨A1, c1, w2, hr, ho, hb2⟩ := copy_rows w.drew A cp (l.take i) (by omega) (lies_take (hA.below (Below.refl _ w).drew) i) 22
  rw [hlt] at hr ho
  have hs1 := run_rows_to A l.length cp i (by omega) hcp
  have hw1 : IntKind.i64.wrap ((i : Int) + 1) = (i : Int) + 1 := by rw [IntKind.wrap_i64]; omega
  have hin : (0 : Int) ≤ (i : Int) + 1 ∧ (i : Int) + 1 ≤ (l.length : Int) := by omega
  have hA2 : i + 1 < l.length → ∀ a, A = some a → (if cp = i + 1 then A else Option.map (fun x => x.add ((i + 1) * 6)) A) = some (a.add ((i + 1) * 6)) := fun h a e => by
    rw [if_neg (by omega), e]
    rfl
  obtain ⟨i0, hi0, hz, hsz, hby⟩ := info_sec
  have hL2 := lies_drop (hA.below (Below.trans (Below.refl _ w).drew hb2)) (i + 1) hA2
  obtain ⟨A3, c3, w3, hr3, ho3, hg3⟩ := run_append_rows (P := Tryz.prog) w2 w.heap.size 6 (by decide) 22 22 26 i0 _ 64 Tryz.underlying22 hi0 hz hsz hby rfl _ i (secs (l.take i)) ho (if cp = i + 1 then A else Option.map (fun x => x.add ((i + 1) * 6)) A) (l.length - (i + 1)) (cp - (i + 1)) (secs (l.drop (i + 1))) (by rw [secs_length, hld]) hL2 (secs_cell _) (by unfold maxLen; omega) (by omega) hb2.size
  have hm : i + (l.length - (i + 1)) = (l.eraseIdx i).length := by rw [List.length_eraseIdx, if_pos hi]; omega
  have he : secs (l.take i) ++ secs (l.drop (i + 1)) = secs (l.eraseIdx i) := by rw [← secs_append, List.eraseIdx_eq_take_drop_succ]
  rw [hm] at hr3 ho3
  rw [he] at ho3
  have hB3 : Below w.heap.size w w3 := ((Below.refl _ w).drew.trans hb2).grown hg3 hb2.size (fun j hj => own_base ho hj)
  have hres : Row (fun b => b < w.heap.size) (l.eraseIdx i) (.slice A3 (l.eraseIdx i).length c3) w3 := ⟨A3, c3, rfl, own_cap ho3, lies_made ho3 (fun g hg h => by omega)⟩
  have HR := Lib.hid hr
  have HR3 := Lib.hid hr3
  have HB3 := Lib.hid hB3
  have HRES := Lib.hid hres
  clear hr hr3 ho ho3 hg3 hB3 hres hA hL2 hA2 hb2 hm he hlt hld
  go_enter Tryz.func54, Tryz.ntmps54
  go_wp2_with fail
  go_region_law (first
    | (refine step_append_run rfl (.tmp 5) (.tmp 8) 22 22 rfl _ _ _ rfl rfl HR.out ?_)
    | (refine step_append_run rfl (.tmp 9) (.tmp 13) 22 22 rfl _ _ _ rfl rfl HR3.out ?_))
  all_goals go_wp2_with fail
  all_goals go_ret
  all_goals exact ⟨⟨_, rfl, HRES.out⟩, HB3.out⟩
end Go.Proofs.YtfjdcopndkdbmaaGreatDoor
