/-
  Contracts of slices.Clone, slices.Grow and slices.Concat at rows of secrets. Condition: rows of at most 1000000 secrets, 3000000 in all.
  Contracts of slices.IndexFunc and slices.DeleteFunc at rows of secrets, over whatever function value tells 'yes' or 'no' of a secret. Condition: rows of at most 1000000 secrets.
  Contract of slices.DeleteFunc at rows of secrets that a call has made, over whatever function value tells 'yes' or 'no' of a secret. Condition: rows of at most 1000000 secrets.
-/
import Derived.Lib.AppendZerosOnto
import Derived.LoopTactic
import Derived.Test.YtfjdcopndkdbmaaGreatDoorVra

namespace Go.Proofs.YtfjdcopndkdbmaaGreatDoor
open Go.RowKit

theorem eql_nil (a : Option Addr) (l c : Nat) (w : World) : (binOp .eql 22 (.slice a l c) (.slice none 0 0)).run Tryz.prog w = .ok (.bool a.isNone) w := by
  simp only [binOp]
  simp [run_equal_slice_nil w 22 26 a l c Tryz.underlying22]
theorem own_nil (w : World) (base : Nat) (e : TypeId) : w.ownsRow base e 6 (.slice none 0 0) 0 (secs []) := ⟨rfl, .inl ⟨rfl, rfl⟩⟩
set_option maxRecDepth 100000 in
set_option maxHeartbeats 2000000 in
theorem clone_any {S : Nat → Prop} (A : Option Addr) (cp : Nat) (l : List Va.Sec) (hl : l.length ≤ 1000000) (hcp : l.length ≤ cp) (w : World) (hA : Lies S w A (secs l)) :
    Calls Tryz.prog 36 #[.slice A l.length cp] w fun e w' => (∃ A' c', e = .returned (.slice A' l.length c') ∧ w'.ownsRow w.heap.size 26 6 (.slice A' l.length c') l.length (secs l)) ∧ Below w.heap.size w w' := by
  cases A with
  | none =>
    have h0 : l = [] := by
      cases l with
      | nil => rfl
      | cons s r =>
        obtain ⟨a, h, _⟩ := lies_sec hA 0 (by simp)
        cases h
    subst h0
    have hO := Lib.hid (own_nil w w.heap.size 26)
    have hE := eql_nil none 0 cp
    rw [Option.isNone_none] at hE
    go_enter Tryz.func36, Tryz.ntmps36
    go_wp2_with fail
    go_ret
    exact ⟨⟨_, _, rfl, hO.out⟩, Below.refl _ w⟩
  | some a =>
    obtain ⟨A', c', w2, hr, ho, hb⟩ := copy_rows w (some a) cp l hl hA 22
    have HR := Lib.hid hr
    have HO := Lib.hid ho
    have HB := Lib.hid hb
    have hE := eql_nil (some a) l.length cp
    rw [Option.isNone_some] at hE
    clear hr ho hb hA
    go_enter Tryz.func36, Tryz.ntmps36
    go_wp2_with (at_builtin; refine wpList_append_run rfl (.tmp 5) (.tmp 6) 22 22 rfl _ _ _ rfl rfl HR.out ?_)
    go_ret
    exact ⟨⟨_, _, rfl, HO.out⟩, HB.out⟩

set_option maxHeartbeats 1000000 in
set_option maxRecDepth 100000 in
theorem sgrow_any (n : Nat) (h2 : n ≤ 3000000) (w : World) :
    Calls Tryz.prog 65 #[.slice none 0 0, .int .i64 (n : Int)] w fun e w' => (∃ A c, e = .returned (.slice A 0 c) ∧ w'.ownsRow w.heap.size 26 6 (.slice A 0 c) 0 (secs [])) ∧ Below w.heap.size w w' := by
  by_cases h1 : n = 0
  · subst h1
    have hO := Lib.hid (own_nil w w.heap.size 26)
    go_enter Tryz.func65, Tryz.ntmps65
    go_wp2_with fail
    go_ret
    exact ⟨⟨_, _, rfl, hO.out⟩, Below.refl _ w⟩
  · obtain ⟨i0, hi, hz, hs, hb⟩ := info_sec
    have hrz := fun ty => Lib.run_append_grow_zeros (P := Tryz.prog) w 22 3 ty 26 i0 _ .i64 .i64 Tryz.underlying22 Tryz.underlying3 hi hz none 0 0 [] (run_firstCells_none w.drew i0.size 0 0 0) n (by omega) (by omega) (by omega) (by omega) (by rw [hb]; omega)
      (by rw [hb]; exact growslice_fits (by omega) (by omega))
    rw [Nat.zero_add] at hrz
    have hge := grownCap_ge w n 0 26
    have hle := grownCap_le_maxLen w n 0 26 (by unfold maxLen; omega)
    obtain ⟨z, hZ⟩ : ∃ z, Value.cells (.agg #[.string ⟨#[]⟩, .int .i64 0, .int .i64 0, .string ⟨#[]⟩, .int .i64 0, .int .i64 0]) = z := ⟨_, rfl⟩
    have hzs : z.size = 6 := by rw [← hZ]; rfl
    rw [hZ] at hrz
    have hOwn : (w.drew.alloc (.cells (([] : List Value).toArray ++ Builtin.zeroCells z n ++ Builtin.zeroCells z (grownCap w n 0 26 - n)) 26)).ownsRow w.heap.size 26 6 (.slice (some ⟨w.heap.size, 0, none⟩) 0 (grownCap w n 0 26)) 0 (secs []) := by
      refine ⟨rfl, .inr ⟨w.heap.size, _, _, rfl, Nat.le_refl _, Blk.new w.drew _ _, by omega, hle, ?_, by simp [secs]⟩⟩
      simp [Builtin.zeroCells, hzs]
      omega
    have hOwn' := Lib.hid hOwn
    have hBel := Lib.hid (((Below.refl _ w).drew.alloc (Nat.le_refl _) (.cells (([] : List Value).toArray ++ Builtin.zeroCells z n ++ Builtin.zeroCells z (grownCap w n 0 26 - n)) 26)))
    generalize w.drew.alloc (.cells (([] : List Value).toArray ++ Builtin.zeroCells z n ++ Builtin.zeroCells z (grownCap w n 0 26 - n)) 26) = w1 at hrz hOwn' hBel
    generalize grownCap w n 0 26 = G at *
    have hG63 : G ≤ 9223372036854775807 := by unfold maxLen at hle; omega
    have hn0 : (n : Int) > 0 := by omega
    clear hOwn hZ
    go_enter Tryz.func65, Tryz.ntmps65
    go_wp2_with (at_builtin; refine wpList_append_run rfl _ _ _ _ rfl _ _ _ rfl rfl (hrz _) ?_)
    all_goals (go_ret; exact ⟨⟨_, _, rfl, hOwn'.out⟩, hBel.out⟩)

/-- Rows, one behind the other: of so many of them. -/
def sumL (L : List (List Va.Sec)) (k : Nat) : Nat := ((L.take k).flatten).length
theorem flat_more (L : List (List Va.Sec)) (k : Nat) (h : k < L.length) : (L.take (k + 1)).flatten = (L.take k).flatten ++ L[k] := by
  rw [List.take_succ_eq_append_getElem h, List.flatten_append]
  simp
theorem flat_le (L : List (List Va.Sec)) (k : Nat) : ((L.take k).flatten).length ≤ L.flatten.length := by
  conv => rhs; rw [← List.take_append_drop k L, List.flatten_append, List.length_append]
  omega
set_option maxHeartbeats 4000000 in
set_option maxRecDepth 100000 in
theorem sconcat_any {S : Nat → Prop} (L : List (List Va.Sec)) (hL : L.length ≤ 10) (hT : L.flatten.length ≤ 3000000) (B c : Nat) (w : World) (hB : B < w.heap.size)
    (hc : ∀ j (hj : j < L.length), ∃ A cp, w.cell? ⟨B, j, none⟩ = some (.slice A L[j].length cp) ∧ Lies S w A (secs L[j])) :
    Calls Tryz.prog 40 #[.slice (some ⟨B, 0, none⟩) L.length c] w fun e w' => (∃ v, e = .returned v ∧ Row (fun b => b < w.heap.size) L.flatten v w') ∧ Below w.heap.size w w' := by
  obtain ⟨i0, hi, hz, hs, hb⟩ := info_sec
  have HI := Lib.hid hi
  have HZ := Lib.hid hz
  have HZ1 := Lib.hid hs
  have HZ2 := Lib.hid hb
  have HC := Lib.hid hc
  clear hi hz hs hb hc
  go_enter Tryz.func40, Tryz.ntmps40
  go_wp2_with fail
  go_loop [3, 5, 11] (fun s _ i => ∃ k n : Nat, i = .int .i64 (k : Int) ∧ k ≤ L.length ∧ n = ((L.take k).flatten).length ∧ s = .int .i64 (n : Int)) (fun _ _ i => L.length - (intOf i).toNat)
  case atStart => exact ⟨0, 0, rfl, by omega, rfl, rfl⟩
  case round =>
    obtain ⟨k, n, rfl, hk, hn, rfl⟩ := hrel
    by_cases hlt : k < L.length
    · obtain ⟨A, cp, hcell, _⟩ := HC.out k hlt
      have hadd : (⟨B, 0, none⟩ : Addr).add k = ⟨B, k, none⟩ := by rw [Addr.add_mid, Nat.zero_add]
      have h1 := flat_le L (k + 1)
      have hm := flat_more L k hlt
      have hn2 : ((L.take (k + 1)).flatten).length = n + L[k].length := by rw [hm, List.length_append, hn]
      rw [hn2] at h1
      have HN := Lib.hid hn2
      clear hn2 hm hn
      generalize L[k].length = m at hcell h1 HN
      have hki : (k : Int) < (L.length : Int) := by omega
      have hnm : n + m ≤ 3000000 := by omega
      go_wp2_with fail
      go_round
      case rel => exact ⟨k + 1, n + m, by go_num, by omega, HN.out.symm, by go_num⟩
      case measure => simp [intOf]; omega
    · obtain rfl : k = L.length := by omega
      rw [List.take_length] at hn
      have hG := Lib.hid (fun W => sgrow_any n (by omega) W)
      have HN := Lib.hid hn
      have hn3 : n ≤ 3000000 := by omega
      clear hn
      go_wp2_with fail
      refine (hG.out w).mono ?_
      rintro e w1 ⟨⟨A1, c1, rfl, hown⟩, hb⟩
      have HOW := Lib.hid hown
      have HBW := Lib.hid hb
      clear hown hb hG
      go_wp2_with fail
      go_loopw [6, 8, 27] (fun v _ i wr => ∃ (k n : Nat) (A' : Option Addr) (c' : Nat), i = .int .i64 (k : Int) ∧ k ≤ L.length ∧ n = ((L.take k).flatten).length ∧ v = .slice A' n c' ∧ wr.ownsRow w.heap.size 26 6 (.slice A' n c') n (secs (L.take k).flatten) ∧ Below w.heap.size w wr) (fun _ _ i _ => L.length - (intOf i).toNat)
      case atStart => exact ⟨0, 0, A1, c1, rfl, by omega, rfl, rfl, HOW.out, HBW.out⟩
      case round =>
        obtain ⟨k, q, A', c', rfl, hk2, hq, rfl, hown, hb2⟩ := hrel
        by_cases hlt : k < L.length
        · obtain ⟨A, cp, hcell, hlies⟩ := HC.out k hlt
          have hadd : (⟨B, 0, none⟩ : Addr).add k = ⟨B, k, none⟩ := by rw [Addr.add_mid, Nat.zero_add]
          have hcell2 := (hb2.cell (p := ⟨B, k, none⟩) hB).trans hcell
          have h1 := flat_le L (k + 1)
          have hm := flat_more L k hlt
          have hn2 : ((L.take (k + 1)).flatten).length = q + L[k].length := by rw [hm, List.length_append, hq]
          rw [hn2] at h1
          obtain ⟨A3, c3, w3, hrun, hown3, hgr⟩ := run_append_rows (P := Tryz.prog) wr w.heap.size 6 (by decide) 22 22 26 i0 _ 64 Tryz.underlying22 HI.out HZ.out HZ1.out HZ2.out rfl _ q (secs (L.take k).flatten) hown A L[k].length cp (secs L[k]) (secs_length _) (hlies.below hb2) (secs_cell _) (by unfold maxLen; omega) (by omega) hb2.size
          rw [← secs_append, ← hm] at hown3
          have HB3 := Lib.hid (hb2.grown hgr hb2.size (fun j hj => own_base hown hj))
          have HOW3 := Lib.hid hown3
          have HN := Lib.hid hn2
          have HRU := Lib.hid hrun
          clear hn2 hm hq hown3 hgr hown hb2 hcell hlies hrun
          generalize L[k].length = m at hcell2 h1 HN HOW3 HRU
          have hki : (k : Int) < (L.length : Int) := by omega
          go_wp2_with (at_builtin; refine wpList_append_run rfl (.tmp 31) (.tmp 32) 22 22 rfl _ _ _ rfl rfl HRU.out ?_)
          go_roundw
          case rel => exact ⟨k + 1, q + m, A3, c3, by go_num, by omega, HN.out.symm, rfl, HOW3.out, HB3.out⟩
          case measure => simp [intOf]; omega
        · obtain rfl : k = L.length := by omega
          rw [List.take_length] at hq hown
          have HO := Lib.hid hown
          have HQ := Lib.hid hq
          have HB2 := Lib.hid hb2
          clear hown hq hb2
          go_wp2_with fail
          go_ret
          exact ⟨⟨_, rfl, A', c', by rw [HQ.out]; rfl, by rw [← HQ.out]; exact own_cap HO.out, lies_made HO.out (fun g hg h => by omega)⟩, HB2.out⟩
end Go.Proofs.YtfjdcopndkdbmaaGreatDoor

namespace Go.Proofs.YtfjdcopndkdbmaaGreatDoor
open Go.RowKit

/-- A function value, with what it has captured, that tells q of a secret, whatever has been made since the world w. -/
structure Tells (g : Nat) (cap : Array Value) (q : Va.Sec → Bool) (w : World) : Prop where
  enters : ∀ (args : Array Value) (W : World), (callFunc g args).run Tryz.prog W = .ok (.enter g args) W
  gives : ∀ (W : World) (s : Va.Sec), Below w.heap.size w W → Calls Tryz.prog g (#[.agg #[.string s.digest, .int .i64 s.account, .int .i64 s.purpose, .string s.channel, .int .i64 s.expires, .int .i64 s.tries]] ++ cap) W fun e w' => e = .returned (.bool (q s)) ∧ Below W.heap.size W w'
def idxI (q : Va.Sec → Bool) (l : List Va.Sec) : Int := match l.findIdx? q with | some i => (i : Int) | none => -1
theorem idx_first {q : Va.Sec → Bool} {l : List Va.Sec} {i : Nat} (hi : i < l.length) (he : q l[i] = true) (hf : ∀ j (hj : j < i), q (l[j]'(by omega)) = false) : l.findIdx? q = some i := by
  rw [List.findIdx?_eq_some_iff_getElem]
  exact ⟨hi, he, fun j hj => by rw [hf j hj]; decide⟩
theorem idx_never {q : Va.Sec → Bool} {l : List Va.Sec} (hf : ∀ j (hj : j < l.length), q l[j] = false) : l.findIdx? q = none := by
  rw [List.findIdx?_eq_none_iff]
  intro x hx
  obtain ⟨j, hj, rfl⟩ := List.mem_iff_getElem.1 hx
  exact hf j hj
set_option maxRecDepth 100000 in
set_option maxHeartbeats 4000000 in
theorem sindex_any {S : Nat → Prop} (q : Va.Sec → Bool) (g : Nat) (cap : Array Value) (w0 : World) (hp : Tells g cap q w0) (A : Option Addr) (cp : Nat) (l : List Va.Sec) (_hl : l.length ≤ 1000000) (w : World) (h0 : Below w0.heap.size w0 w) (hA : Lies S w A (secs l)) :
    Calls Tryz.prog 62 #[.slice A l.length cp, .func (.func g) #[] cap] w fun e w' => e = .returned (.int .i64 (idxI q l)) ∧ Below w.heap.size w w' := by
  have HP := Lib.hid hp.gives
  have HE := hp.enters
  have HA := Lib.hid hA
  have H0 := Lib.hid h0
  obtain ⟨R, hR⟩ : ∃ R, idxI q l = R := ⟨_, rfl⟩
  rw [hR]
  have HR := Lib.hid hR
  clear hp hA h0 hR
  go_enter Tryz.func62, Tryz.ntmps62
  go_wp2_with fail
  go_loopw [5, 8] (fun _ i wr => ∃ k : Nat, i = .int .i64 (k : Int) ∧ k ≤ l.length ∧ (∀ j (hj : j < l.length), j < k → q l[j] = false) ∧ Below w.heap.size w wr) (fun _ i _ => l.length - (intOf i).toNat)
  case atStart => exact ⟨0, rfl, by omega, fun j _ hj => absurd hj (by omega), Below.refl _ w⟩
  case round =>
    obtain ⟨k, rfl, hk, hno, hB⟩ := hrel
    have HB := Lib.hid hB
    have HNO := Lib.hid hno
    clear hno
    by_cases hlt : k < l.length
    · obtain ⟨ad, hAe, sa0⟩ := lies_sec HA.out k hlt
      subst hAe
      have sa : SecAt wr (ad.add (k * 6)) l[k] := sa0.below HB.out
      obtain ⟨p, hq0⟩ : ∃ p, ad.add (k * 6) = p := ⟨_, rfl⟩
      rw [hq0] at sa
      obtain ⟨s, hs⟩ : ∃ s, l[k] = s := ⟨_, rfl⟩
      have HS := Lib.hid hs
      rw [hs] at sa
      have s0 := sa.c0
      have s1 := sa.c1
      have s2 := sa.c2
      have s3 := sa.c3
      have s4 := sa.c4
      have s5 := sa.c5
      have hcall := HP.out wr s (H0.out.trans (hB.mono H0.out.size))
      have hki : (k : Int) < (l.length : Int) := by omega
      clear sa sa0 hs hB
      cases hq : q s with
      | true =>
        rw [hq] at hcall
        have HZ : Hid (R = (k : Int)) := Lib.hid (by
          rw [← HR.out]
          unfold idxI
          rw [idx_first hlt (by rw [HS.out]; exact hq) (fun j hj => HNO.out j (by omega) hj)])
        have HCA := Lib.hid hcall
        clear hcall
        go_wp2_with fail
        refine HCA.out.mono ?_
        rintro e w2 ⟨rfl, hb⟩
        have HB2 := Lib.hid (HB.out.trans (hb.mono HB.out.size))
        clear hb
        go_wp2_with fail
        go_ret
        exact ⟨congrArg (fun z => Ending.returned (.int .i64 z)) HZ.out.symm, HB2.out⟩
      | false =>
        rw [hq] at hcall
        have HCA := Lib.hid hcall
        clear hcall
        go_wp2_with fail
        refine HCA.out.mono ?_
        rintro e w2 ⟨rfl, hb⟩
        have HB2 := Lib.hid (HB.out.trans (hb.mono HB.out.size))
        clear hb
        go_wp2_with fail
        go_roundw
        case rel => exact ⟨k + 1, by go_num, by omega, fun j hj1 hj2 => by
          rcases Nat.lt_or_ge j k with h | h
          · exact HNO.out j hj1 h
          · have e : j = k := by omega
            subst e
            rw [HS.out]
            exact hq, HB2.out⟩
        case measure => simp [intOf]; omega
    · obtain rfl : k = l.length := by omega
      have HZ : Hid (R = -1) := Lib.hid (by
        rw [← HR.out]
        unfold idxI
        rw [idx_never (fun j hj => HNO.out j hj hj)])
      clear hB
      go_wp2_with fail
      go_ret
      exact ⟨congrArg (fun z => Ending.returned (.int .i64 z)) HZ.out.symm, HB.out⟩

/-- The cells of a row of secrets in a block of the call's own. -/
structure SL (w : World) (g : Nat) (m : List Va.Sec) : Prop where
  lt : g < w.heap.size
  cell : ∀ j k (hj : j < m.length), k < 6 → w.cell? ⟨g, j * 6 + k, none⟩ = (secC m[j])[k]?
  froz : ∀ o, w.frozen? ⟨g, o, none⟩ = false
theorem SL.below {w w' : World} {g : Nat} {m : List Va.Sec} (h : SL w g m) (hb : Below w.heap.size w w') : SL w' g m :=
  ⟨Nat.lt_of_lt_of_le h.lt hb.size, fun j k hj hk => (hb.cell (p := ⟨g, j * 6 + k, none⟩) h.lt).trans (h.cell j k hj hk), fun o => by
    have := h.froz o
    unfold World.frozen? at this ⊢
    rw [hb.block g h.lt]
    exact this⟩
theorem SL.set {w : World} {g : Nat} {m : List Va.Sec} (h : SL w g m) (i : Nat) (hi : i < m.length) (s : Va.Sec) : SL (w.setCells g (i * 6) (secC s)) g (m.set i s) := by
  refine ⟨by rw [setCells_size]; exact h.lt, fun j k hj hk => ?_, fun o => by rw [World.frozen?_setCells]; exact h.froz o⟩
  rw [List.length_set] at hj
  by_cases e : j = i
  · subst e
    have h6 : k < (secC s).length := hk
    rw [World.cell?_setCells_in g (secC s) (j * 6) w (fun q hq => by rw [h.cell j q hi (by simpa [secC] using hq), Option.isSome_iff_exists]; exact ⟨_, List.getElem?_eq_getElem (by simpa [secC] using hq)⟩) k h6, List.getElem_set_self, List.getElem?_eq_getElem h6]
  · rw [World.cell?_setCells_out g (secC s) (i * 6) w ⟨g, j * 6 + k, none⟩ (fun _ _ => by show j * 6 + k < i * 6 ∨ i * 6 + 6 ≤ j * 6 + k; omega), h.cell j k hj hk, List.getElem_set_ne (by omega)]
theorem SL.there {w : World} {g : Nat} {m : List Va.Sec} (h : SL w g m) (i n : Nat) (hi : i + n ≤ m.length) : w.there g (i * 6) (n * 6) := fun j hj => by
  refine ⟨?_, h.froz _⟩
  have e : i * 6 + j = (i + j / 6) * 6 + j % 6 := by omega
  have h1 : i + j / 6 < m.length := by omega
  rw [e, h.cell (i + j / 6) (j % 6) h1 (by omega), Option.isSome_iff_exists]
  exact ⟨_, List.getElem?_eq_getElem (by show j % 6 < 6; omega)⟩
theorem SL.sec {w : World} {g : Nat} {m : List Va.Sec} (h : SL w g m) (j : Nat) (hj : j < m.length) : SecAt w ⟨g, j * 6, none⟩ m[j] :=
  ⟨(h.cell j 0 hj (by decide)).trans rfl, (h.cell j 1 hj (by decide)).trans rfl, (h.cell j 2 hj (by decide)).trans rfl, (h.cell j 3 hj (by decide)).trans rfl, (h.cell j 4 hj (by decide)).trans rfl, (h.cell j 5 hj (by decide)).trans rfl, h.lt⟩
/-- Behind a clearing of what stands from place i on: what stands ahead lies as it did. -/
theorem SL.cut {S : Nat → Prop} {w : World} {g : Nat} {m : List Va.Sec} (h : SL w g m) (i : Nat) (hi : i ≤ m.length) (zs : List Value) (hS : ¬ S g) : Lies S (w.setCells g (i * 6) zs) (some ⟨g, 0, none⟩) (secs (m.take i)) :=
  lies_of_cells g (by rw [setCells_size]; exact h.lt) hS (fun j k hj hk => by
    rw [List.length_take] at hj
    rw [World.cell?_setCells_out g zs (i * 6) w ⟨g, j * 6 + k, none⟩ (fun _ _ => .inl (by show j * 6 + k < i * 6; omega)), h.cell j k (by omega) hk, List.getElem_take])
theorem run_clear_mid (w : World) (g o n c : Nat) (z : Value) (hv : ∀ w, (zeroValue 26).run Tryz.prog w = .ok z w) (hz1 : ∀ u ∈ z.cells, u.oneCell' = true) (hzs : z.cells.size = 6) (ht : w.there g o (n * 6)) (ty : TypeId) :
    (Builtin.clear_ #[22] ty #[.slice (some ⟨g, o, none⟩) n c]).run Tryz.prog w = .ok (.tuple #[]) (w.setCells g o (Builtin.zeroCells z.cells n).toList) := by
  have hzl : (Builtin.zeroCells z.cells n).toList.length = n * 6 := by simp [Builtin.zeroCells, hzs]
  have h1 : ∀ u ∈ (Builtin.zeroCells z.cells n).toList, u.oneCell' = true := by
    intro u hu
    simp only [Builtin.zeroCells, Array.toList_map, List.mem_map] at hu
    obtain ⟨j, _, rfl⟩ := hu
    have hlt : j % z.cells.size < z.cells.size := Nat.mod_lt _ (by omega)
    rw [getElem!_pos z.cells _ hlt]
    exact hz1 _ (Array.getElem_mem hlt)
  have hst := run_storeCells_cells (P := Tryz.prog) g o (Builtin.zeroCells z.cells n).toList 0 w (fun j hj => by simpa using (ht j (by omega)).1) (fun j hj => by simpa using (ht j (by omega)).2) h1
  simp only [Nat.add_zero] at hst
  cases n with
  | zero =>
    have he : (Builtin.zeroCells z.cells 0).toList = [] := List.eq_nil_of_length_eq_zero (by rw [hzl])
    rw [he]
    simp [Builtin.clear_, run_underlying Tryz.underlying22, World.setCells]
  | succ n => simp [Builtin.clear_, run_underlying Tryz.underlying22, hv, hst]
/-- What the loop of a deletion has done up to place j. -/
structure Del (q : Va.Sec → Bool) (l m : List Va.Sec) (i j : Nat) : Prop where
  len : m.length = l.length
  lt : i < j
  low : m.take i = (l.take j).filter fun s => !q s
  high : ∀ t (ht : t < l.length), j ≤ t → m[t]'(by rw [len]; exact ht) = l[t]
theorem Del.start {q : Va.Sec → Bool} {l : List Va.Sec} {i : Nat} (hi : i < l.length) (he : q l[i] = true) (hf : ∀ j (hj : j < i), q (l[j]'(by omega)) = false) : Del q l l i (i + 1) := by
  refine ⟨rfl, by omega, ?_, fun t ht _ => rfl⟩
  rw [List.take_succ_eq_append_getElem hi, List.filter_append]
  have h1 : (l.take i).filter (fun s => !q s) = l.take i := by
    rw [List.filter_eq_self]
    intro x hx
    obtain ⟨j, hj, rfl⟩ := List.mem_iff_getElem.1 hx
    rw [List.length_take] at hj
    rw [List.getElem_take, hf j (by omega)]
    rfl
  rw [h1]
  simp [he]
theorem Del.keep {q : Va.Sec → Bool} {l m : List Va.Sec} {i j : Nat} (h : Del q l m i j) (hj : j < l.length) (hq : q l[j] = false) : Del q l (m.set i l[j]) (i + 1) (j + 1) := by
  have hlt := h.lt
  have hlen := h.len
  refine ⟨by rw [List.length_set, hlen], by omega, ?_, fun t ht htj => by rw [List.getElem_set_ne (by omega)]; exact h.high t ht (by omega)⟩
  rw [List.take_succ_eq_append_getElem (by rw [List.length_set]; omega), List.getElem_set_self, List.take_set_of_le (by omega), h.low, List.take_succ_eq_append_getElem hj, List.filter_append]
  simp [hq]
theorem Del.skip {q : Va.Sec → Bool} {l m : List Va.Sec} {i j : Nat} (h : Del q l m i j) (hj : j < l.length) (hq : q l[j] = true) : Del q l m i (j + 1) := by
  have hlt := h.lt
  refine ⟨h.len, by omega, ?_, fun t ht htj => h.high t ht (by omega)⟩
  rw [h.low, List.take_succ_eq_append_getElem hj, List.filter_append]
  simp [hq]
theorem zero_sec : ∀ w, (zeroValue 26).run Tryz.prog w = .ok (.agg #[.string ⟨#[]⟩, .int .i64 0, .int .i64 0, .string ⟨#[]⟩, .int .i64 0, .int .i64 0]) w := Tryz.zeroValue26
end Go.Proofs.YtfjdcopndkdbmaaGreatDoor

namespace Go.Proofs.YtfjdcopndkdbmaaGreatDoor
open Go.RowKit

/-- A store into a row, the world behind it under a name of its own. -/
theorem wpList_store_to {P : Program} {ops : Array Oper} {rest : List Oper} {op : Oper} {a : Act} {w : World} {Q : Exit → Act → World → Prop} (W' : World) (hgd : op.guard = none) (ty : TypeId) (x y : Operand) (ho : op.op = .store ty x y)
    (b o : Nat) (cells : Array Value) (hx : a.eval x = .pointer (some ⟨b, o, none⟩)) (hy : a.eval y = .agg cells)
    (ht : w.there b o cells.size) (hi : (P.info? ty).map (·.size) = some cells.size) (h1 : cells.all (·.oneCell') = true) (hW : w.setCells b o cells.toList = W')
    (h : wpList P ops Q rest (a.put op.dst undef) W') : wpList P ops Q (op :: rest) a w :=
  wpList_store_mid hgd ty x y ho b o cells hx hy ht hi h1 (hW ▸ h)
set_option maxRecDepth 100000 in
set_option maxHeartbeats 4000000 in
theorem delete_any (q : Va.Sec → Bool) (g : Nat) (cap : Array Value) (w0 : World) (hp : Tells g cap q w0) (A : Option Addr) (cp : Nat) (l : List Va.Sec) (hl : l.length ≤ 1000000) (w : World) (h0 : Below w0.heap.size w0 w) (hown : w.ownsRow w0.heap.size 26 6 (.slice A l.length cp) l.length (secs l)) :
    Calls Tryz.prog 76 #[.slice A l.length cp, .func (.func g) #[] cap] w fun e w' => (∃ v, e = .returned v ∧ Row (fun b => b < w0.heap.size) (l.filter fun s => !q s) v w') ∧ Below w0.heap.size w0 w' := by
  have hcp := own_cap hown
  have hI := sindex_any (S := fun b => b < w0.heap.size) q g cap w0 hp A cp l hl w h0 (lies_made hown (fun g hg h => by omega))
  cases hx : l.findIdx? q with
  | none =>
    have hfil : (l.filter fun s => !q s) = l := by
      rw [List.filter_eq_self]
      intro x hx2
      rw [List.findIdx?_eq_none_iff.1 hx x hx2]
      rfl
    rw [hfil]
    unfold idxI at hI
    rw [hx] at hI
    have HI := Lib.hid hI
    have HL := Lib.hid (lies_made (S := fun b => b < w0.heap.size) hown (fun g hg h => by omega))
    have H0 := Lib.hid h0
    clear hI hfil hx hown hp h0
    go_enter Tryz.func76, Tryz.ntmps76
    go_wp2_with fail
    refine HI.out.mono ?_
    rintro e w1 ⟨rfl, hb⟩
    have HB := Lib.hid (H0.out.trans (hb.mono H0.out.size))
    have HL2 := Lib.hid (HL.out.below hb)
    clear hb
    go_wp2_with fail
    go_ret
    exact ⟨⟨_, rfl, A, cp, rfl, hcp, HL2.out⟩, HB.out⟩
  | some i0 =>
    obtain ⟨hi0, he, hf⟩ := List.findIdx?_eq_some_iff_getElem.1 hx
    have hf' : ∀ j (hj : j < i0), q (l[j]'(by omega)) = false := fun j hj => by simpa using hf j hj
    obtain ⟨b, rfl, hbb, hbl, hbc, hbf⟩ := cells_of_own hown rfl (by omega)
    have hSL : SL w b l := ⟨hbl, fun j k hj hk => hbc j k hj hk, hbf⟩
    have HDE := Lib.hid (Del.start hi0 he hf')
    unfold idxI at hI
    rw [hx] at hI
    have HI := Lib.hid hI
    have HP := Lib.hid hp.gives
    have HE := hp.enters
    have H0 := Lib.hid h0
    have HSL := Lib.hid hSL
    have hne : ((i0 : Int) == -1) = false := beq_eq_false_iff_ne.2 (by omega)
    have hw1 : IntKind.i64.wrap ((i0 : Int) + 1) = (i0 : Int) + 1 := by rw [IntKind.wrap_i64]; omega
    clear hI hx hown hp h0 hSL hbc hbf hf hf' he hbl
    go_enter Tryz.func76, Tryz.ntmps76
    go_wp2_with fail
    refine HI.out.mono ?_
    rintro e w1 ⟨rfl, hb⟩
    have HB1 := Lib.hid (H0.out.trans (hb.mono H0.out.size))
    have HS1 := Lib.hid (HSL.out.below hb)
    clear hb
    go_wp2_with fail
    go_loopw [5, 6, 7] (fun ii jj _ wr => ∃ (i j : Nat) (m : List Va.Sec), ii = .int .i64 (i : Int) ∧ jj = .int .i64 (j : Int) ∧ j ≤ l.length ∧ Del q l m i j ∧ SL wr b m ∧ Below w0.heap.size w0 wr) (fun _ jj _ _ => l.length - (intOf jj).toNat)
    case atStart => exact ⟨i0, i0 + 1, l, rfl, by go_num, by omega, HDE.out, HS1.out, HB1.out⟩
    case round =>
      obtain ⟨i, j, m, rfl, rfl, hj, hD, hS, hB⟩ := hrel
      have hij := hD.lt
      have hml := hD.len
      have HD := Lib.hid hD
      have HS := Lib.hid hS
      have HB := Lib.hid hB
      by_cases hlt : j < l.length
      · have sa := hS.sec j (by omega)
        rw [hD.high j hlt (by omega)] at sa
        have hadd : (⟨b, 0, none⟩ : Addr).add (j * 6) = ⟨b, j * 6, none⟩ := by rw [Addr.add_mid, Nat.zero_add]
        have haddi : (⟨b, 0, none⟩ : Addr).add (i * 6) = ⟨b, i * 6, none⟩ := by rw [Addr.add_mid, Nat.zero_add]
        obtain ⟨s, hs⟩ : ∃ s, l[j] = s := ⟨_, rfl⟩
        have HSE := Lib.hid hs
        rw [hs] at sa
        have s0 := sa.c0
        have s1 := sa.c1
        have s2 := sa.c2
        have s3 := sa.c3
        have s4 := sa.c4
        have s5 := sa.c5
        have hji : (j : Int) < (l.length : Int) := by omega
        have hba : Below w0.heap.size w0 (wr.alloc (.cells (secC s).toArray 26)) := hB.alloc hB.size _
        have hcall := HP.out _ s hba
        have hblk := Blk.new wr 26 (secC s).toArray
        have hSa : SL (wr.alloc (.cells (secC s).toArray 26)) b m := hS.below ((Below.refl _ wr).alloc (Nat.le_refl _) _)
        rw [sec_row] at hcall hblk hSa hba
        have HBA := Lib.hid hba
        have HBLK := Lib.hid hblk
        have HSA := Lib.hid hSa
        clear sa hs hD hS hB hba hblk hSa
        cases hq : q s with
        | true =>
          rw [hq] at hcall
          have HCA := Lib.hid hcall
          clear hcall
          go_wp2_with fail
          refine HCA.out.mono ?_
          rintro e w2 ⟨rfl, hb⟩
          have HB2 := Lib.hid (HBA.out.trans (hb.mono HBA.out.size))
          have HS2 := Lib.hid (HSA.out.below hb)
          clear hb
          go_wp2_with fail
          go_roundw
          case rel => exact ⟨i, j + 1, m, rfl, by go_num, by omega, HD.out.skip hlt (by rw [HSE.out]; exact hq), HS2.out, HB2.out⟩
          case measure => simp [intOf]; omega
        | false =>
          rw [hq] at hcall
          have HCA := Lib.hid hcall
          clear hcall
          go_wp2_with fail
          refine HCA.out.mono ?_
          rintro e w2 ⟨rfl, hb⟩
          have hx := HBLK.out.of (hb.block _ HBLK.out.lt)
          have x0 : w2.cell? ⟨wr.heap.size, 0, none⟩ = some (.string s.digest) := (hx.cell 0).trans rfl
          have x1 : w2.cell? ⟨wr.heap.size, 1, none⟩ = some (.int .i64 s.account) := (hx.cell 1).trans rfl
          have x2 : w2.cell? ⟨wr.heap.size, 2, none⟩ = some (.int .i64 s.purpose) := (hx.cell 2).trans rfl
          have x3 : w2.cell? ⟨wr.heap.size, 3, none⟩ = some (.string s.channel) := (hx.cell 3).trans rfl
          have x4 : w2.cell? ⟨wr.heap.size, 4, none⟩ = some (.int .i64 s.expires) := (hx.cell 4).trans rfl
          have x5 : w2.cell? ⟨wr.heap.size, 5, none⟩ = some (.int .i64 s.tries) := (hx.cell 5).trans rfl
          have HB2 := Lib.hid (HBA.out.trans (hb.mono HBA.out.size))
          have HS2 := Lib.hid (HSA.out.below hb)
          have ht : w2.there b (i * 6) (secC s).toArray.size := by
            exact HS2.out.there i 1 (by omega)
          have hone := all_oneCell_toArray (secC_cell s)
          rw [sec_row] at ht hone
          have HT := Lib.hid ht
          have HO := Lib.hid hone
          have hii : (i : Int) < (l.length : Int) := by omega
          have hSn := HS2.out.set i (by omega) s
          have hBn := setCells_below hbb (secC s) (i * 6) w2 HB2.out
          obtain ⟨W9, hW9⟩ : ∃ W9, w2.setCells b (i * 6) (secC s) = W9 := ⟨_, rfl⟩
          rw [hW9] at hSn hBn
          have HSN := Lib.hid hSn
          have HBN := Lib.hid hBn
          have HW9 : Hid (w2.setCells b (i * 6) #[Value.string s.digest, .int .i64 s.account, .int .i64 s.purpose, .string s.channel, .int .i64 s.expires, .int .i64 s.tries].toList = W9) := Lib.hid hW9
          clear hb hx ht hone hSn hBn hW9
          go_wp2_with (refine wpList_store_to W9 rfl 26 (.tmp 33) (.tmp 32) rfl b (i * 6) #[.string s.digest, .int .i64 s.account, .int .i64 s.purpose, .string s.channel, .int .i64 s.expires, .int .i64 s.tries] rfl rfl HT.out sec_size HO.out HW9.out ?_)
          go_roundw
          case rel => exact ⟨i + 1, j + 1, m.set i s, by go_num, by go_num, by omega, by rw [← HSE.out]; exact HD.out.keep hlt (by rw [HSE.out]; exact hq), HSN.out, HBN.out⟩
          case measure => simp [intOf]; omega
      · obtain rfl : j = l.length := by omega
        have hlow := hD.low
        rw [List.take_length] at hlow
        have hil : (m.take i).length = i := by rw [List.length_take]; omega
        have hth := hS.there i (m.length - i) (by omega)
        rw [hml] at hth
        have hrc := fun c ty => run_clear_mid wr b (i * 6) (l.length - i) c _ zero_sec (by decide) rfl hth ty
        have hcut := hS.cut (S := fun b => b < w0.heap.size) i (by omega) (Builtin.zeroCells (Value.cells (.agg #[.string ⟨#[]⟩, .int .i64 0, .int .i64 0, .string ⟨#[]⟩, .int .i64 0, .int .i64 0])) (l.length - i)).toList (by omega)
        rw [hlow] at hcut hil
        have hbel := setCells_below hbb (Builtin.zeroCells (Value.cells (.agg #[.string ⟨#[]⟩, .int .i64 0, .int .i64 0, .string ⟨#[]⟩, .int .i64 0, .int .i64 0])) (l.length - i)).toList (i * 6) wr hB
        have hq2 : (Builtin.zeroCells (Value.cells (.agg #[.string ⟨#[]⟩, .int .i64 0, .int .i64 0, .string ⟨#[]⟩, .int .i64 0, .int .i64 0])) (l.length - i)).toList = (Builtin.zeroCells (Value.cells (.agg #[.string ⟨#[]⟩, .int .i64 0, .int .i64 0, .string ⟨#[]⟩, .int .i64 0, .int .i64 0])) (l.length - i)).toList := rfl
        generalize (Builtin.zeroCells (Value.cells (.agg #[.string ⟨#[]⟩, .int .i64 0, .int .i64 0, .string ⟨#[]⟩, .int .i64 0, .int .i64 0])) (l.length - i)).toList = ZS at hrc hcut hbel
        have HCUT := Lib.hid hcut
        have HBE := Lib.hid hbel
        have HIL := Lib.hid hil
        have HRC := hrc
        have hadd : (⟨b, 0, none⟩ : Addr).add (i * 6) = ⟨b, i * 6, none⟩ := by rw [Addr.add_mid, Nat.zero_add]
        have hto := run_rows_to (some ⟨b, 0, none⟩) l.length cp i (by omega) hcp
        have hcpi : ¬ cp = i := by omega
        have hij2 : (i : Int) < (l.length : Int) := by omega
        clear hcut hbel hil hrc hlow hth hD hS hB hq2
        go_wp2_with fail
        go_ret
        exact ⟨⟨_, rfl, _, cp, by rw [HIL.out]; rfl, by rw [HIL.out]; omega, HCUT.out⟩, HBE.out⟩
end Go.Proofs.YtfjdcopndkdbmaaGreatDoor
