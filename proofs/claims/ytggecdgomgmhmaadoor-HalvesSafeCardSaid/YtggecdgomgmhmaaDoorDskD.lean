/-
  Contracts of package disk: Sync and Crash. Condition: the disk lies in memory as New lays it.
-/
import Derived.Test.YtggecdgomgmhmaaDoorDskC
import Derived.Lib.MinMax
namespace Go.Proofs.YtggecdgomgmhmaaDoor
open Go.RowKit
section
variable {w : World} {F : Foot} {n : Nat} {dur lat : List UInt8} {pend : List (Nat × ByteArray)} {left : Int} {broken : Bool}

theorem sync1_any (s : ByteArray) (w : World) :
    Calls Tryd.prog 47 #[.string s] w fun e w' => e = .returned (.string s) ∧ w = w' := by
  go_enter Tryd.func47, Tryd.ntmps47
  go_wp2
  go_ret
  exact ⟨rfl, rfl⟩

theorem enters_of {P : Program} {f : FuncId} {fn : Func} {c : Code} (hf : P.funcs[f]? = some fn) (hname : (fn.name == "runtime.NumGoroutine") = false) (hb : fn.body = some c) (args : Array Value) (w : World) :
    (callFunc f args).run P w = .ok (.enter f args) w := by
  have hn : ¬ fn.name = "runtime.NumGoroutine" := by simpa using hname
  simp [callFunc, hf, hn, hb]

theorem sync1_enters : ∀ args W, (callFunc 47 args).run Tryd.prog W = .ok (.enter 47 args) W := fun args W =>
  enters_of Tryd.func47 (by decide +kernel) rfl args W
theorem crash1_enters : ∀ args W, (callFunc 35 args).run Tryd.prog W = .ok (.enter 35 args) W := fun args W =>
  enters_of Tryd.func35 (by decide +kernel) rfl args W

theorem sync_keeper (w : World) (F : Foot) (pend : List (Nat × ByteArray)) (dur : List UInt8) :
    Keeper w F pend dur 47 #[] (fun _ => False) (fun _ _ => True) (fun k => (pend.getD k (0, ⟨#[]⟩)).2) (fun k => Dk.puts dur (pend.take k)) where
  enters := sync1_enters
  apart := fun x hx => hx.elim
  stays := fun _ _ _ _ _ => trivial
  calls := fun k hk W _ => (sync1_any pend[k].2 W).mono fun e W' ⟨he, hw⟩ => ⟨by rw [he, List.getD_eq_getElem?_getD, List.getElem?_eq_getElem hk]; rfl, trivial, by rw [← hw]; exact Kept.refl _ _⟩
  small := fun k hk => by rw [List.getD_eq_getElem?_getD, List.getElem?_eq_getElem hk]; exact Nat.le_refl _
  start := by simp [Dk.puts]
  next := fun k hk => by rw [Dk.take_snoc' pend k hk, Dk.puts_snoc, List.getD_eq_getElem?_getD, List.getElem?_eq_getElem hk]; rfl

/-- Of settle's word, what a call on a disk leaves. -/
theorem next_of_settle {w0 w1 : World} {C : Nat → Prop} {Cl : World → Prop} {e : Ending} {w' : World} {dur' : List UInt8} (hk : Kept (· = F.d) w0 w1) (h : SettlePost w1 F n dur' lat left broken C Cl e w') (hC : ∀ x, C x → w0.heap.size ≤ x) :
    Next w0 F n dur' lat [] left broken w' := by
  obtain ⟨_, pv, hr, hpv, _, hkp⟩ := h
  refine ⟨⟨F.d, F.g1, F.g2, pv⟩, rfl, hr, ?_, ?_⟩
  · exact (hk.mono (T := F.has) (fun x hx => .inl (.inl hx))).trans hkp (fun x hx => by rcases hx with hx | hx; exact .inl hx; exact .inr (hC x hx))
  · rintro x (hx | hx | hx | hx)
    · exact .inl (.inl hx)
    · exact .inl (.inr (.inl hx))
    · exact .inl (.inr (.inr (.inl hx)))
    · exact .inl (.inr (.inr (.inr (by rw [← hpv]; exact hx))))

theorem sync_ok (h : Raw w F n dur lat pend left broken) (hb : stepB left broken = false) :
    Calls Tryd.prog 29 #[.pointer (some ⟨F.d, 0, none⟩)] w fun e w' => e = .returned (.int .i64 0) ∧ Next w F n (Dk.puts dur pend) lat [] (stepL left) false w' := by
  have HS := Lib.hid (step_any h)
  have HB := Lib.hid hb
  have HE : Hid (errOf (stepB left broken) = 0) := by show _ = _; rw [hb]; rfl
  clear hb
  go_enter Tryd.func29, Tryd.ntmps29
  go_wp2_with (first
    | (go_at_call 46
       refine HS.out.mono ?_
       rintro e w1 ⟨he, hR1, hk1⟩
       rw [HE.out] at he
       rw [HB.out] at hR1
       subst he
       have HT := Lib.hid (settle_any hR1 (sync_keeper w1 F pend dur) trivial))
    | (go_at_call 34
       refine HT.out.mono ?_
       intro e w2 hp
       obtain rfl := hp.1))
  go_ret
  have hx := next_of_settle hk1 hp (fun x hx => hx.elim)
  rw [List.take_length] at hx
  exact ⟨rfl, hx⟩
theorem sync_io (h : Raw w F n dur lat pend left broken) (hb : stepB left broken = true) :
    Calls Tryd.prog 29 #[.pointer (some ⟨F.d, 0, none⟩)] w fun e w' => e = .returned (.int .i64 18) ∧ Next w F n dur lat pend (stepL left) true w' := by
  have HS := Lib.hid (step_any h)
  have HB := Lib.hid hb
  have HE : Hid (errOf (stepB left broken) = 18) := by show _ = _; rw [hb]; rfl
  clear hb
  go_enter Tryd.func29, Tryd.ntmps29
  go_wp2_with (first
    | (go_at_call 46
       refine HS.out.mono ?_
       rintro e w1 ⟨he, hR1, hk1⟩
       rw [HE.out] at he
       rw [HB.out] at hR1
       subst he))
  go_ret
  exact ⟨rfl, F, rfl, hR1, hk1.mono (fun x hx => .inl (.inl hx)), fun x hx => .inl hx⟩
theorem sync_nil (w : World) :
    Calls Tryd.prog 29 #[.pointer none] w fun e w' => e = .returned (.int .i64 1) ∧ w = w' := by
  go_enter Tryd.func29, Tryd.ntmps29
  go_wp2
  go_ret
  exact ⟨rfl, rfl⟩

theorem crash1_any (s : ByteArray) (kb lb : Nat) (K M : Int) (w : World) (hs : s.size ≤ 131072) (hk : Blk w kb 3 #[.int .i64 K]) (hl : Blk w lb 3 #[.int .i64 M]) (hne : kb ≠ lb)
    (h1 : -9223372036854775808 ≤ K) (h2 : K ≤ 9223372036854775807) (h3 : 0 ≤ M) (h4 : M ≤ 4611686018427387904) :
    Calls Tryd.prog 35 #[.string s, .pointer (some ⟨kb, 0, none⟩), .pointer (some ⟨lb, 0, none⟩)] w fun e w' =>
      e = .returned (.string (s.extract 0 (Dk.keepN K s))) ∧ Blk w' kb 3 #[.int .i64 (K - Dk.keepN K s)] ∧ Blk w' lb 3 #[.int .i64 (M + ((s.size : Int) - Dk.keepN K s))] ∧ Kept (fun x => x = kb ∨ x = lb) w w' := by
  have ck := hk.cell 0
  have fk := hk.frozen 0
  have cl := hl.cell 0
  have fl := hl.frozen 0
  simp only [List.getElem?_toArray, List.getElem?_cons_zero] at ck cl
  have hN : ((Dk.keepN K s : Nat) : Int) = min (max K 0) (s.size : Int) := by unfold Dk.keepN; omega
  rw [hN]
  clear hN
  go_enter Tryd.func35, Tryd.ntmps35
  go_wp2
  go_ret
  exact ⟨rfl, (hk.set_ 0 _).far hne _, (hl.far (p := ⟨kb, 0, none⟩) (fun e => hne e.symm) _).set_ 0 _, ((Kept.refl _ w).setCell (p := ⟨kb, 0, none⟩) (.inl (.inl rfl)) _).setCell (p := ⟨lb, 0, none⟩) (.inl (.inr rfl)) _⟩

def CrashCl (kb lb : Nat) (pend : List (Nat × ByteArray)) (keep : Int) (k : Nat) (w : World) : Prop :=
  Blk w kb 3 #[.int .i64 (Dk.rest (pend.take k) keep)] ∧ Blk w lb 3 #[.int .i64 (Dk.lost (pend.take k) keep)]

theorem crash_keeper {w : World} {F : Foot} {n : Nat} {dur lat : List UInt8} {pend : List (Nat × ByteArray)} {left : Int} {broken : Bool} (h : Raw w F n dur lat pend left broken) (kb lb : Nat) (hne : kb ≠ lb) (hkb : kb < w.heap.size) (hlb : lb < w.heap.size)
    (hfk : ¬ F.has kb) (hfl : ¬ F.has lb) (keep : Int) (h1 : -9223372036854775808 ≤ keep) (h2 : keep ≤ 9223372036854775807) :
    Keeper w F pend dur 35 #[.pointer (some ⟨kb, 0, none⟩), .pointer (some ⟨lb, 0, none⟩)] (fun x => x = kb ∨ x = lb) (CrashCl kb lb pend keep)
      (fun k => (pend.getD k (0, ⟨#[]⟩)).2.extract 0 (Dk.keepN (Dk.rest (pend.take k) keep) (pend.getD k (0, ⟨#[]⟩)).2)) (fun k => Dk.puts dur (Dk.cuts (pend.take k) keep)) where
  enters := crash1_enters
  apart := by
    rintro x (rfl | rfl)
    · exact ⟨hfk, hkb⟩
    · exact ⟨hfl, hlb⟩
  stays := fun k w w' ⟨ha, hb⟩ hx => ⟨ha.of (hx _ (.inl rfl)), hb.of (hx _ (.inr rfl))⟩
  calls := by
    intro k hk W ⟨ha, hb⟩
    have hg : pend.getD k (0, ⟨#[]⟩) = pend[k] := by rw [List.getD_eq_getElem?_getD, List.getElem?_eq_getElem hk]; rfl
    have hw := h.within pend[k] (List.getElem_mem hk)
    have hs := h.small
    have hf := h.few
    have hr := Dk.rest_bd (pend.take k) keep
    have hl := Dk.lost_bd (pend.take k) keep
    have hb1 := Dk.bytes_le n pend h.within
    have hb2 := Dk.bytes_take_le pend k
    have hb3 : Dk.bytes pend ≤ 1000 * 131072 := Nat.le_trans hb1 (Nat.mul_le_mul hf hs)
    have hk2 : -9223372036854775808 ≤ Dk.rest (pend.take k) keep := by
      by_cases h0 : keep ≤ 0
      · rw [hr.2.1 h0]; exact h1
      · have := hr.2.2 (by omega); omega
    refine (crash1_any pend[k].2 kb lb _ _ W (by omega) ha hb hne hk2 (by omega) hl.1 (by omega)).mono ?_
    rintro e W' ⟨he, hx, hy, hz⟩
    refine ⟨by rw [he, hg], ⟨?_, ?_⟩, hz⟩
    · rw [Dk.take_snoc' pend k hk, Dk.rest_snoc]; exact hx
    · rw [Dk.take_snoc' pend k hk, Dk.lost_snoc]; exact hy
  small := by
    intro k hk
    have hg : pend.getD k (0, ⟨#[]⟩) = pend[k] := by rw [List.getD_eq_getElem?_getD, List.getElem?_eq_getElem hk]; rfl
    rw [hg]
    simp
    omega
  start := by simp [Dk.puts, Dk.cuts]
  next := by
    intro k hk
    have hg : pend.getD k (0, ⟨#[]⟩) = pend[k] := by rw [List.getD_eq_getElem?_getD, List.getElem?_eq_getElem hk]; rfl
    rw [Dk.take_snoc' pend k hk, Dk.cuts_snoc, Dk.puts_snoc, hg]

def CrashPost (w : World) (F : Foot) (n : Nat) (dur : List UInt8) (pend : List (Nat × ByteArray)) (keep : Int) (e : Ending) (w' : World) : Prop :=
  e = .returned (.int .i64 (Dk.lost pend keep)) ∧ Next w F n (Dk.puts dur (Dk.cuts pend keep)) (Dk.puts dur (Dk.cuts pend keep)) [] 0 false w'

set_option maxHeartbeats 1000000 in
theorem crash_any (h : Raw w F n dur lat pend left broken) (keep : Int) (h1 : -9223372036854775808 ≤ keep) (h2 : keep ≤ 9223372036854775807) :
    Calls Tryd.prog 14 #[.pointer (some ⟨F.d, 0, none⟩), .int .i64 keep] w (CrashPost w F n dur pend keep) := by
  have hmf : ∀ (fn : Fn) (first cap : Array Value) (w : World), (Instr.makeFunc fn first cap).run Tryd.prog w = .ok (.func fn first cap) w := fun _ _ _ _ => rfl
  have kk : Kept (fun _ => False) w ((w.alloc (.cells #[.int .i64 keep] 3)).alloc (.cells #[.int .i64 0] 3)) := ((Kept.refl _ w).alloc _).alloc _
  have hR : Raw ((w.alloc (.cells #[.int .i64 keep] 3)).alloc (.cells #[.int .i64 0] 3)) F n dur lat pend left broken := h.keep kk (fun _ _ hx => hx)
  have bk : Blk ((w.alloc (.cells #[.int .i64 keep] 3)).alloc (.cells #[.int .i64 0] 3)) w.heap.size 3 #[.int .i64 keep] := (Blk.new w _ _).alloc _
  have bl : Blk ((w.alloc (.cells #[.int .i64 keep] 3)).alloc (.cells #[.int .i64 0] 3)) (w.heap.size + 1) 3 #[.int .i64 0] := by
    have := Blk.new (w.alloc (.cells #[.int .i64 keep] 3)) 3 #[.int .i64 0]
    simpa using this
  have hlt := Foot.has_lt h
  have HT := Lib.hid (settle_any hR (crash_keeper hR w.heap.size (w.heap.size + 1) (by omega) bk.lt bl.lt (fun hx => by have := hlt _ hx; omega) (fun hx => by have := hlt _ hx; omega) keep h1 h2) ⟨bk, bl⟩)
  go_enter Tryd.func14, Tryd.ntmps14
  go_wp2_with (first
    | (go_at_call 34
       refine HT.out.mono ?_
       rintro e w2 ⟨rfl, pv, hR2, hpv, hCl, hk2⟩))
  rw [List.take_length] at hR2
  unfold CrashCl at hCl
  rw [List.take_length] at hCl
  generalize hdd : Dk.puts dur (Dk.cuts pend keep) = dd at hR2
  have HD := Lib.hid hdd
  clear hdd HT hmf bk bl
  have c0 := hR2.c0
  have c1 := hR2.c1
  have hcp := run_copy_bytes (P := Tryd.prog) w2.drew 51 51 3 5 Tryd.underlying51 u8_size F.g2 F.g1 n lat dd 5 hR2.g2.drew hR2.g1.drew hR2.nlat hR2.ndur
  simp only at c0 c1
  go_region
  have hR3 := (hR2.keep (S := fun _ => False) ((Kept.refl _ w2).drew) (fun _ _ hx => hx)).relat dd hR2.ndur
  have k3 := hk2.drew.setRow (g := F.g2) (.inl (.inl (.inr (.inr (.inl rfl))))) (cb dd).toArray
  have l3 : Blk (w2.drew.setRow F.g2 (cb dd).toArray) (w.heap.size + 1) 3 #[.int .i64 (Dk.lost pend keep)] := hCl.2.drew.rowFar (fun e => by have := hlt F.g2 (.inr (.inr (.inl rfl))); omega) _
  clear c0 c1 hcp hCl
  generalize w2.drew.setRow F.g2 (cb dd).toArray = w3 at hR3 k3 l3 ⊢
  have c3 := hR3.c3
  have c4 := hR3.c4
  have f3 := hR3.fr 3
  have f4 := hR3.fr 4
  have cl := l3.cell 0
  have hnd : w.heap.size + 1 ≠ F.d := fun e => by have := hlt F.d (.inl rfl); omega
  simp only [List.getElem?_toArray, List.getElem?_cons_zero] at c3 c4 f3 f4 cl
  go_wp2
  go_ret
  have k4 : Kept (· = F.d) w3 ((w3.setCell ⟨F.d, 4, none⟩ (.bool false)).setCell ⟨F.d, 3, none⟩ (.int .i64 0)) := ((Kept.refl _ w3).here 4 _).here 3 _
  have r4 := hR3.again k4 ((hR3.blk.set_ 4 _).set_ 3 _) (by omega) (by omega)
  refine ⟨rfl, ?_⟩
  rw [HD.out]
  refine ⟨⟨F.d, F.g1, F.g2, pv⟩, rfl, r4, ?_, ?_⟩
  · refine ((kk.mono (T := F.has) (fun x hx => hx.elim)).trans k3 ?_).trans k4 (fun x hx => .inl (.inl hx))
    rintro x (hx | rfl | rfl)
    · exact .inl hx
    · exact .inr (Nat.le_refl _)
    · exact .inr (by omega)
  · rintro x (hx | hx | hx | hx)
    · exact .inl (.inl hx)
    · exact .inl (.inr (.inl hx))
    · exact .inl (.inr (.inr (.inl hx)))
    · exact .inl (.inr (.inr (.inr (by rw [← hpv]; exact hx))))
theorem crash_nil (w : World) (keep : Int) :
    Calls Tryd.prog 14 #[.pointer none, .int .i64 keep] w fun e w' => e = .returned (.int .i64 0) ∧ Below w.heap.size w w' := by
  go_enter Tryd.func14, Tryd.ntmps14
  go_wp2
  go_ret
  exact ⟨rfl, (Below.refl _ _).alloc (Nat.le_refl _) _⟩
end
end Go.Proofs.YtggecdgomgmhmaaDoor
