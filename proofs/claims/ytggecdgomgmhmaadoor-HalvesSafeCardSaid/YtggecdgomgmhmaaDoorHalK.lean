/-
  Contract of halves.Open. Condition: the disk lies in memory as New lays it, has at most 80000 bytes, is not broken and does not break in Open; fewer than 900 writes are pending; the table of crc holds what its text says.
-/
import Derived.Test.YtggecdgomgmhmaaDoorHalI
namespace Go.Proofs.YtggecdgomgmhmaaDoor
open Go.RowKit

theorem found_size : (Tryd.prog.info? 39).map (·.size) = some 3 := by kernel_rfl
theorem results_three {P : Program} {fn : Func} {a p q : Tmp} {ty : TypeId} (h : fn.results = #[.tmp a, .cell p ty, .tmp q]) (tmps : Array Value) (w : World) (g : Nat) (t : TypeId) (cs : Array Value) (fr : Nat × Nat) (d : TypeDesc) (x v : Value)
    (hx : tmps.getD a undef = x) (hp : tmps.getD p undef = .pointer (some ⟨g, 0, none⟩)) (hv : tmps.getD q undef = v) (hg : w.heap[g]? = some (.cells cs t fr))
    (hu : P.underlying ty = some d) (hd : (match d with | .struct _ | .array _ _ => true | _ => false) = true) (hi : (P.info? ty).map (·.size) = some cs.size) :
    (results fn tmps).run P w = .ok (.tuple #[x, .agg cs, v]) w := by
  have hx' : tmps[a]?.getD undef = x := by simpa using hx
  have hp' : tmps[p]?.getD undef = .pointer (some ⟨g, 0, none⟩) := by simpa using hp
  have hv' : tmps[q]?.getD undef = v := by simpa using hv
  simp [results, h, hx', hp', hv', asAddr, run_loadVar_row w g t ty cs fr d hg hu hd hi]

theorem Blk.three {w : World} {g : Nat} {t : TypeId} {a b c : Value} (h : Blk w g t #[a, b, c]) (x y z : Value) : Blk (((w.setCell ⟨g, 0, none⟩ x).setCell ⟨g, 1, none⟩ y).setCell ⟨g, 2, none⟩ z) g t #[x, y, z] := by
  have := ((h.set_ 0 x).set_ 1 y).set_ 2 z
  simpa using this
theorem below_three {B : Nat} {w0 w : World} {g : Nat} (h : Below B w0 w) (hg : B ≤ g) (x y z : Value) : Below B w0 (((w.setCell ⟨g, 0, none⟩ x).setCell ⟨g, 1, none⟩ y).setCell ⟨g, 2, none⟩ z) :=
  ((h.setCell (p := ⟨g, 0, none⟩) hg _).setCell (p := ⟨g, 1, none⟩) hg _).setCell (p := ⟨g, 2, none⟩) hg _
theorem open_nil (w : World) :
    Calls Tryd.prog 15 #[.pointer none] w fun x w' => x = .returned (.tuple #[.pointer none, .agg #[.int .u64 0, .string ⟨#[]⟩, .slice none 0 0], .int .i64 1]) ∧ Below w.heap.size w w' := by
  have k0 := Blk.new w 39 #[.int .u64 0, .string ⟨#[]⟩, .slice none 0 0]
  have c0 := k0.cell 0
  have c1 := k0.cell 1
  have c2 := k0.cell 2
  have f0 := k0.frozen 0
  have f1 := k0.frozen 1
  have f2 := k0.frozen 2
  simp only [List.getElem?_toArray, List.getElem?_cons_zero, List.getElem?_cons_succ] at c0 c1 c2
  have HK := Lib.hid k0
  clear k0
  go_enter Tryd.func15, Tryd.ntmps15
  go_wp2_with fail
  refine bodyPost_ret (results_three (P := Tryd.prog) rfl _ _ w.heap.size 39 #[.int .u64 0, .string ⟨#[]⟩, .slice none 0 0] (0, 0) _ _ _ rfl rfl rfl HK.out Tryd.underlying39 rfl found_size) rfl ?_
  exact ⟨rfl, (Below.refl _ w).alloc (Nat.le_refl _) _⟩
section
variable {w : World} {F : Foot} {D : Dsk}
set_option maxHeartbeats 2000000 in
theorem open_none (h : DiskAt w F D) (hbr : D.broken = false) (hT : Tab w) (hn : D.n ≤ 80000) {hf : Nat} (hhf : D.n / 2 = hf) (hb : newestOf D.lat hf = none) :
    Calls Tryd.prog 15 #[.pointer (some ⟨F.d, 0, none⟩)] w fun x w' => x = .returned (.tuple #[.pointer none, .agg #[.int .u64 0, .string ⟨#[]⟩, .slice none 0 0], .int .i64 12]) ∧ Below w.heap.size w w' := by
  have b0 : Below w.heap.size w (w.alloc (.cells #[.int .u64 0, .string ⟨#[]⟩, .slice none 0 0] 39)) := (Below.refl _ w).alloc (Nat.le_refl _) _
  have k0 := Blk.new w 39 #[.int .u64 0, .string ⟨#[]⟩, .slice none 0 0]
  unfold DiskAt at h
  rw [hbr] at h
  have hR0 := Raw.keep h (S := fun _ => False) (Kept.of_below b0) (fun _ _ hx => hx)
  have HN := Lib.hid (newest_any hR0 (hT.below b0 hT.lt) hn hhf)
  unfold NewestPost at HN
  rw [hb] at HN
  have HB0 := Lib.hid b0
  have HK0 := Lib.hid k0
  clear h hR0 b0 k0
  go_enter Tryd.func15, Tryd.ntmps15
  go_wp2_with (go_at_call 23
               refine HN.out.mono ?_
               rintro x w2 ⟨E, S, A, m, c, st, u, rfl, hCt, hb2⟩
               have hE : E = 0 := hCt
               subst hE
               have HB2 := Lib.hid hb2
               have hk2 := (HK0.out.of (hb2.block _ HK0.out.lt)).alloc (.cells #[.int .u64 0, .string S, .slice A m c, .int .i64 (st : Int), .int .i64 (u : Int)] 56)
               have y0 := hk2.cell 0
               have y1 := hk2.cell 1
               have y2 := hk2.cell 2
               have z0 := hk2.frozen 0
               have z1 := hk2.frozen 1
               have z2 := hk2.frozen 2
               simp only [List.getElem?_toArray, List.getElem?_cons_zero, List.getElem?_cons_succ] at y0 y1 y2
               have HK2 := Lib.hid hk2
               have kc := Blk.new w2 56 #[.int .u64 0, .string ⟨#[]⟩, .slice none 0 0, .int .i64 0, .int .i64 0]
               have d0 := kc.cell 0
               have d1 := kc.cell 1
               have d2 := kc.cell 2
               have d3 := kc.cell 3
               have d4 := kc.cell 4
               have r0 := kc.frozen 0
               have r1 := kc.frozen 1
               have r2 := kc.frozen 2
               have r3 := kc.frozen 3
               have r4 := kc.frozen 4
               simp only [List.getElem?_toArray, List.getElem?_cons_zero, List.getElem?_cons_succ] at d0 d1 d2 d3 d4
               have HKC := Lib.hid kc
               clear kc hb2 hCt hk2)
  refine bodyPost_ret (results_three (P := Tryd.prog) rfl _ _ w.heap.size 39 #[.int .u64 0, .string ⟨#[]⟩, .slice none 0 0] (0, 0) _ _ _ rfl rfl rfl (HK2.out.three _ _ _) Tryd.underlying39 rfl found_size) rfl ?_
  exact ⟨rfl, below_three ((HB0.out.trans (HB2.out.mono HB0.out.size)).alloc (Nat.le_trans HB0.out.size HB2.out.size) _) (Nat.le_refl _) _ _ _⟩

def opS (st u hf : Nat) : List St := [.wipe (st + u) (hf - u), .sync]
def OpenP (w : World) (F : Foot) (D : Dsk) (st u e hf : Nat) (s : List UInt8) (ts : List (List UInt8)) (x : Ending) (w' : World) : Prop :=
  ∃ (g : Nat) (A : Option Addr) (c : Nat) (F' : Foot), x = .returned (.tuple #[.pointer (some ⟨g, 0, none⟩), .agg #[.int .u64 (e : Int), .string (ba s), .slice A ts.length c], .int .i64 0]) ∧ w.heap.size ≤ g ∧ F'.d = F.d ∧ DiskAt w' F' (runD (opS st u hf) D) ∧ LogAt w' g F.d st u e false ∧
    Lies (fun k => F'.has k ∨ k = g ∨ k < w.heap.size) w' A (cs (ts.map ba)) ∧ Kept F.has w w' ∧ ∀ k, F'.has k → F.has k ∨ w.heap.size ≤ k
set_option maxHeartbeats 4000000 in
theorem open_go (h : DiskAt w F D) (hbr : D.broken = false) (hT : Tab w) (hn : D.n ≤ 80000) {hf : Nat} (hhf : D.n / 2 = hf) (hp : D.pend.length < 900) {st e u : Nat} {s : List UInt8} {ts : List (List UInt8)} (hb : newestOf D.lat hf = some (st, e, s, ts, u)) (he0 : e ≠ 0) (hu : u ≤ hf) (hst : st + hf ≤ D.n) (hok : (runD (opS st u hf) D).broken = false) :
    Calls Tryd.prog 15 #[.pointer (some ⟨F.d, 0, none⟩)] w (OpenP w F D st u e hf s ts) := by
  have b0 : Below w.heap.size w (w.alloc (.cells #[.int .u64 0, .string ⟨#[]⟩, .slice none 0 0] 39)) := (Below.refl _ w).alloc (Nat.le_refl _) _
  have k0 := Blk.new w 39 #[.int .u64 0, .string ⟨#[]⟩, .slice none 0 0]
  have hlt := Foot.has_lt h
  have HD := Lib.hid h
  have h' := h
  unfold DiskAt at h'
  rw [hbr] at h'
  have hR0 := Raw.keep h' (S := fun _ => False) (Kept.of_below b0) (fun _ _ hx => hx)
  have HN := Lib.hid (newest_any hR0 (hT.below b0 hT.lt) hn hhf)
  unfold NewestPost at HN
  rw [hb] at HN
  have HB0 := Lib.hid b0
  have HK0 := Lib.hid k0
  have heI : ¬ ((e : Int) = 0) := by omega
  unfold OpenP opS
  unfold opS at hok
  obtain ⟨k, hk⟩ : ∃ k, st + u = k := ⟨_, rfl⟩
  obtain ⟨m, hm⟩ : ∃ m, hf - u = m := ⟨_, rfl⟩
  have hkw : IntKind.i64.wrap ((st : Int) + (u : Int)) = (k : Int) := by rw [IntKind.wrap_i64]; omega
  have hmw : IntKind.i64.wrap ((hf : Int) - (u : Int)) = (m : Int) := by rw [IntKind.wrap_i64]; omega
  have hfits : k + m ≤ D.n := by omega
  have hm2 : m ≤ 131072 := by omega
  rw [hk, hm] at hok ⊢
  obtain ⟨D', hD'⟩ : ∃ D', runD [.wipe k m, .sync] D = D' := ⟨_, rfl⟩
  rw [hD'] at hok ⊢
  have HD' := Lib.hid hD'
  have HOk := Lib.hid hok
  clear h h' hR0 b0 k0 hk hm hD' hok hb
  have hmf : ∀ (fn : Fn) (first cap : Array Value) (w : World), (Instr.makeFunc fn first cap).run Tryd.prog w = .ok (.func fn first cap) w := fun _ _ _ _ => rfl
  go_enter Tryd.func15, Tryd.ntmps15
  go_wp2_with (go_at_call 23
               refine HN.out.mono ?_
               rintro x w2 ⟨E, S, A, mm, c, sst, uu, rfl, hCt, hb2⟩
               obtain ⟨rfl, rfl, rfl, rfl, rfl, hLies⟩ := hCt
               have HLi := Lib.hid hLies
               have HB2 := Lib.hid hb2
               have hk2 := (HK0.out.of (hb2.block _ HK0.out.lt)).alloc (.cells #[.int .u64 (E : Int), .string (ba s), .slice A ts.length c, .int .i64 (sst : Int), .int .i64 (uu : Int)] 56)
               have HK2 := Lib.hid hk2
               have kc := Blk.new w2 56 #[.int .u64 (E : Int), .string (ba s), .slice A ts.length c, .int .i64 (sst : Int), .int .i64 (uu : Int)]
               have HKC := Lib.hid kc
               clear kc hb2 hLies hk2)
  have hB3 : Below w.heap.size w (w2.alloc (.cells #[.int .u64 (E : Int), .string (ba s), .slice A ts.length c, .int .i64 (sst : Int), .int .i64 (uu : Int)] 56)) := (HB0.out.trans (HB2.out.mono HB0.out.size)).alloc (Nat.le_trans HB0.out.size HB2.out.size) _
  have hLi3 := (HLi.out.mono (S := (· < (w.alloc (.cells #[.int .u64 0, .string ⟨#[]⟩, .slice none 0 0] 39)).heap.size)) (T := (· < w.heap.size + 1)) (fun k _ hk => by simpa using hk)).below ((Below.refl w2.heap.size w2).alloc (Nat.le_refl _) (.cells #[.int .u64 (E : Int), .string (ba s), .slice A ts.length c, .int .i64 (sst : Int), .int .i64 (uu : Int)] 56))
  have hq1 : w.heap.size < w2.heap.size := by have := HB2.out.size; simp at this; omega
  have HL3 := Lib.hid hLi3
  have HB3 := Lib.hid hB3
  obtain ⟨W3, hW3⟩ : ∃ W3, w2.alloc (.cells #[.int .u64 (E : Int), .string (ba s), .slice A ts.length c, .int .i64 (sst : Int), .int .i64 (uu : Int)] 56) = W3 := ⟨_, rfl⟩
  have hq2 : w2.heap.size < W3.heap.size := by rw [← hW3]; simp
  rw [hW3] at HK2 HKC HL3 HB3 ⊢
  obtain ⟨q, hq⟩ : ∃ q, w2.heap.size = q := ⟨_, rfl⟩
  rw [hq] at HKC hq1 hq2 ⊢
  clear hB3 hLi3 hW3 HB2 HLi hq HN
  have hD3 : DiskAt W3.drew F D := Raw.keep HD.out (S := fun _ => False) (Kept.of_below HB3.out).drew (fun _ _ hx => hx)
  have HD3 := Lib.hid hD3
  have HH := Lib.hid (half_any hD3 hhf)
  have c3 := HKC.out.cell 3
  have c4 := HKC.out.cell 4
  simp only [List.getElem?_toArray, List.getElem?_cons_zero, List.getElem?_cons_succ] at c3 c4
  have HER := Lib.hid (erase_any W3.drew F.d k m hm2)
  clear hD3
  go_region_held3 (fun w' => w'.cell? ⟨q, 3, none⟩ = some (.int .i64 (sst : Int)) ∧ w'.cell? ⟨q, 4, none⟩ = some (.int .i64 (uu : Int)))
    (first | go_keep | (exact S4) | (exact S5) | (exact S6))
    (first
      | (go_at_call 26
         refine HH.out.mono ?_
         rintro e w' ⟨rfl, rfl⟩)
      | (go_at_call 25
         refine HER.out.mono ?_
         rintro x w4 ⟨a4, b4, d4, rfl, hs4, hb4⟩
         have hb4' : Below W3.heap.size W3 w4 := undrew hb4
         have HB4 := Lib.hid hb4'
         have hKC4 := HKC.out.of (hb4'.block _ hq2)
         have S4 : w4.cell? ⟨q, 3, none⟩ = some (.int .i64 (sst : Int)) ∧ w4.cell? ⟨q, 4, none⟩ = some (.int .i64 (uu : Int)) := ⟨hKC4.cell 3, hKC4.cell 4⟩
         have hlt3 : ∀ x, F.has x → x < W3.heap.size := fun x hx => by have := hlt x hx; omega
         have hs4' : StepIs F.has w4 F.d (.func (.func 42) #[] #[.pointer (some ⟨a4, 0, none⟩), .pointer (some ⟨b4, 0, none⟩), .pointer (some ⟨d4, 0, none⟩)]) (.wipe k m) := hs4.go (Kept.refl _ _) (fun x hx => .inl (hlt3 x hx))
         have hz4 := hb4'.size
         have hst4 := steps2 hs4' rfl (fun x hx => by have := hlt3 x hx; omega)
         have hb5 : Below w4.heap.size w4 (w4.alloc (.cells #[.func (.func 42) #[] #[.pointer (some ⟨a4, 0, none⟩), .pointer (some ⟨b4, 0, none⟩), .pointer (some ⟨d4, 0, none⟩)], .func (.func 29) #[.pointer (some ⟨F.d, 0, none⟩)] #[]] 61)) := (Below.refl _ w4).alloc (Nat.le_refl _) _
         have HB5 := Lib.hid (hb4'.trans (hb5.mono hz4))
         have hKC5 := hKC4.of (hb5.block _ (by omega))
         have HKC5 := Lib.hid hKC5
         have S5 : (w4.alloc (.cells #[.func (.func 42) #[] #[.pointer (some ⟨a4, 0, none⟩), .pointer (some ⟨b4, 0, none⟩), .pointer (some ⟨d4, 0, none⟩)], .func (.func 29) #[.pointer (some ⟨F.d, 0, none⟩)] #[]] 61)).cell? ⟨q, 3, none⟩ = some (.int .i64 (sst : Int)) ∧ (w4.alloc (.cells #[.func (.func 42) #[] #[.pointer (some ⟨a4, 0, none⟩), .pointer (some ⟨b4, 0, none⟩), .pointer (some ⟨d4, 0, none⟩)], .func (.func 29) #[.pointer (some ⟨F.d, 0, none⟩)] #[]] 61)).cell? ⟨q, 4, none⟩ = some (.int .i64 (uu : Int)) := ⟨hKC5.cell 3, hKC5.cell 4⟩
         have hD5 : DiskAt (w4.alloc (.cells #[.func (.func 42) #[] #[.pointer (some ⟨a4, 0, none⟩), .pointer (some ⟨b4, 0, none⟩), .pointer (some ⟨d4, 0, none⟩)], .func (.func 29) #[.pointer (some ⟨F.d, 0, none⟩)] #[]] 61)) F D := Raw.keep HD3.out (S := fun _ => False) (Kept.of_below (w := W3.drew) (hb4.trans (hb5.mono hz4))) (fun _ _ hx => hx)
         have HQ := Lib.hid (perform_any hD5 hbr (σs := [.wipe k m, .sync]) 2 hst4 (by intro σ hσ; simp only [List.mem_cons, List.not_mem_nil, or_false] at hσ; rcases hσ with rfl | rfl; exact hfits; trivial) (by simp; omega))
         unfold PerfPost at HQ
         rw [HD'.out, HOk.out, show errOf false = 0 from rfl] at HQ
         clear hs4 hb4 hb4' hs4' hst4 hD5 hKC4 hKC5 hb5)
      | (go_at_call 27
         refine HQ.out.mono ?_
         rintro x w6 ⟨rfl, hn6⟩
         obtain ⟨F6, q1, q2, q3, q4⟩ := hn6.out
         have hKC6 := HKC5.out.of (q3.block _ HKC5.out.lt (fun hx => by have := hlt _ hx; omega))
         have S6 : w6.cell? ⟨q, 3, none⟩ = some (.int .i64 (sst : Int)) ∧ w6.cell? ⟨q, 4, none⟩ = some (.int .i64 (uu : Int)) := ⟨hKC6.cell 3, hKC6.cell 4⟩
         have HKC6 := Lib.hid hKC6
         have HX6 := Lib.hid (And.intro q1 (And.intro q2 (And.intro q3 q4)))
         clear q1 q2 q3 q4 hn6 hKC6))
  all_goals
    obtain ⟨q1, q2, q3, q4⟩ := HX6.out
    have hH6 := (HK2.out.of (HB5.out.block w.heap.size (by omega))).of (q3.block w.heap.size (by have := HB5.out.size; omega) (fun hx => by have := hlt _ hx; omega))
    have HH6 := Lib.hid hH6
    have y0 := hH6.cell 0
    have y1 := hH6.cell 1
    have y2 := hH6.cell 2
    have z0 := hH6.frozen 0
    have z1 := hH6.frozen 1
    have z2 := hH6.frozen 2
    have x0 := HKC6.out.cell 0
    have x1 := HKC6.out.cell 1
    have x2 := HKC6.out.cell 2
    have x3 := HKC6.out.cell 3
    have x4 := HKC6.out.cell 4
    simp only [List.getElem?_toArray, List.getElem?_cons_zero, List.getElem?_cons_succ] at y0 y1 y2 x0 x1 x2 x3 x4
    have hfin : ∀ X, Kept (· = w.heap.size) w6 X → Blk X w6.heap.size 68 #[.pointer (some ⟨F.d, 0, none⟩), .int .i64 (sst : Int), .int .i64 (uu : Int), .int .u64 (E : Int), .bool false] →
        (w.heap.size ≤ w6.heap.size ∧ F6.d = F.d ∧ DiskAt X F6 D' ∧ LogAt X w6.heap.size F.d sst uu E false ∧ Lies (fun k => F6.has k ∨ k = w6.heap.size ∨ k < w.heap.size) X A (cs (ts.map ba)) ∧ Kept F.has w X ∧ ∀ k, F6.has k → F.has k ∨ w.heap.size ≤ k) := by
      intro X hX hG
      have s1 := HB3.out.size
      have s2 := HB5.out.size
      have s3 := q3.size
      have l1 : Lies (fun k => k < w.heap.size + 1 ∨ W3.heap.size ≤ k) W3 A (cs (ts.map ba)) := HL3.out.mono (fun k hk ht => by rcases ht with h1 | h1; exact h1; omega)
      have l2 := (l1.below HB5.out).kept (q3.mono (T := fun k => k < w.heap.size + 1 ∨ W3.heap.size ≤ k) (fun x hx => .inl (.inl (by have := hlt x hx; omega))))
      have l3 := l2.kept (hX.mono (T := fun k => k < w.heap.size + 1 ∨ W3.heap.size ≤ k) (fun x hx => .inl (.inl (by have hx' : x = w.heap.size := hx; omega))))
      refine ⟨by omega, q1, Raw.keep q2 hX (fun x hx he => ?_), hG, l3.mono (fun k _ hk => ?_), ?_, fun k hk => ?_⟩
      · have he' : x = w.heap.size := he
        rcases q4 x hx with e | e
        · have := hlt x e; omega
        · omega
      · rcases hk with hk | hk | hk
        · rcases q4 k hk with e | e
          · exact .inl (by have := hlt k e; omega)
          · exact .inr (by omega)
        · exact .inr (by omega)
        · exact .inl (by omega)
      · exact (((Kept.of_below (S := F.has) HB3.out).trans (Kept.of_below (S := F.has) HB5.out) (fun x hx => .inl hx)).trans q3 (fun x hx => .inl hx)).trans hX (fun x hx => .inr (by have hx' : x = w.heap.size := hx; omega))
      · rcases q4 k hk with e | e
        · exact .inl e
        · exact .inr (by omega)
    have HFin := Lib.hid hfin
    clear hH6 q1 q2 q3 q4 hfin
    have hlt6 := HKC6.out.lt
    have hlH6 := HH6.out.lt
    go_wp2_with fail
    go_region
    all_goals
      go_wp2_with fail
      have hneH : w6.heap.size ≠ w.heap.size := by omega
      first
        | (have bH1 := ((HH6.out.three (.int .u64 (E : Int)) (.string (ba s)) (.slice A ts.length c)).alloc (.cells #[.pointer (some ⟨F.d, 0, none⟩), .int .i64 (sst : Int), .int .i64 (uu : Int), .int .u64 (E : Int), .bool false] 68)).drew
           have k1 := (((((Kept.refl (· = w.heap.size) w6).here 0 (.int .u64 (E : Int))).here 1 (.string (ba s))).here 2 (.slice A ts.length c)).alloc (.cells #[.pointer (some ⟨F.d, 0, none⟩), .int .i64 (sst : Int), .int .i64 (uu : Int), .int .u64 (E : Int), .bool false] 68)).drew
           have bG1 := (Blk.new (((w6.setCell ⟨w.heap.size, 0, none⟩ (.int .u64 (E : Int))).setCell ⟨w.heap.size, 1, none⟩ (.string (ba s))).setCell ⟨w.heap.size, 2, none⟩ (.slice A ts.length c)) 68 #[.pointer (some ⟨F.d, 0, none⟩), .int .i64 (sst : Int), .int .i64 (uu : Int), .int .u64 (E : Int), .bool false]).drew
           have hsz : (((w6.setCell ⟨w.heap.size, 0, none⟩ (.int .u64 (E : Int))).setCell ⟨w.heap.size, 1, none⟩ (.string (ba s))).setCell ⟨w.heap.size, 2, none⟩ (.slice A ts.length c)).heap.size = w6.heap.size := by simp [World.setCell]
           rw [hsz] at bG1
           refine bodyPost_ret (results_three (P := Tryd.prog) rfl _ _ w.heap.size 39 #[.int .u64 (E : Int), .string (ba s), .slice A ts.length c] (0, 0) _ _ _ rfl rfl rfl bH1 Tryd.underlying39 rfl found_size) rfl ?_
           exact ⟨w6.heap.size, A, c, F6, rfl, HFin.out _ k1 bG1⟩)
        | (have bH1 := ((HH6.out.alloc (.cells #[.pointer (some ⟨F.d, 0, none⟩), .int .i64 (sst : Int), .int .i64 (uu : Int), .int .u64 (E : Int), .bool false] 68)).three (.int .u64 (E : Int)) (.string (ba s)) (.slice A ts.length c)).drew
           have k1 := (((((Kept.refl (· = w.heap.size) w6).alloc (.cells #[.pointer (some ⟨F.d, 0, none⟩), .int .i64 (sst : Int), .int .i64 (uu : Int), .int .u64 (E : Int), .bool false] 68)).here 0 (.int .u64 (E : Int))).here 1 (.string (ba s))).here 2 (.slice A ts.length c)).drew
           have bG1 := ((((Blk.new w6 68 #[.pointer (some ⟨F.d, 0, none⟩), .int .i64 (sst : Int), .int .i64 (uu : Int), .int .u64 (E : Int), .bool false]).far (p := ⟨w.heap.size, 0, none⟩) hneH (.int .u64 (E : Int))).far (p := ⟨w.heap.size, 1, none⟩) hneH (.string (ba s))).far (p := ⟨w.heap.size, 2, none⟩) hneH (.slice A ts.length c)).drew
           refine bodyPost_ret (results_three (P := Tryd.prog) rfl _ _ w.heap.size 39 #[.int .u64 (E : Int), .string (ba s), .slice A ts.length c] (0, 0) _ _ _ rfl rfl rfl bH1 Tryd.underlying39 rfl found_size) rfl ?_
           exact ⟨w6.heap.size, A, c, F6, rfl, HFin.out _ k1 bG1⟩)
end
end Go.Proofs.YtggecdgomgmhmaaDoor
