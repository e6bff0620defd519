/-
  A log on a disk of a law's own: what Break, Append, Snap, Crash, Open and Format make of it, call by call. Condition: the disk was made by New; the table of crc holds what its text says.
-/
import Derived.Test.YtggecdgomgmhmaaDoorHalN
namespace Go.Proofs.YtggecdgomgmhmaaDoor
open Go.RowKit

/-- The disk and the log have moved on; nothing else has turned. -/
def Mv (w : World) (F : Foot) (g : Nat) (w' : World) (F' : Foot) (g' : Nat) : Prop :=
  F'.d = F.d ∧ Kept (fun x => F.has x ∨ x = g) w w' ∧ ∀ x, (F'.has x ∨ x = g') → (F.has x ∨ x = g) ∨ w.heap.size ≤ x
section
variable {w w' w2 : World} {F F' F2 : Foot} {g g' g2 : Nat}
theorem Mv.trans (h : Mv w F g w' F' g') (k : Mv w' F' g' w2 F2 g2) : Mv w F g w2 F2 g2 :=
  ⟨k.1.trans h.1, h.2.1.trans k.2.1 (fun x hx => h.2.2 x hx), fun x hx => by
    rcases k.2.2 x hx with e | e
    · exact h.2.2 x e
    · have := h.2.1.size; exact .inr (by omega)⟩
theorem Mv.below (hb : Below w.heap.size w w') (F : Foot) (g : Nat) : Mv w F g w' F g := ⟨rfl, Kept.of_below hb, fun _ hx => .inl hx⟩
theorem Mv.same (w : World) (F : Foot) (g : Nat) : Mv w F g w F g := ⟨rfl, Kept.refl _ _, fun _ hx => .inl hx⟩
theorem Mv.blk (h : Mv w F g w' F' g') {b : Nat} {t : TypeId} {cs : Array Value} (hb : Blk w b t cs) (ho : ¬ (F.has b ∨ b = g)) : Blk w' b t cs ∧ ¬ (F'.has b ∨ b = g') :=
  ⟨hb.of (h.2.1.block _ hb.lt ho), fun hx => by
    rcases h.2.2 b hx with e | e
    · exact ho e
    · have := hb.lt; omega⟩
theorem Mv.lies (h : Mv w F g w' F' g') {A : Option Addr} {vs : List Value} (hl : Lies (fun x => F.has x ∨ x = g) w A vs) : Lies (fun x => F'.has x ∨ x = g') w' A vs := fun i u hi => by
  obtain ⟨a, e1, e2, e3, e4⟩ := hl i u hi
  refine ⟨a, e1, Nat.lt_of_lt_of_le e2 h.2.1.size, fun hs => ?_, ?_⟩
  · rcases h.2.2 _ hs with e | e
    · exact e3 e
    · omega
  · rw [← e4]
    exact World.cell?_of_block (by rw [add_block]; exact h.2.1.block _ e2 e3)
theorem Mv.of_l {D : Dsk} {st u e : Nat} {br : Bool} (h : LNext w F g D st u e br w') : ∃ F', Mv w F g w' F' g ∧ DiskAt w' F' D ∧ LogAt w' g F.d st u e br := by
  obtain ⟨F', h1, h2, h3, h4, h5⟩ := h
  exact ⟨F', ⟨h1, h4, fun x hx => by
    rcases hx with hx | hx
    · rcases h5 x hx with e | e
      · exact .inl (.inl e)
      · exact .inr e
    · exact .inl (.inr hx)⟩, h2, h3⟩
end

/-- Where the law stands: below B all is as it was in W. -/
structure Base (B : Nat) (W w : World) (F : Foot) (g : Nat) : Prop where
  bel : Below B W w
  lo : B ≤ w.heap.size
  own : ∀ k, (F.has k ∨ k = g) → B ≤ k
  tab : Tab W
  tlt : 0 < B
section
variable {B : Nat} {W w w' : World} {F F' : Foot} {g g' : Nat}
theorem Base.mv (h : Base B W w F g) (m : Mv w F g w' F' g') : Base B W w' F' g' :=
  ⟨Kept.below h.bel m.2.1 h.own h.lo, Nat.le_trans h.lo m.2.1.size, fun k hk => by
    rcases m.2.2 k hk with e | e
    · exact h.own k e
    · have := h.lo; omega, h.tab, h.tlt⟩
theorem Base.t (h : Base B W w F g) : Tab w := h.tab.below h.bel h.tlt
end
def Out (E : Int) (old new : Prop) : Prop := (E = 0 ∧ new) ∨ (E = 18 ∧ (old ∨ new)) ∨ (E ≠ 0 ∧ E ≠ 18 ∧ old)

/-- A log that is open. -/
structure Run (w : World) (F : Foot) (g : Nat) (D : Dsk) (n hf st ot e : Nat) (s : List UInt8) (ts : List (List UInt8)) (u : Nat) : Prop where
  disk : DiskAt w F D
  n_ : D.n = n
  br : D.broken = false
  pend : D.pend = []
  ld : LD D.dur n hf st ot e s ts u
  log : LogAt w g F.d st u e false
  hhf : n / 2 = hf
  small : n ≤ 80000
/-- A disk with a log, whatever its state. -/
structure Aft (w : World) (F : Foot) (D : Dsk) (n hf : Nat) (P : List UInt8 → Prop) : Prop where
  disk : DiskAt w F D
  n_ : D.n = n
  hhf : n / 2 = hf
  small : n ≤ 80000
  out : ∀ keep, P (Dk.puts D.dur (Dk.cuts D.pend keep))
/-- A disk behind a crash. -/
structure Cr (w : World) (F : Foot) (D : Dsk) (n hf : Nat) (l : List UInt8) : Prop where
  disk : DiskAt w F D
  n_ : D.n = n
  br : D.broken = false
  pend : D.pend = []
  left : D.left = 0
  dur : D.dur = l
  hhf : n / 2 = hf
  small : n ≤ 80000
section
variable {B : Nat} {W w : World} {F : Foot} {g : Nat} {D : Dsk} {n hf st ot e u : Nat} {s : List UInt8} {ts : List (List UInt8)}
theorem Run.mv_below (h : Run w F g D n hf st ot e s ts u) {w' : World} (hb : Below w.heap.size w w') : Run w' F g D n hf st ot e s ts u :=
  ⟨Raw.keep h.disk (S := fun _ => False) (Kept.of_below hb) (fun _ _ hx => hx), h.n_, h.br, h.pend, h.ld, LogAt.kept h.log (Kept.of_below (S := fun _ => False) hb) (fun hx => hx), h.hhf, h.small⟩
theorem Run.cr (h : Run w F g D n hf st ot e s ts u) (h0 : D.left = 0) : Cr w F D n hf D.dur := ⟨h.disk, h.n_, h.br, h.pend, h0, rfl, h.hhf, h.small⟩
theorem Run.aft (h : Run w F g D n hf st ot e s ts u) {P : List UInt8 → Prop} (hP : P D.dur) : Aft w F D n hf P := ⟨h.disk, h.n_, h.hhf, h.small, fun keep => by rw [h.pend]; exact hP⟩

theorem run_break (h : Run w F g D n hf st ot e s ts u) (k : Int) (h1 : -9223372036854775808 ≤ k) (h2 : k ≤ 9223372036854775807) :
    Calls Tryd.prog 11 #[.pointer (some ⟨F.d, 0, none⟩), .int .i64 k] w fun x w' => x = .returned (.tuple #[]) ∧ Mv w F g w' F g ∧ Run w' F g (D.brk k) n hf st ot e s ts u := by
  have hoff := LogAt.off h.log h.disk
  refine (break_any h.disk k h1 h2).mono ?_
  rintro x w' ⟨rfl, hr, hk⟩
  refine ⟨rfl, ⟨rfl, hk.mono (fun x hx => .inl (.inl (.inl hx))), fun x hx => .inl hx⟩, ⟨hr, h.n_, h.br, h.pend, h.ld, LogAt.kept h.log hk (fun hx => hoff (.inl hx)), h.hhf, h.small⟩⟩

def TryP (w : World) (F : Foot) (g n hf : Nat) (old new : List UInt8 → Prop) (x : Ending) (w' : World) : Prop :=
  ∃ (E : Int) (F' : Foot) (D' : Dsk), x = .returned (.int .i64 E) ∧ Mv w F g w' F' g ∧ Aft w' F' D' n hf (fun l => Out E (old l) (new l))
theorem app_try (b : Base B W w F g) (h : Run w F g D n hf st ot e s ts u) (t : ByteArray) (ht : t.size ≤ 1000) :
    Calls Tryd.prog 13 #[.pointer (some ⟨g, 0, none⟩), .string t] w (TryP w F g n hf (fun l => LO l n hf st ot e s ts u) (fun l => LO l n hf st ot e s (ts ++ [t.data.toList]) (u + (t.size + 8)))) := by
  have hold := h.ld.open_
  by_cases hz : 1 ≤ t.size ∧ t.size ≤ 32768
  · by_cases hr : u + (t.size + 8) ≤ hf
    · have hk : Fr.ok t.data.toList.length := by rw [size_list]; exact hz
      have hhd : D.n / 2 = hf := by rw [h.n_]; exact h.hhf
      have hst : st + hf ≤ D.n := by have := h.ld.half; have := h.ld.two; rw [h.n_]; omega
      refine (append_go h.disk h.br b.t hhd h.log hst t hz hr (by rw [h.pend]; decide)).mono ?_
      rintro x w' ⟨rfl, hx⟩
      obtain ⟨F', hm, hd, hl⟩ := Mv.of_l hx
      have hw : (ba (Fr.wrap t.data.toList)).data.toList = Fr.rec_ t.data.toList := by rw [ba_list, Fr.wrap_ok hk]
      obtain ⟨hn, hc, _⟩ := run_two D h.br h.pend (st + u) (ba (Fr.wrap t.data.toList)) (.write (st + u) (ba (Fr.wrap t.data.toList))) rfl
      unfold appS at hd ⊢
      generalize runD [.write (st + u) (ba (Fr.wrap t.data.toList)), .sync] D = D' at hd hn hc ⊢
      have hr' : u + (t.data.toList.length + 8) ≤ hf := by rw [size_list]; exact hr
      refine ⟨_, F', D', rfl, hm, hd, hn.trans h.n_, h.hhf, h.small, fun keep => ?_⟩
      rcases hc with ⟨b1, d1, p1⟩ | ⟨b1, d1, p1⟩
      · rw [b1, d1, p1, crash_one, hw]
        have := h.ld.torn hk hr' (Dk.keepN keep (ba (Fr.wrap t.data.toList)))
        rw [size_list] at this
        exact .inr (.inl ⟨rfl, this⟩)
      · rw [b1, d1, p1, crash_nil_, hw]
        have := (h.ld.app hk hr').open_
        rw [size_list] at this
        exact .inl ⟨rfl, this⟩
    · refine (append_full h.disk (by rw [h.n_]; exact h.hhf) h.log (by have := h.ld.fit; have := h.hhf; have := h.small; omega) t hz hr).mono ?_
      rintro x w' ⟨rfl, hb⟩
      exact ⟨15, F, D, rfl, Mv.below hb F g, (h.mv_below hb).aft (.inr (.inr ⟨by decide, by decide, hold⟩))⟩
  · refine (append_arg h.log t (by omega) hz).mono ?_
    rintro x w' ⟨rfl, rfl⟩
    exact ⟨1, F, D, rfl, Mv.same w F g, h.aft (.inr (.inr ⟨by decide, by decide, hold⟩))⟩
theorem snap_try (b : Base B W w F g) (h : Run w F g D n hf st ot e s ts u) (he : e + 1 ≤ 18446744073709551615) (t : ByteArray) (ht : t.size ≤ 1000) (hfit : t.size + 28 ≤ hf) :
    Calls Tryd.prog 12 #[.pointer (some ⟨g, 0, none⟩), .string t] w (TryP w F g n hf (fun l => LO l n hf st ot e s ts u) (fun l => LO l n hf ot st (e + 1) t.data.toList [] (Fr.rec_ (Hv.head (e + 1) t.data.toList)).length)) := by
  have htl : t.data.toList.length ≤ 1000 := by rw [size_list]; exact ht
  obtain ⟨hk, hl⟩ := head_ok he htl
  have hR := hrec_ok (hf := hf) (e := e + 1) (by omega) he htl (by rw [size_list]; exact hfit)
  have hRl : (Fr.rec_ (Hv.head (e + 1) t.data.toList)).length ≤ hf := by rw [size_list] at hl; omega
  have hhd : D.n / 2 = hf := by rw [h.n_]; exact h.hhf
  refine (snap_go h.disk h.br b.t hhd h.log h.ld.half he t (by omega) (ba (Fr.rec_ (Hv.head (e + 1) t.data.toList))) (by rw [hR]) (by rw [ba_size, Fr.rec_length]; omega) (by rw [h.pend]; decide)).mono ?_
  rintro x w' ⟨rfl, hx⟩
  obtain ⟨F', hm, hd, hl'⟩ := Mv.of_l hx
  obtain ⟨hn, hc, _⟩ := run_beg D h.br h.pend ot hf (ba (Fr.rec_ (Hv.head (e + 1) t.data.toList)))
  generalize runD (beg ot hf (ba (Fr.rec_ (Hv.head (e + 1) t.data.toList)))) D = D' at hd hn hc ⊢
  refine ⟨_, F', D', rfl, hm, hd, hn.trans h.n_, h.hhf, h.small, fun keep => ?_⟩
  have hts : t.data.toList.length ≤ 32768 := by omega
  rcases hc with ⟨b1, d1, p1⟩ | ⟨b1, d1, p1⟩ | ⟨b1, d1, p1⟩
  · rw [b1, d1, p1, crash_one, ba_list, zb_take _ _ (by have := Dk.keepN_le keep (ba (zb hf)); rw [ba_size, zb_len] at this; exact this)]
    exact .inr (.inl ⟨rfl, .inl (h.ld.wiped _ (by have := Dk.keepN_le keep (ba (zb hf)); rw [ba_size, zb_len] at this; exact this))⟩)
  · rw [b1, d1, p1, crash_one, ba_list]
    exact .inr (.inl ⟨rfl, h.ld.headed he hts hk hRl _⟩)
  · rw [b1, d1, p1, crash_nil_, ba_list]
    exact .inl ⟨rfl, (h.ld.snap he hts hk hRl).open_⟩

theorem run_crash {P : List UInt8 → Prop} (h : Aft w F D n hf P) (keep : Int) (h1 : -9223372036854775808 ≤ keep) (h2 : keep ≤ 9223372036854775807) :
    Calls Tryd.prog 14 #[.pointer (some ⟨F.d, 0, none⟩), .int .i64 keep] w fun x w' => (∃ k : Int, x = .returned (.int .i64 k)) ∧ ∃ (F' : Foot) (D' : Dsk) (l : List UInt8), Mv w F g w' F' g ∧ Cr w' F' D' n hf l ∧ P l := by
  refine (crash_any h.disk keep h1 h2).mono ?_
  rintro x w' ⟨rfl, hn⟩
  obtain ⟨F', e1, e2, e3, e4⟩ := hn
  refine ⟨⟨_, rfl⟩, F', D.crash keep, _, ⟨e1, e3.mono (fun x hx => .inl (.inl hx)), fun x hx => ?_⟩, ⟨e2, h.n_, rfl, rfl, rfl, rfl, h.hhf, h.small⟩, h.out keep⟩
  rcases hx with hx | hx
  · rcases e4 x hx with q | q
    · exact .inl (.inl q)
    · exact .inr q
  · exact .inl (.inr hx)

def OpP (w : World) (F : Foot) (g n hf st ot e : Nat) (s : List UInt8) (ts : List (List UInt8)) (u : Nat) (x : Ending) (w' : World) : Prop :=
  ∃ (g' : Nat) (A : Option Addr) (c : Nat) (F' : Foot) (D' : Dsk), x = .returned (.tuple #[.pointer (some ⟨g', 0, none⟩), .agg #[.int .u64 (e : Int), .string (ba s), .slice A ts.length c], .int .i64 0]) ∧ Mv w F g w' F' g' ∧ w.heap.size ≤ g' ∧ Run w' F' g' D' n hf st ot e s ts u ∧ D'.left = 0 ∧ Lies (fun k => F'.has k ∨ k = g') w' A (cs (ts.map ba)) ∧ Kept F.has w w' ∧ ∀ k, F'.has k → F.has k ∨ w.heap.size ≤ k
theorem run_open (b : Base B W w F g) {l : List UInt8} (h : Cr w F D n hf l) (ho : LO l n hf st ot e s ts u) :
    Calls Tryd.prog 15 #[.pointer (some ⟨F.d, 0, none⟩)] w (OpP w F g n hf st ot e s ts u) := by
  have hd := h.dur
  subst hd
  have hhd : D.n / 2 = hf := by rw [h.n_]; exact h.hhf
  have hnw := ho.newest
  have hst : st + hf ≤ D.n := by have := ho.half; have := ho.two; rw [h.n_]; omega
  obtain ⟨hn, hc, hz⟩ := run_two D h.br h.pend (st + u) (ba (zb (hf - u))) (.wipe (st + u) (hf - u)) rfl
  obtain ⟨z1, z2⟩ := hz h.left
  rw [ba_list] at hc
  refine (open_go h.disk h.br b.t (by rw [h.n_]; exact h.small) hhd (by rw [h.pend]; decide) (by rw [lat_nil h.pend]; exact hnw) (by have := ho.good.low; omega) ho.fit hst z1).mono ?_
  rintro x w' ⟨g', A, c, F', rfl, q1, q2, q3, q4, q5, q6, q7⟩
  unfold opS at q3
  rcases hc with ⟨b1, _⟩ | ⟨b1, d1, p1⟩
  · rw [z1] at b1; cases b1
  refine ⟨g', A, c, F', _, rfl, ⟨q2, q6.mono (fun x hx => .inl (.inl hx)), fun x hx => ?_⟩, q1, ⟨q3, hn.trans h.n_, z1, p1, by rw [d1]; exact ho.wipe, by rw [q2]; exact q4, h.hhf, h.small⟩, z2, q5.mono (fun k _ hk => by
    rcases hk with hk | hk
    · exact .inl hk
    · exact .inr (.inl hk)), q6, q7⟩
  rcases hx with hx | hx
  · rcases q7 x hx with q | q
    · exact .inl (.inl q)
    · exact .inr q
  · exact .inr (by omega)
end
end Go.Proofs.YtggecdgomgmhmaaDoor
