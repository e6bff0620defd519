/-
  A log on a disk of a law's own that does not break: what Append, Snap, Format and Open make of it, call by call; the document's Size. Condition: the disk was made by New; the table of crc holds what its text says.
-/
import Derived.Test.YtggecdgomgmhmaaDoorHalO
import Derived.Test.YtggecdgomgmhmaaDoorShort05
import Derived.Test.YtggecdgomgmhmaaDoorSame
namespace Go.Proofs.YtggecdgomgmhmaaDoor
open Go.RowKit

theorem refSize_any (n : Int) (w : World) : Calls Tryd.prog 20 #[.int .i64 n] w fun e w' => e = .returned (.int .i64 (sz n)) ∧ w = w' := by
  by_cases h1 : 1 ≤ n
  · by_cases h2 : n ≤ 32768
    · have HS := Lib.hid (sz_ok h1 h2)
      have h3 : ¬ n < 1 := by omega
      have h4 : ¬ 32768 < n := by omega
      go_enter Tryd.func20, Tryd.ntmps20
      go_wp2
      go_ret
      refine ⟨?_, rfl⟩
      rw [HS.out]
      rfl
    · have HS := Lib.hid (sz_no (n := n) (by omega))
      have h3 : ¬ n < 1 := by omega
      have h4 : 32768 < n := by omega
      go_enter Tryd.func20, Tryd.ntmps20
      go_wp2
      go_ret
      refine ⟨?_, rfl⟩
      rw [HS.out]
      rfl
  · have HS := Lib.hid (sz_no (n := n) (by omega))
    have h3 : n < 1 := by omega
    go_enter Tryd.func20, Tryd.ntmps20
    go_wp2
    go_ret
    refine ⟨?_, rfl⟩
    rw [HS.out]
    rfl

section
variable {B : Nat} {W w : World} {F : Foot} {g : Nat} {D : Dsk} {n hf st ot e u : Nat} {s : List UInt8} {ts : List (List UInt8)}
/-- An appended text, or none. -/
def App0P (w : World) (F : Foot) (g n hf st ot e : Nat) (s : List UInt8) (ts : List (List UInt8)) (u : Nat) (t : ByteArray) (x : Ending) (w' : World) : Prop :=
  ∃ (F' : Foot) (D' : Dsk), Mv w F g w' F' g ∧ D'.left = 0 ∧
    ((x = .returned (.int .i64 0) ∧ (1 ≤ t.size ∧ t.size ≤ 32768) ∧ u + (t.size + 8) ≤ hf ∧ Run w' F' g D' n hf st ot e s (ts ++ [t.data.toList]) (u + (t.size + 8))) ∨
     ((∃ E : Int, x = .returned (.int .i64 E) ∧ (E = 1 ∨ E = 15)) ∧ ¬ ((1 ≤ t.size ∧ t.size ≤ 32768) ∧ u + (t.size + 8) ≤ hf) ∧ Run w' F' g D' n hf st ot e s ts u))
theorem app0 (b : Base B W w F g) (h : Run w F g D n hf st ot e s ts u) (h0 : D.left = 0) (t : ByteArray) (ht : t.size ≤ 1000) :
    Calls Tryd.prog 13 #[.pointer (some ⟨g, 0, none⟩), .string t] w (App0P w F g n hf st ot e s ts u t) := by
  by_cases hz : 1 ≤ t.size ∧ t.size ≤ 32768
  · by_cases hr : u + (t.size + 8) ≤ hf
    · have hk : Fr.ok t.data.toList.length := by rw [size_list]; exact hz
      have hhd : D.n / 2 = hf := by rw [h.n_]; exact h.hhf
      have hst : st + hf ≤ D.n := by have := h.ld.half; have := h.ld.two; rw [h.n_]; omega
      refine (append_go h.disk h.br b.t hhd h.log hst t hz hr (by rw [h.pend]; decide)).mono ?_
      rintro x w' ⟨rfl, hx⟩
      obtain ⟨F', hm, hd, hl⟩ := Mv.of_l hx
      have hw : (ba (Fr.wrap t.data.toList)).data.toList = Fr.rec_ t.data.toList := by rw [ba_list, Fr.wrap_ok hk]
      obtain ⟨hn, hc, hzz⟩ := run_two D h.br h.pend (st + u) (ba (Fr.wrap t.data.toList)) (.write (st + u) (ba (Fr.wrap t.data.toList))) rfl
      obtain ⟨z1, z2⟩ := hzz h0
      unfold appS at hd hl ⊢
      generalize runD [.write (st + u) (ba (Fr.wrap t.data.toList)), .sync] D = D' at hd hl hn hc z1 z2 ⊢
      have hr' : u + (t.data.toList.length + 8) ≤ hf := by rw [size_list]; exact hr
      rcases hc with ⟨b1, _⟩ | ⟨b1, d1, p1⟩
      · rw [z1] at b1; cases b1
      · refine ⟨F', D', hm, z2, .inl ⟨by rw [z1]; rfl, hz, hr, ?_⟩⟩
        have := h.ld.app hk hr'
        rw [size_list] at this
        rw [z1] at hl
        exact ⟨hd, hn.trans h.n_, z1, p1, by rw [d1, hw]; exact this, by rw [hm.1]; exact hl, h.hhf, h.small⟩
    · refine (append_full h.disk (by rw [h.n_]; exact h.hhf) h.log (by have := h.ld.fit; have := h.hhf; have := h.small; omega) t hz hr).mono ?_
      rintro x w' ⟨rfl, hb⟩
      exact ⟨F, D, Mv.below hb F g, h0, .inr ⟨⟨15, rfl, .inr rfl⟩, fun hc => hr hc.2, h.mv_below hb⟩⟩
  · refine (append_arg h.log t (by omega) hz).mono ?_
    rintro x w' ⟨rfl, rfl⟩
    exact ⟨F, D, Mv.same w F g, h0, .inr ⟨⟨1, rfl, .inl rfl⟩, fun hc => hz hc.1, h⟩⟩
/-- How long a small head's record is. -/
theorem head_small (e : Nat) (t : List UInt8) (he : e < 128) (ht : t.length < 128) : (Fr.rec_ (Hv.head e t)).length = t.length + 10 := by
  rw [Fr.rec_length]
  unfold Hv.head Pk.text
  rw [Pk.num_lt he, Pk.num_lt ht]
  simp
theorem snap0 (b : Base B W w F g) (h : Run w F g D n hf st ot e s ts u) (h0 : D.left = 0) (he : e + 1 ≤ 18446744073709551615) (t : ByteArray) (ht : t.size ≤ 1000) (hfit : t.size + 28 ≤ hf) :
    Calls Tryd.prog 12 #[.pointer (some ⟨g, 0, none⟩), .string t] w fun x w' => x = .returned (.int .i64 0) ∧ ∃ (F' : Foot) (D' : Dsk), Mv w F g w' F' g ∧ D'.left = 0 ∧ Run w' F' g D' n hf ot st (e + 1) t.data.toList [] (Fr.rec_ (Hv.head (e + 1) t.data.toList)).length := by
  have htl : t.data.toList.length ≤ 1000 := by rw [size_list]; exact ht
  obtain ⟨hk, hl⟩ := head_ok he htl
  have hR := hrec_ok (hf := hf) (e := e + 1) (by omega) he htl (by rw [size_list]; exact hfit)
  have hRl : (Fr.rec_ (Hv.head (e + 1) t.data.toList)).length ≤ hf := by rw [size_list] at hl; omega
  have hhd : D.n / 2 = hf := by rw [h.n_]; exact h.hhf
  refine (snap_go h.disk h.br b.t hhd h.log h.ld.half he t (by omega) (ba (Fr.rec_ (Hv.head (e + 1) t.data.toList))) (by rw [hR]) (by rw [ba_size, Fr.rec_length]; omega) (by rw [h.pend]; decide)).mono ?_
  rintro x w' ⟨rfl, hx⟩
  obtain ⟨F', hm, hd, hl'⟩ := Mv.of_l hx
  obtain ⟨hn, hc, hzz⟩ := run_beg D h.br h.pend ot hf (ba (Fr.rec_ (Hv.head (e + 1) t.data.toList)))
  obtain ⟨z1, z2⟩ := hzz h0
  generalize runD (beg ot hf (ba (Fr.rec_ (Hv.head (e + 1) t.data.toList)))) D = D' at hd hn hc hl' z1 z2 ⊢
  rcases hc with ⟨b1, _⟩ | ⟨b1, _⟩ | ⟨b1, d1, p1⟩
  · rw [z1] at b1; cases b1
  · rw [z1] at b1; cases b1
  · rw [z1] at hl'
    refine ⟨by rw [z1]; rfl, F', D', hm, z2, hd, hn.trans h.n_, z1, p1, by rw [d1, ba_list]; exact h.ld.snap he (by omega) hk hRl, ?_, h.hhf, h.small⟩
    rw [hm.1]
    have : (ba (Fr.rec_ (Hv.head (e + 1) t.data.toList))).size = (Fr.rec_ (Hv.head (e + 1) t.data.toList)).length := ba_size _
    rw [this] at hl'
    exact hl'
/-- Formatting. -/
def Fmt0P (w : World) (F : Foot) (n hf e : Nat) (t : ByteArray) (x : Ending) (w' : World) : Prop :=
  ∃ (g' : Nat) (F' : Foot) (D' : Dsk), x = .returned (.tuple #[.pointer (some ⟨g', 0, none⟩), .int .i64 0]) ∧ w.heap.size ≤ g' ∧ F'.d = F.d ∧ Kept F.has w w' ∧ (∀ k, F'.has k → F.has k ∨ w.heap.size ≤ k) ∧ D'.left = 0 ∧ Run w' F' g' D' n hf 0 hf e t.data.toList [] (Fr.rec_ (Hv.head e t.data.toList)).length
theorem fmt0 (hT : Tab w) {l : List UInt8} (h : Cr w F D n hf l) (hl : l.length = n) (he : eOf (newestOf l hf) + 1 = e) (he' : e ≤ 18446744073709551615) (t : ByteArray) (ht : t.size ≤ 1000) (hfit : t.size + 28 ≤ hf) :
    Calls Tryd.prog 9 #[.pointer (some ⟨F.d, 0, none⟩), .string t] w (Fmt0P w F n hf e t) := by
  have hd := h.dur
  subst hd
  have htl : t.data.toList.length ≤ 1000 := by rw [size_list]; exact ht
  obtain ⟨hk, hl0⟩ := head_ok he' htl
  have hR := hrec_ok (hf := hf) (e := e) (by omega) he' htl (by rw [size_list]; exact hfit)
  have hRl : (Fr.rec_ (Hv.head e t.data.toList)).length ≤ hf := by rw [size_list] at hl0; omega
  have hhd : D.n / 2 = hf := by rw [h.n_]; exact h.hhf
  obtain ⟨z0, z1, z2, z3, z4⟩ := run_fmt D h.br h.pend h.left hf (ba (Fr.rec_ (Hv.head e t.data.toList)))
  refine (format_go h.disk h.br hT (by rw [h.n_]; exact h.small) hhd (by rw [h.pend]; decide) (by rw [lat_nil h.pend]; exact he) he' t (by omega) (ba (Fr.rec_ (Hv.head e t.data.toList))) (by rw [hR]) (by rw [ba_size, Fr.rec_length]; omega) z1).mono ?_
  rintro x w' ⟨g', F', rfl, q1, q2, q3, q4, q5, q6⟩
  refine ⟨g', F', _, rfl, q1, q2, q5, q6, z4, q3, z0.trans h.n_, z1, z3, ?_, ?_, h.hhf, h.small⟩
  · rw [z2, ba_list]
    exact formatted hl (by have := h.hhf; omega) (by omega) he' (by omega) hk hRl
  · rw [q2]
    have : (ba (Fr.rec_ (Hv.head e t.data.toList))).size = (Fr.rec_ (Hv.head e t.data.toList)).length := ba_size _
    rw [this] at q4
    exact q4
theorem base_fmt {F' : Foot} {w' : World} {g' : Nat} (hb : Below B W w) (hlo : B ≤ w.heap.size) (hF : ∀ k, F.has k → B ≤ k) (hT : Tab W) (ht : 0 < B) (hk : Kept F.has w w') (hx : ∀ k, F'.has k → F.has k ∨ w.heap.size ≤ k) (hg : w.heap.size ≤ g') : Base B W w' F' g' :=
  ⟨Kept.below hb hk hF hlo, Nat.le_trans hlo hk.size, fun k hk' => by
    rcases hk' with h | h
    · rcases hx k h with e | e
      · exact hF k e
      · omega
    · omega, hT, ht⟩
/-- A fresh disk. -/
theorem fresh_cr {n : Nat} (h : DiskAt w F (Dsk.fresh n)) (hhf : n / 2 = hf) (hs : n ≤ 80000) : Cr w F (Dsk.fresh n) n hf (zb n) := ⟨h, rfl, rfl, rfl, rfl, rfl, hhf, hs⟩
end
theorem Base.kept {B : Nat} {W w w' : World} {F : Foot} {g : Nat} {S : Nat → Prop} (h : Base B W w F g) (hk : Kept S w w') (hS : ∀ k, S k → B ≤ k) : Base B W w' F g :=
  ⟨Kept.below h.bel hk hS h.lo, Nat.le_trans h.lo hk.size, h.own, h.tab, h.tlt⟩
theorem Run.kept {w w' : World} {F : Foot} {g : Nat} {D : Dsk} {n hf st ot e u : Nat} {s : List UInt8} {ts : List (List UInt8)} {S : Nat → Prop} (h : Run w F g D n hf st ot e s ts u) (hk : Kept S w w') (hS : ∀ x, (F.has x ∨ x = g) → ¬ S x) : Run w' F g D n hf st ot e s ts u :=
  ⟨Raw.keep h.disk hk (fun x hx => hS x (.inl hx)), h.n_, h.br, h.pend, h.ld, LogAt.kept h.log hk (hS g (.inr rfl)), h.hhf, h.small⟩
/-- A row of the call's own lies off the disk and the log. -/
theorem own_off {w : World} {F : Foot} {g : Nat} {D : Dsk} {n hf st ot e u : Nat} {s : List UInt8} {ts : List (List UInt8)} {base k : Nat} {v : Value} {xs : List Value} (hr : Run w F g D n hf st ot e s ts u) (h : w.ownsRow base 9 1 v k xs) {b : Nat} (hb : v.ownBlock = some b) : ¬ (F.has b ∨ b = g) := by
  have hd := hr.disk
  rintro ((rfl | rfl | rfl | hx) | rfl)
  · exact own_blk_ne h hd.blk (by decide) hb
  · exact own_blk_ne h hd.g1 (by decide) hb
  · exact own_blk_ne h hd.g2 (by decide) hb
  · rcases h.2 with ⟨rfl, _⟩ | ⟨g', cap, cur, rfl, _, hh, _⟩
    · cases hb
    · have e1 : g' = b := by simpa [Value.ownBlock] using hb
      subst e1
      exact own_blk_ne hd.own (show Blk w g' 9 cur from hh) (by decide) hx
  · exact own_blk_ne h hr.log (by decide) hb
theorem own_mv {w w' : World} {F F' : Foot} {g g' : Nat} {D : Dsk} {n hf st ot e u : Nat} {s : List UInt8} {ts : List (List UInt8)} {base k : Nat} {v : Value} {xs : List Value} (hr : Run w F g D n hf st ot e s ts u) (h : w.ownsRow base 9 1 v k xs) (m : Mv w F g w' F' g') : w'.ownsRow base 9 1 v k xs :=
  own_of h (fun b hb => m.2.1.block b (own_lt h hb) (own_off hr h hb))

end Go.Proofs.YtggecdgomgmhmaaDoor
