/-
  The disk beside the document's own disk: each call on the one, and the same call on the other, tell the same, and both are alike again behind them. Condition: both were made by New, of one size; fewer than 1000 writes wait.
-/
import Derived.Test.YtlifaegmidgcnaaRefD
namespace Go.Proofs.Ytlifaegmidgcnaa
open Go.RowKit

/-- The disk is D, the document's is D0; each of the call's own; below B all is as it was in W. -/
def Play (B : Nat) (W w : World) (d g : Nat) (D D0 : Dsk) : Prop :=
  ∃ (F : Foot) (G : RFoot) (rl : Int), F.d = d ∧ G.d = g ∧ Two B W w F D G.has ∧ Ref w G D0.n D0.dur D0.pend rl D0.broken ∧ (D0.broken = false → rl = max D0.left 0)

def wErr (D : Dsk) (k : Int) (s : ByteArray) : Int := if hasB D.n k (s.size : Int) then (if D.broken then 18 else errOf (stepB D.left false)) else 1
def Dsk.doWrite (D : Dsk) (k : Int) (s : ByteArray) : Dsk := if hasB D.n k (s.size : Int) then (if D.broken then D else D.write k.toNat s) else D
def sErr (D : Dsk) : Int := errOf (stepB D.left D.broken)
def Dsk.doSync (D : Dsk) : Dsk := if stepB D.left D.broken then D.fail else D.sync
def rText (D : Dsk) (k m : Int) : ByteArray := if hasB D.n k m then (if D.broken then ⟨#[]⟩ else part D.lat k.toNat m.toNat) else ⟨#[]⟩
def rErr (D : Dsk) (k m : Int) : Int := if hasB D.n k m then (if D.broken then 18 else 0) else 1

theorem hasB_nat {n : Nat} {k m : Int} (h : hasB n k m = true) : ∃ a b : Nat, k = (a : Int) ∧ m = (b : Int) ∧ a + b ≤ n := by
  simp only [hasB, Bool.and_eq_true, decide_eq_true_eq] at h
  exact ⟨k.toNat, m.toNat, by omega, by omega, by omega⟩

section
variable {B : Nat} {W w w' : World} {d g : Nat} {D D0 : Dsk}

theorem Play.after (h : Play B W w d g D D0) (hb : Below w.heap.size w w') : Play B W w' d g D D0 := by
  obtain ⟨F, G, rl, e1, e2, t, r, hl⟩ := h
  exact ⟨F, G, rl, e1, e2, t.after hb, r.below hb, hl⟩
theorem Play.drew (h : Play B W w d g D D0) : Play B W w.drew d g D D0 := h.after (Below.refl _ w).drew
theorem Play.bel (h : Play B W w d g D D0) : Below B W w := by
  obtain ⟨F, G, rl, e1, e2, t, r, hl⟩ := h
  exact t.bel
theorem Play.ofTwo {F : Foot} {G : RFoot} {rl : Int} (e2 : G.d = g) (r : Ref w G D0.n D0.dur D0.pend rl D0.broken) (hl : D0.broken = false → rl = max D0.left 0) (hd : F.d = d) (t : TwoPost B W F.d D G.has w w') : Play B W w' d g D D0 := by
  obtain ⟨F', e, t', hk⟩ := t
  refine ⟨F', G, rl, e.trans hd, e2, t', ⟨r.blk.of (hk _ (.inl rfl)), r.bts.of (hk _ (.inr (.inl rfl))), own_of r.own (fun b e => hk b (.inr (.inr e))), r.within, r.few, r.pos, r.small, r.low, r.high⟩, hl⟩
theorem Play.ofNext {F : Foot} {G : RFoot} {rl : Int} (e1 : F.d = d) (t : Two B W w F D G.has) (e2 : G.d = g) {D1 : Dsk} (hl : D1.broken = false → rl = max D1.left 0) (r : RNext w G D1.n D1.dur D1.pend rl D1.broken w') : Play B W w' d g D D1 := by
  obtain ⟨G', e, r', hk, hx⟩ := r
  exact ⟨F, G', rl, e1, e.trans e2, t.other hk (fun k hk' => ⟨hx k hk', RFoot.has_lt r' k hk'⟩), r', hl⟩
theorem Play.cell (h : Play B W w d g D D0) : w.cell? ⟨g, 3, none⟩ = some (.bool D0.broken) := by
  obtain ⟨F, G, rl, e1, rfl, t, r, hl⟩ := h
  exact r.c3

theorem play_write (h : Play B W w d g D D) (k : Int) (s : ByteArray) (hs : s.size ≤ maxLen) (hp : D.pend.length < 1000) :
    Calls Try.prog 21 #[.pointer (some ⟨d, 0, none⟩), .int .i64 k, .string s] w fun e w' => e = .returned (.int .i64 (wErr D k s)) ∧ Play B W w' d g (D.doWrite k s) D := by
  have h0 := h
  obtain ⟨F, G, rl, rfl, e2, t, r, hl⟩ := h
  cases hh : hasB D.n k (s.size : Int) with
  | false =>
    refine (write_two_arg t k s hs hh).mono ?_
    rintro e w' ⟨rfl, rfl⟩
    exact ⟨by simp [wErr, hh], by simp only [Dsk.doWrite, hh]; exact h0⟩
  | true =>
    cases hb : D.broken with
    | true =>
      refine (write_two_io t hb k s hs hh).mono ?_
      rintro e w' ⟨rfl, rfl⟩
      exact ⟨by simp [wErr, hh, hb], by simp only [Dsk.doWrite, hh, hb]; exact h0⟩
    | false =>
      obtain ⟨a, b, rfl, hm, hab⟩ := hasB_nat hh
      have hm' : s.size = b := by omega
      refine (write_two t hb a s (by omega) hp).mono ?_
      rintro e w' ⟨rfl, ht⟩
      exact ⟨by simp [wErr, hh, hb], by simp only [Dsk.doWrite, hh, hb, Int.toNat_natCast]; exact Play.ofTwo e2 r hl rfl ht⟩

theorem play_rwrite {D' : Dsk} (h : Play B W w d g D' D) (k : Int) (s : ByteArray) (hs : s.size ≤ maxLen) (hp : D.pend.length < 1000) (hD : D' = D.doWrite k s) :
    Calls Try.prog 22 #[.pointer (some ⟨g, 0, none⟩), .int .i64 k, .string s] w fun e w' => e = .returned (.int .i64 (wErr D k s)) ∧ Play B W w' d g D' D' := by
  have h0 := h
  obtain ⟨F, G, rl, e1, rfl, t, r, hl⟩ := h
  cases hh : hasB D.n k (s.size : Int) with
  | false =>
    have hd : D' = D := by rw [hD]; simp [Dsk.doWrite, hh]
    refine (rwrite_arg r k s hs hh).mono ?_
    rintro e w' ⟨rfl, rfl⟩
    exact ⟨by simp [wErr, hh], by rw [hd] at h0 ⊢; exact h0⟩
  | true =>
    cases hb : D.broken with
    | true =>
      have hd : D' = D := by rw [hD]; simp [Dsk.doWrite, hh, hb]
      rw [hb] at r
      refine (rwrite_io r k s hs hh).mono ?_
      rintro e w' ⟨rfl, hn⟩
      exact ⟨by simp [wErr, hh, hb], by rw [hd] at t ⊢; exact Play.ofNext e1 t rfl (D1 := D) hl (by rw [hb]; exact hn)⟩
    | false =>
      obtain ⟨a, b, rfl, hm, hab⟩ := hasB_nat hh
      have hm' : s.size = b := by omega
      have hd : D' = D.write a s := by rw [hD]; simp [Dsk.doWrite, hh, hb]
      have hrl := hl hb
      rw [hb] at r
      refine (rwrite_any r a s (by omega) hp).mono ?_
      rintro e w' ⟨rfl, hn⟩
      have hsb : stepB rl false = stepB D.left false := by
        rw [hrl]
        simp only [stepB, Bool.false_or]
        congr 1
        apply propext
        omega
      rw [hsb] at hn ⊢
      refine ⟨by simp [wErr, hh, hb], ?_⟩
      rw [hd] at t ⊢
      refine Play.ofNext e1 t rfl (D1 := D.write a s) (fun hf => ?_) hn
      show rstepL rl false = max (stepL D.left) 0
      rw [hrl]
      simp only [rstepL, stepL]
      split <;> split <;> simp_all <;> omega

theorem play_sync (h : Play B W w d g D D) :
    Calls Try.prog 15 #[.pointer (some ⟨d, 0, none⟩)] w fun e w' => e = .returned (.int .i64 (sErr D)) ∧ Play B W w' d g D.doSync D := by
  obtain ⟨F, G, rl, rfl, e2, t, r, hl⟩ := h
  cases hb : stepB D.left D.broken with
  | true =>
    refine (sync_two_io t hb).mono ?_
    rintro e w' ⟨rfl, ht⟩
    exact ⟨by simp [sErr, hb, errOf], by simp only [Dsk.doSync, hb]; exact Play.ofTwo e2 r hl rfl ht⟩
  | false =>
    refine (sync_two t hb).mono ?_
    rintro e w' ⟨rfl, ht⟩
    exact ⟨by simp [sErr, hb, errOf], by simp only [Dsk.doSync, hb]; exact Play.ofTwo e2 r hl rfl ht⟩
theorem play_rsync {D' : Dsk} (h : Play B W w d g D' D) (hD : D' = D.doSync) :
    Calls Try.prog 16 #[.pointer (some ⟨g, 0, none⟩)] w fun e w' => e = .returned (.int .i64 (sErr D)) ∧ Play B W w' d g D' D' := by
  obtain ⟨F, G, rl, e1, rfl, t, r, hl⟩ := h
  have hsb : stepB rl D.broken = stepB D.left D.broken := by
    cases hb : D.broken with
    | true => rfl
    | false =>
      rw [hl hb]
      simp only [stepB, Bool.false_or]
      congr 1
      apply propext
      omega
  cases hb : stepB D.left D.broken with
  | true =>
    have hd : D' = D.fail := by rw [hD]; simp [Dsk.doSync, hb]
    refine (rsync_io r (hsb.trans hb)).mono ?_
    rintro e w' ⟨rfl, hn⟩
    refine ⟨by simp [sErr, hb, errOf], ?_⟩
    rw [hd] at t ⊢
    exact Play.ofNext e1 t rfl (D1 := D.fail) (fun hf => by cases hf) hn
  | false =>
    have hd : D' = D.sync := by rw [hD]; simp [Dsk.doSync, hb]
    have hb2 : D.broken = false := by
      cases h2 : D.broken with
      | false => rfl
      | true => rw [h2] at hb; simp [stepB] at hb
    refine (rsync_any r (hsb.trans hb)).mono ?_
    rintro e w' ⟨rfl, hn⟩
    refine ⟨by simp [sErr, hb, errOf], ?_⟩
    rw [hd] at t ⊢
    refine Play.ofNext e1 t rfl (D1 := D.sync) (fun _ => ?_) hn
    show rstepL rl D.broken = max (stepL D.left) 0
    rw [hl hb2, hb2]
    simp only [rstepL, stepL]
    split <;> split <;> simp_all <;> omega

theorem play_crash (h : Play B W w d g D D) (keep : Int) (h1 : -9223372036854775808 ≤ keep) (h2 : keep ≤ 9223372036854775807) :
    Calls Try.prog 17 #[.pointer (some ⟨d, 0, none⟩), .int .i64 keep] w fun e w' => e = .returned (.int .i64 (Dk.lost D.pend keep)) ∧ Play B W w' d g (D.crash keep) D := by
  obtain ⟨F, G, rl, rfl, e2, t, r, hl⟩ := h
  refine (crash_two t keep h1 h2).mono ?_
  rintro e w' ⟨rfl, ht⟩
  exact ⟨rfl, Play.ofTwo e2 r hl rfl ht⟩
theorem play_rcrash (keep : Int) (h : Play B W w d g (D.crash keep) D) (h1 : -9223372036854775808 ≤ keep) (h2 : keep ≤ 9223372036854775807) :
    Calls Try.prog 18 #[.pointer (some ⟨g, 0, none⟩), .int .i64 keep] w fun e w' => e = .returned (.int .i64 (Dk.lost D.pend keep)) ∧ Play B W w' d g (D.crash keep) (D.crash keep) := by
  obtain ⟨F, G, rl, e1, rfl, t, r, hl⟩ := h
  refine (rcrash_any r keep h1 h2).mono ?_
  rintro e w' ⟨rfl, hn⟩
  exact ⟨rfl, Play.ofNext e1 t rfl (D1 := D.crash keep) (fun _ => rfl) hn⟩
theorem play_break (h : Play B W w d g D D) (k : Int) (h1 : -9223372036854775808 ≤ k) (h2 : k ≤ 9223372036854775807) :
    Calls Try.prog 19 #[.pointer (some ⟨d, 0, none⟩), .int .i64 k] w fun e w' => e = .returned (.tuple #[]) ∧ Play B W w' d g (D.brk k) D := by
  obtain ⟨F, G, rl, rfl, e2, t, r, hl⟩ := h
  refine (break_two t k h1 h2).mono ?_
  rintro e w' ⟨rfl, ht⟩
  exact ⟨rfl, Play.ofTwo e2 r hl rfl ht⟩
theorem play_rbreak (k : Int) (h : Play B W w d g (D.brk k) D) (h2 : k ≤ 9223372036854775807) :
    Calls Try.prog 20 #[.pointer (some ⟨g, 0, none⟩), .int .i64 k] w fun e w' => e = .returned (.tuple #[]) ∧ Play B W w' d g (D.brk k) (D.brk k) := by
  obtain ⟨F, G, rl, e1, rfl, t, r, hl⟩ := h
  refine (rbreak_any r k h2).mono ?_
  rintro e w' ⟨rfl, hr, hk⟩
  refine ⟨rfl, Play.ofNext e1 t rfl (D1 := D.brk k) (fun hf => ?_) ⟨G, rfl, hr, hk.mono (fun x hx => .inl (.inl hx)), fun x hx => .inl hx⟩⟩
  have hf' : D.broken = false := hf
  show brkL k rl D.broken = max k 0
  rw [hf']
  simp only [brkL]
  split <;> simp_all <;> omega
theorem play_read (h : Play B W w d g D D) (k m : Int) (hm : m ≤ 9223372036854775807) (hm' : -9223372036854775808 ≤ m) :
    Calls Try.prog 13 #[.pointer (some ⟨d, 0, none⟩), .int .i64 k, .int .i64 m] w fun e w' => e = .returned (.tuple #[.string (rText D k m), .int .i64 (rErr D k m)]) ∧ w = w' := by
  obtain ⟨F, G, rl, rfl, e2, t, r, hl⟩ := h
  have hd := t.disk
  unfold DiskAt at hd
  cases hh : hasB D.n k m with
  | false =>
    refine (read_arg hd k m hm hm' hh).mono ?_
    rintro e w' ⟨rfl, rfl⟩
    exact ⟨by simp [rText, rErr, hh], rfl⟩
  | true =>
    cases hb : D.broken with
    | true =>
      rw [hb] at hd
      refine (read_io hd k m hm hm' hh).mono ?_
      rintro e w' ⟨rfl, rfl⟩
      exact ⟨by simp [rText, rErr, hh, hb], rfl⟩
    | false =>
      obtain ⟨a, b, rfl, rfl, hab⟩ := hasB_nat hh
      rw [hb] at hd
      refine (read_ok hd a b hab).mono ?_
      rintro e w' ⟨rfl, rfl⟩
      exact ⟨by simp [rText, rErr, hh, hb], rfl⟩
theorem play_rread (h : Play B W w d g D D) (k m : Int) (hm : m ≤ 9223372036854775807) (hm' : -9223372036854775808 ≤ m) :
    Calls Try.prog 14 #[.pointer (some ⟨g, 0, none⟩), .int .i64 k, .int .i64 m] w fun e w' => e = .returned (.tuple #[.string (rText D k m), .int .i64 (rErr D k m)]) ∧ Play B W w' d g D D := by
  have h0 := h
  obtain ⟨F, G, rl, e1, rfl, t, r, hl⟩ := h
  cases hh : hasB D.n k m with
  | false =>
    refine (rread_arg r k m hm hm' hh).mono ?_
    rintro e w' ⟨rfl, rfl⟩
    exact ⟨by simp [rText, rErr, hh], h0⟩
  | true =>
    cases hb : D.broken with
    | true =>
      rw [hb] at r
      refine (rread_io r k m hm hm' hh).mono ?_
      rintro e w' ⟨rfl, rfl⟩
      exact ⟨by simp [rText, rErr, hh, hb], h0⟩
    | false =>
      obtain ⟨a, b, rfl, rfl, hab⟩ := hasB_nat hh
      rw [hb] at r
      refine (rread_any r a b hab).mono ?_
      rintro e w' ⟨rfl, hbel⟩
      exact ⟨by simp [rText, rErr, hh, hb, Dsk.lat], h0.after hbel⟩
theorem play_pending (h : Play B W w d g D D) :
    Calls Try.prog 23 #[.pointer (some ⟨d, 0, none⟩)] w fun e w' => e = .returned (.int .i64 (Dk.bytes D.pend : Int)) ∧ Play B W w' d g D D := by
  have h0 := h
  obtain ⟨F, G, rl, rfl, e2, t, r, hl⟩ := h
  refine (pending_two t).mono ?_
  rintro e w' ⟨rfl, hb⟩
  exact ⟨rfl, h0.after hb⟩
theorem play_rpending (h : Play B W w d g D D) :
    Calls Try.prog 24 #[.pointer (some ⟨g, 0, none⟩)] w fun e w' => e = .returned (.int .i64 (Dk.bytes D.pend : Int)) ∧ w = w' := by
  obtain ⟨F, G, rl, e1, rfl, t, r, hl⟩ := h
  exact rpending_any r
theorem play_broken (h : Play B W w d g D D) :
    Calls Try.prog 25 #[.pointer (some ⟨d, 0, none⟩)] w fun e w' => e = .returned (.bool D.broken) ∧ w = w' := by
  obtain ⟨F, G, rl, rfl, e2, t, r, hl⟩ := h
  exact broken_two t
theorem play_size (h : Play B W w d g D D) :
    Calls Try.prog 26 #[.pointer (some ⟨d, 0, none⟩)] w fun e w' => e = .returned (.int .i64 (D.n : Int)) ∧ w = w' := by
  obtain ⟨F, G, rl, rfl, e2, t, r, hl⟩ := h
  exact size_two t
theorem Dsk.doWrite_n (D : Dsk) (k : Int) (s : ByteArray) : (D.doWrite k s).n = D.n ∧ (D.doWrite k s).pend.length ≤ D.pend.length + 1 := by
  unfold Dsk.doWrite
  split
  · split
    · exact ⟨rfl, by omega⟩
    · exact ⟨rfl, by show (D.pend ++ [(k.toNat, s)]).length ≤ _; simp⟩
  · exact ⟨rfl, by omega⟩
theorem Dsk.doSync_n (D : Dsk) : D.doSync.n = D.n ∧ D.doSync.pend.length ≤ D.pend.length := by
  unfold Dsk.doSync
  split
  · exact ⟨rfl, Nat.le_refl _⟩
  · exact ⟨rfl, by show 0 ≤ _; omega⟩
theorem play_new {F : Foot} {G : RFoot} {n : Nat} {w1 w2 : World} (hD : DiskAt w1 F (Dsk.fresh n)) (hF : ∀ k, F.has k → w.heap.size ≤ k) (hb1 : Below w.heap.size w w1)
    (hR : Ref w2 G n (List.replicate n 0) [] 0 false) (hb2 : Below w1.heap.size w1 w2) (hG : ∀ k, G.has k → w1.heap.size ≤ k) : Play w.heap.size w w2 F.d G.d (Dsk.fresh n) (Dsk.fresh n) := by
  have t0 : Two w.heap.size w w1 F (Dsk.fresh n) (fun _ => False) := ⟨hD, hb1.size, hb1, hF, fun _ h => h.elim, fun _ _ h => h⟩
  refine ⟨F, G, 0, rfl, rfl, t0.other (Kept.of_below hb2) (fun k hk => ⟨.inr (hG k hk), RFoot.has_lt hR k hk⟩), hR, fun _ => rfl⟩
end
end Go.Proofs.Ytlifaegmidgcnaa
