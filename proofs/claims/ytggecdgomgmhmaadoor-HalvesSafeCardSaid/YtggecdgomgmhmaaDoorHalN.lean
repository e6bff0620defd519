/-
  A log on a disk of a law's own: what Append, Snap, Break, Crash, Open and Format make of it, call by call. Condition: the disk was made by New; the table of crc holds what its text says.
-/
import Derived.Test.YtggecdgomgmhmaaDoorHalM
namespace Go.Proofs.YtggecdgomgmhmaaDoor
open Go.RowKit

theorem lat_nil {D : Dsk} (h : D.pend = []) : D.lat = D.dur := by unfold Dsk.lat; rw [h]; rfl
/-- A write or a wipe, and a sync. -/
theorem run_two (D : Dsk) (_hb : D.broken = false) (hp : D.pend = []) (k : Nat) (R : ByteArray) (σ : St) (hσ : D.io σ = D.write k R) :
    (runD [σ, .sync] D).n = D.n ∧ (((runD [σ, .sync] D).broken = true ∧ (runD [σ, .sync] D).dur = D.dur ∧ (runD [σ, .sync] D).pend = [(k, R)]) ∨ ((runD [σ, .sync] D).broken = false ∧ (runD [σ, .sync] D).dur = Dk.put D.dur k R.data.toList ∧ (runD [σ, .sync] D).pend = [])) ∧
      (D.left = 0 → (runD [σ, .sync] D).broken = false ∧ (runD [σ, .sync] D).left = 0) := by
  have hl : (D.write k R).lat = Dk.put D.dur k R.data.toList := by rw [Dsk.lat_write, lat_nil hp]
  have hpd : (D.write k R).pend = [(k, R)] := by show D.pend ++ [(k, R)] = _; rw [hp]; rfl
  simp only [runD, hσ]
  cases h1 : stepB D.left false with
  | true =>
    rw [if_pos rfl]
    refine ⟨rfl, .inl ⟨h1, rfl, hpd⟩, fun h0 => ?_⟩
    rw [h0] at h1
    exact absurd h1 (by decide)
  | false =>
    rw [if_neg (by decide)]
    cases h2 : stepB (D.write k R).left false with
    | true =>
      rw [if_pos rfl]
      have e1 : Dsk.io .sync (D.write k R) = (D.write k R).fail := by simp only [Dsk.io]; rw [if_pos h2]
      rw [e1]
      refine ⟨rfl, .inl ⟨rfl, rfl, hpd⟩, fun h0 => ?_⟩
      have : (D.write k R).left = stepL D.left := rfl
      rw [this, h0] at h2
      exact absurd h2 (by decide)
    | false =>
      rw [if_neg (by decide)]
      have e1 : Dsk.io .sync (D.write k R) = (D.write k R).sync := by simp only [Dsk.io]; rw [if_neg (by rw [h2]; decide)]
      rw [e1]
      refine ⟨rfl, .inr ⟨rfl, hl, rfl⟩, fun h0 => ⟨rfl, ?_⟩⟩
      show stepL (stepL D.left) = 0
      rw [h0]
      rfl
theorem runD_append (σs τs : List St) : ∀ D : Dsk, D.broken = false → runD (σs ++ τs) D = if (runD σs D).broken then runD σs D else runD τs (runD σs D) := by
  induction σs with
  | nil => intro D hb; show runD τs D = if D.broken then D else runD τs D; rw [hb]; rfl
  | cons σ r ih =>
    intro D hb
    simp only [List.cons_append, runD]
    have hio := io_broken σ D
    by_cases h : stepB D.left false = true
    · simp only [if_pos h]
      rw [if_pos (hio.trans h)]
    · simp only [if_neg h]
      exact ih _ (by rw [hio]; simpa using h)
theorem runD_pair (σ τ σ' τ' : St) (D : Dsk) (hb : D.broken = false) : runD [σ, τ, σ', τ'] D = if (runD [σ, τ] D).broken then runD [σ, τ] D else runD [σ', τ'] (runD [σ, τ] D) := runD_append [σ, τ] [σ', τ'] D hb
/-- The steps that begin a half. -/
theorem run_beg (D : Dsk) (hb : D.broken = false) (hp : D.pend = []) (ot hf : Nat) (R : ByteArray) :
    (runD (beg ot hf R) D).n = D.n ∧ (((runD (beg ot hf R) D).broken = true ∧ (runD (beg ot hf R) D).dur = D.dur ∧ (runD (beg ot hf R) D).pend = [(ot, ba (zb hf))]) ∨
      ((runD (beg ot hf R) D).broken = true ∧ (runD (beg ot hf R) D).dur = Dk.put D.dur ot (zb hf) ∧ (runD (beg ot hf R) D).pend = [(ot, R)]) ∨
      ((runD (beg ot hf R) D).broken = false ∧ (runD (beg ot hf R) D).dur = Dk.put (Dk.put D.dur ot (zb hf)) ot R.data.toList ∧ (runD (beg ot hf R) D).pend = [])) ∧
      (D.left = 0 → (runD (beg ot hf R) D).broken = false ∧ (runD (beg ot hf R) D).left = 0) := by
  unfold beg
  rw [runD_pair _ _ _ _ D hb]
  obtain ⟨n1, c1, z1⟩ := run_two D hb hp ot (ba (zb hf)) (.wipe ot hf) rfl
  rw [ba_list] at c1
  generalize runD [.wipe ot hf, .sync] D = D1 at n1 c1 z1 ⊢
  rcases c1 with ⟨b1, d1, p1⟩ | ⟨b1, d1, p1⟩
  · rw [b1]
    refine ⟨n1, .inl ⟨b1, d1, p1⟩, fun h0 => ?_⟩
    have := (z1 h0).1
    rw [b1] at this
    cases this
  · rw [b1]
    obtain ⟨n2, c2, z2⟩ := run_two D1 b1 p1 ot R (.write ot R) rfl
    show (runD [.write ot R, .sync] D1).n = D.n ∧ _
    refine ⟨n2.trans n1, ?_, fun h0 => z2 (z1 h0).2⟩
    rw [← d1]
    rcases c2 with ⟨b2, d2, p2⟩ | ⟨b2, d2, p2⟩
    · exact .inr (.inl ⟨b2, d2, p2⟩)
    · exact .inr (.inr ⟨b2, d2, p2⟩)
theorem run_fmt (D : Dsk) (hb : D.broken = false) (hp : D.pend = []) (h0 : D.left = 0) (hf : Nat) (R : ByteArray) :
    (runD (fmtS hf R) D).n = D.n ∧ (runD (fmtS hf R) D).broken = false ∧ (runD (fmtS hf R) D).dur = Dk.put (Dk.put (Dk.put D.dur 0 (zb hf)) 0 R.data.toList) hf (zb hf) ∧ (runD (fmtS hf R) D).pend = [] ∧ (runD (fmtS hf R) D).left = 0 := by
  unfold fmtS
  rw [runD_append _ _ D hb]
  obtain ⟨n1, c1, z1⟩ := run_beg D hb hp 0 hf R
  obtain ⟨z2, z3⟩ := z1 h0
  rw [z2]
  rcases c1 with ⟨b1, _⟩ | ⟨b1, _⟩ | ⟨b1, d1, p1⟩
  · rw [z2] at b1; cases b1
  · rw [z2] at b1; cases b1
  · obtain ⟨n2, c2, z4⟩ := run_two (runD (beg 0 hf R) D) b1 p1 hf (ba (zb hf)) (.wipe hf hf) rfl
    obtain ⟨z5, z6⟩ := z4 z3
    rw [ba_list] at c2
    show (runD [.wipe hf hf, .sync] (runD (beg 0 hf R) D)).n = D.n ∧ _
    rcases c2 with ⟨b2, _⟩ | ⟨b2, d2, p2⟩
    · rw [z5] at b2; cases b2
    · exact ⟨n2.trans n1, z5, by rw [← d1]; exact d2, p2, z6⟩
/-- What a crash keeps. -/
theorem crash_one (dur : List UInt8) (k : Nat) (R : ByteArray) (keep : Int) : Dk.puts dur (Dk.cuts [(k, R)] keep) = Dk.put dur k (R.data.toList.take (Dk.keepN keep R)) := by
  show Dk.put dur k (R.extract 0 (Dk.keepN keep R)).data.toList = _
  rw [ext_take, ba_list]
theorem crash_nil_ (dur : List UInt8) (keep : Int) : Dk.puts dur (Dk.cuts [] keep) = dur := rfl
end Go.Proofs.YtggecdgomgmhmaaDoor
