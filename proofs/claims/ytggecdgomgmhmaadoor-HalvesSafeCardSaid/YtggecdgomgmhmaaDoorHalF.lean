/-
  Contracts of package halves: perform over any row of steps; half's kin put, erase and begin. Condition: the disk lies in memory as New lays it and is not broken; fewer than 1000 writes are pending.
-/
import Derived.Test.YtggecdgomgmhmaaDoorHalE
namespace Go.Proofs.YtggecdgomgmhmaaDoor
open Go.RowKit

/-- A row of steps on the disk at d. -/
def Steps (S : Nat → Prop) (w : World) (d : Nat) (A : Option Addr) (σs : List St) : Prop :=
  ∃ fs : List Value, fs.length = σs.length ∧ Lies S w A fs ∧ ∀ (j : Nat) (f : Value) (σ : St), fs[j]? = some f → σs[j]? = some σ → StepIs S w d f σ

section
variable {w : World} {F : Foot} {D : Dsk}
theorem sync_io_any (h : DiskAt w F D) (hbr : D.broken = false) :
    Calls Tryd.prog 29 #[.pointer (some ⟨F.d, 0, none⟩)] w (IoPost w F .sync D) := by
  unfold DiskAt at h
  rw [hbr] at h
  unfold IoPost Dsk.io
  cases hb : stepB D.left false with
  | true =>
    rw [if_pos rfl]
    refine (sync_io h hb).mono ?_
    rintro e w' ⟨rfl, hn⟩
    exact ⟨rfl, hn⟩
  | false =>
    rw [if_neg (by decide)]
    refine (sync_ok h hb).mono ?_
    rintro e w' ⟨rfl, hn⟩
    exact ⟨rfl, hn⟩

def PerfRel (w : World) (F : Foot) (D : Dsk) (σs : List St) (i : Value) (wr : World) : Prop :=
  ∃ (j : Nat) (D' : Dsk) (F' : Foot), j ≤ σs.length ∧ i = .int .i64 (j : Int) ∧ F'.d = F.d ∧ DiskAt wr F' D' ∧ Kept F.has w wr ∧ (∀ x, F'.has x → F.has x ∨ w.heap.size ≤ x) ∧ D'.broken = false ∧ runD σs D = runD (σs.drop j) D' ∧ D'.n = D.n ∧ D'.pend.length ≤ D.pend.length + j

def PerfPost (w : World) (F : Foot) (σs : List St) (D : Dsk) (e : Ending) (w' : World) : Prop := e = .returned (.int .i64 (errOf (runD σs D).broken)) ∧ Nx w F (runD σs D) w'

/-- One step by its function value. -/
theorem step_fn {f : Value} {σ : St} (h : DiskAt w F D) (hbr : D.broken = false) (hs : StepIs F.has w F.d f σ) (hfit : σ.fits D.n) (hp : D.pend.length < 1000) :
    ∃ (g : FuncId) (first cap : Array Value), f = .func (.func g) first cap ∧ (∀ args W, (callFunc g args).run Tryd.prog W = .ok (.enter g args) W) ∧ Calls Tryd.prog g (first ++ #[] ++ cap) w (IoPost w F σ D) := by
  cases σ with
  | write k s =>
    obtain ⟨a, b, c, rfl, h1, h2, h3⟩ := hs
    exact ⟨_, _, _, rfl, fun args W => enters_of Tryd.func48 (by decide +kernel) rfl args W, put1_any h hbr k s hfit hp a b c h1.1 h2.1 h3.1⟩
  | wipe k m =>
    obtain ⟨hm, a, b, c, rfl, h1, h2, h3⟩ := hs
    exact ⟨_, _, _, rfl, fun args W => enters_of Tryd.func42 (by decide +kernel) rfl args W, erase1_any h hbr k m hfit hm hp a b c h1.1 h2.1 h3.1 ⟨h1.2, h2.2, h3.2⟩⟩
  | sync =>
    obtain rfl := hs
    exact ⟨_, _, _, rfl, fun args W => enters_of Tryd.func29 (by decide +kernel) rfl args W, sync_io_any h hbr⟩

theorem perform_any (h : DiskAt w F D) (hbr : D.broken = false) {A : Option Addr} {σs : List St} (c : Nat) (hS : Steps F.has w F.d A σs) (hfit : ∀ σ ∈ σs, σ.fits D.n) (hp : D.pend.length + σs.length < 1000) :
    Calls Tryd.prog 27 #[.slice A σs.length c] w (PerfPost w F σs D) := by
  obtain ⟨fs, hfl, hL, hSt⟩ := hS
  have HL := Lib.hid hL
  have HSt := Lib.hid hSt
  have HFit := Lib.hid hfit
  have HD := Lib.hid h
  clear hL hSt hfit h
  go_enter Tryd.func27, Tryd.ntmps27
  go_wp2_with fail
  go_loopw [7] (PerfRel w F D σs) (fun i _ => σs.length - (intOf i).toNat)
  case atStart => exact ⟨0, D, F, by omega, rfl, rfl, HD.out, Kept.refl _ _, fun _ hx => .inl hx, hbr, rfl, rfl, by omega⟩
  case round =>
    obtain ⟨j, D', F', hj, rfl, hFd, hD', hk, hx, hb', hrun, hn', hpl⟩ := hrel
    by_cases hlt : j < σs.length
    · obtain ⟨f, hf⟩ : ∃ f, fs[j]? = some f := ⟨fs[j]'(by omega), by simp [hfl, hlt]⟩
      have hσ : σs[j]? = some σs[j] := by simp [hlt]
      obtain ⟨a, hA, _, _, hc⟩ := HL.out.kept hk j f hf
      have hsi := (HSt.out j f _ hf hσ).go hk hx
      rw [← hFd] at hsi
      have hdrop : σs.drop j = σs[j] :: σs.drop (j + 1) := (List.drop_eq_getElem_cons hlt)
      obtain ⟨g, first, cap, rfl, hent, hcall⟩ := step_fn hD' hb' hsi (by rw [hn']; exact HFit.out _ (List.getElem_mem hlt)) (by omega)
      have HC := Lib.hid hcall
      have HRun := Lib.hid hrun
      have HK := Lib.hid hk
      have HX := Lib.hid hx
      have hbk : (D'.io σs[j]).broken = stepB D'.left false := io_broken _ _
      have hnk : (D'.io σs[j]).n = D.n := (io_n _ _).trans hn'
      have hpk := io_pend σs[j] D'
      subst hA
      rw [hdrop] at HRun
      generalize σs[j] = σ at *
      clear hcall hrun hk hx hsi hD' hdrop hσ
      cases hb : stepB D'.left false with
      | true =>
        have hR : runD σs D = D'.io σ := by rw [HRun.out, runD, if_pos hb]
        unfold IoPost at HC
        rw [hb] at HC
        rw [show errOf true = 18 from rfl] at HC
        go_wp2_with (refine HC.out.mono ?_; rintro e w1 ⟨rfl, hn⟩)
        go_ret
        unfold PerfPost
        rw [hR, hbk, hb]
        exact ⟨rfl, Nx.trans hFd HK.out HX.out hn⟩
      | false =>
        have hR : runD (σ :: σs.drop (j + 1)) D' = runD (σs.drop (j + 1)) (D'.io σ) := by rw [runD, if_neg (by rw [hb]; decide)]
        have HR := Lib.hid (HRun.out.trans hR)
        clear hR
        unfold IoPost at HC
        rw [hb] at HC
        rw [show errOf false = 0 from rfl] at HC
        go_wp2_with (refine HC.out.mono ?_; rintro e w1 ⟨rfl, hn⟩)
        go_roundw
        case rel =>
          obtain ⟨F2, g1, g2, g3, g4⟩ := (Nx.trans hFd HK.out HX.out hn).out
          exact ⟨j + 1, D'.io σ, F2, by omega, by go_num, g1, g2, g3, g4, by rw [hbk, hb], HR.out, hnk, by omega⟩
        case measure => simp [intOf]; omega
    · obtain rfl : j = σs.length := by omega
      go_wp2_with fail
      go_ret
      rw [List.drop_length] at hrun
      unfold PerfPost
      rw [hrun]
      show Ending.returned _ = Ending.returned (.int .i64 (errOf D'.broken)) ∧ _
      rw [hb']
      exact ⟨rfl, Nx.mk hFd hD' hk hx⟩
end
end Go.Proofs.YtggecdgomgmhmaaDoor
