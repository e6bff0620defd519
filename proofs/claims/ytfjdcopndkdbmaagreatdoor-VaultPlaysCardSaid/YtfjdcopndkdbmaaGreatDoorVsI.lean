/-
  Contract of vault.Present, with a meter or none. Condition: the tables hold what their text says; rows of at most 900000 secrets, a plain text of 50000 bytes at most.
-/
import Derived.Test.YtfjdcopndkdbmaaGreatDoorVsH
import Derived.Test.YtfjdcopndkdbmaaGreatDoorVrG
import Derived.Test.YtfjdcopndkdbmaaGreatDoorVrD
import Derived.Test.YtfjdcopndkdbmaaGreatDoorEqa
import Derived.Test.YtfjdcopndkdbmaaGreatDoorMinQ
namespace Go.Proofs.YtfjdcopndkdbmaaGreatDoor
open Go.RowKit

/-- What stays where only variables of type Secret turn. -/
def Rsec (w w' : World) : Prop := w.heap.size ≤ w'.heap.size ∧ ∀ (k : Nat) (cs : Array Value) (t : TypeId) (fr : Nat × Nat), w.heap[k]? = some (Obj.cells cs t fr) → t ≠ 26 → w'.heap[k]? = some (Obj.cells cs t fr)
theorem Rsec.refl (w : World) : Rsec w w := ⟨Nat.le_refl _, fun _ _ _ _ h _ => h⟩
theorem Rsec.below {w w' : World} (h : Below w.heap.size w w') : Rsec w w' := ⟨h.size, fun k cs t fr hk _ => (h.block k (by
  rcases Nat.lt_or_ge k w.heap.size with h1 | h1
  · exact h1
  · rw [Array.getElem?_eq_none h1] at hk; cases hk)).trans hk⟩
theorem Rsec.row {w : World} {g : Nat} {cs cs' : Array Value} (h : Blk w g 26 cs) : Rsec w (w.setRow g cs') := ⟨by simp, fun k ds t fr hk ht => by
  by_cases e : k = g
  · subst e
    have h2 := h.symm.trans hk
    injection h2 with h2
    injection h2 with _ h2
    exact absurd h2.symm ht
  · exact (setRow_other w g k cs' e).trans hk⟩
theorem Rsec.trans {a b c : World} (h : Rsec a b) (k : Rsec b c) : Rsec a c := ⟨Nat.le_trans h.1 k.1, fun x cs t fr hx ht => k.2 x cs t fr (h.2 x cs t fr hx ht) ht⟩
theorem Rsec.kept {w w' : World} {g : Nat} {cs : Array Value} (h : Kept (fun u => u = g) w w') (hg : Blk w g 26 cs) : Rsec w w' := ⟨h.size, fun k ds t fr hk ht => by
  by_cases e : k = g
  · subst e
    have h2 := hg.symm.trans hk
    injection h2 with h2
    injection h2 with _ h2
    exact absurd h2.symm ht
  · exact (h.block k (by
      rcases Nat.lt_or_ge k w.heap.size with h1 | h1
      · exact h1
      · rw [Array.getElem?_eq_none h1] at hk; cases hk) e).trans hk⟩
theorem set_parts (l : List Va.Sec) (i : Nat) (s : Va.Sec) (hi : i < l.length) : l.take i ++ [s] ++ l.drop (i + 1) = l.set i s := by rw [List.set_eq_take_append_cons_drop, if_pos hi]; simp
theorem stays_none : Stays (fun _ => False) (fun _ _ => True) := ⟨fun _ _ _ _ _ => trivial, fun _ _ _ _ h => h.elim⟩
theorem made_zero (W : World) : (Instr.alloc 26 true (.tuple #[])).run Tryz.prog W = .ok (.pointer (some ⟨W.heap.size, 0, none⟩)) (W.alloc (.cells zeroV 26)) := by
  unfold zeroV secV
  go_simp
theorem kept_six {T : Nat → Prop} {w0 W : World} {g : Nat} (h : Kept T w0 W) (hg : T g) (u v x y z q : Value) :
    Kept T w0 ((((((W.setCell ⟨g, 0, none⟩ u).setCell ⟨g, 1, none⟩ v).setCell ⟨g, 2, none⟩ x).setCell ⟨g, 3, none⟩ y).setCell ⟨g, 4, none⟩ z).setCell ⟨g, 5, none⟩ q) :=
  ((((((h.setCell (p := ⟨g, 0, none⟩) (.inl hg) _).setCell (p := ⟨g, 1, none⟩) (.inl hg) _).setCell (p := ⟨g, 2, none⟩) (.inl hg) _).setCell (p := ⟨g, 3, none⟩) (.inl hg) _).setCell (p := ⟨g, 4, none⟩) (.inl hg) _).setCell (p := ⟨g, 5, none⟩) (.inl hg) _)
theorem row_six {Bn b9 : Nat} {R : List Va.Sec} {r : Value} {W : World} (h : Row (fun u => u < Bn ∨ u = b9) R r W) (u v x y z q : Value) :
    Row (fun u => u < Bn) R r ((((((W.setCell ⟨b9, 0, none⟩ u).setCell ⟨b9, 1, none⟩ v).setCell ⟨b9, 2, none⟩ x).setCell ⟨b9, 3, none⟩ y).setCell ⟨b9, 4, none⟩ z).setCell ⟨b9, 5, none⟩ q) :=
  (h.kept (kept_six (T := fun u => u < Bn ∨ u = b9) (Kept.refl _ W) (.inr rfl) u v x y z q)).weaker (fun _ h => .inl h)
theorem eraseIdx_parts (l : List Va.Sec) (i : Nat) : l.take i ++ [] ++ l.drop (i + 1) = l.eraseIdx i := by rw [List.append_nil, List.eraseIdx_eq_take_drop_succ]
/-- What each operation of the drawn statement leaves. -/
def Vq5 (ad : Addr) (q : Addr) (n : Nat) (ii : Nat) (cp : Nat) (s : Va.Sec) : Nat → Value → World → Prop
  | 0, v, _ => v = .slice (some ad) n cp
  | 1, v, _ => v = .int .i64 (ii : Int)
  | 2, v, _ => v = .pointer (some q)
  | 3, v, _ => v = .agg #[.string s.digest, .int .i64 s.account, .int .i64 s.purpose, .string s.channel, .int .i64 s.expires, .int .i64 s.tries]
  | 4, v, _ => v = .slice (some ad) n cp
  | 5, v, _ => v = .int .i64 (ii : Int)
  | 6, v, W => ∃ g h, v = .func (.func 64) #[] #[.pointer (some ⟨g, 0, none⟩), .pointer (some ⟨h, 0, none⟩)] ∧ Blk W g 22 #[.slice (some ad) n cp] ∧ Blk W h 3 #[.int .i64 (ii : Int)]
  | 7, v, _ => True ∨ v = v
  | 8, v, _ => v = undef
  | 9, v, W => ∃ g h, v = .func (.func 64) #[] #[.pointer (some ⟨g, 0, none⟩), .pointer (some ⟨h, 0, none⟩)] ∧ Blk W g 22 #[.slice (some ad) n cp] ∧ Blk W h 3 #[.int .i64 (ii : Int)]
  | _, _, _ => True
theorem Vq5.on (ad : Addr) (q : Addr) (n : Nat) (ii : Nat) (cp : Nat) (s : Va.Sec) : ∀ (i : Nat) (v : Value) (w w' : World), Vq5 ad q n ii cp s i v w → Rsec w w' → Vq5 ad q n ii cp s i v w' := by
  intro i v w w' hv hb
  revert hv
  unfold Vq5
  split <;> first
    | exact fun h => h
    | exact fun ⟨g, h1, h2⟩ => ⟨g, h1, h2.of (hb.block g h2.lt)⟩
    | exact fun ⟨g, h, h1, h2, h3⟩ => ⟨g, h, h1, hb.2 _ _ _ _ h2 (by decide), hb.2 _ _ _ _ h3 (by decide)⟩
/-- What each operation of the drawn statement leaves. -/
def Vq9 (b9 : Nat) (Bn : Nat) (g1 : Nat) (g2 : Nat) (s : Va.Sec) (R : List Va.Sec) : Nat → Value → World → Prop
  | 0, v, _ => v = .func (.func 64) #[] #[.pointer (some ⟨g1, 0, none⟩), .pointer (some ⟨g2, 0, none⟩)]
  | 1, v, W => Row (fun u => u < Bn ∨ u = b9) R v W 
  | 2, v, _ => v = .agg #[.string s.digest, .int .i64 s.account, .int .i64 s.purpose, .string s.channel, .int .i64 s.expires, .int .i64 s.tries]
  | 3, v, W => Row (fun u => u < Bn ∨ u = b9) R v W 
  | 4, v, _ => v = undef
  | 5, v, _ => v = .int .i64 0
  | _, _, _ => True
theorem Vq9.on (b9 : Nat) (Bn : Nat) (g1 : Nat) (g2 : Nat) (s : Va.Sec) (R : List Va.Sec) : ∀ (i : Nat) (v : Value) (w w' : World), Vq9 b9 Bn g1 g2 s R i v w → Kept (fun u => u = b9) w w' → Vq9 b9 Bn g1 g2 s R i v w' := by
  intro i v w w' hv hb
  revert hv
  unfold Vq9
  split <;> first
    | exact fun h => h
    | exact fun ⟨g, h1, h2⟩ => ⟨g, h1, h2.of (hb.block g h2.lt)⟩
    | exact fun h => Row.kept h (hb.mono (fun x hx => .inl (.inr hx)))
set_option maxRecDepth 100000 in
set_option maxHeartbeats 16000000 in
theorem present_any {mp : Option Addr} {S : Nat → Prop} {st : World → Nat → Prop} (M : Mt mp S st) (k : Nat) (hk : k ≤ 1000000) (A : Option Addr) (cp : Nat) (l : List Va.Sec) (hl : l.length ≤ 900000) (hcp : l.length ≤ cp) (a p : Int) (c : ByteArray) (d : List UInt8) (hd : d.length ≤ 50000) (now : Int) (ht : ∀ s ∈ l, s.tries ≤ 9223372036854775807) (hdg : ∀ s ∈ l, s.digest.size ≤ 100000) (w : World) (hst : st w k) (hT : Tab w) (hA : Lies S w A (secs l)) :
    Calls Tryz.prog 16 #[.pointer mp, .slice A l.length cp, .agg #[.int .i64 a, .int .i64 p, .string c, .string (ba d)], .int .i64 now] w fun e w' => (∃ v, e = .returned (.tuple #[v, .agg (secOf (Va.present (ba (digL p d)) l (a, p, c) now).2.1), .int .i64 ((Va.present (ba (digL p d)) l (a, p, c) now).2.2 : Nat)]) ∧ Row (fun b => b < w.heap.size) (Va.present (ba (digL p d)) l (a, p, c) now).1 v w') ∧ st w' (k + 1) ∧ Kept S w w' := by
  have hb0 : Below w.heap.size w ((w.alloc (.cells #[.int .i64 a, .int .i64 p, .string c, .string (ba d)] 37)).alloc (.cells zeroV 26)) := ((Below.refl _ w).alloc (Nat.le_refl _) _).alloc (by simp) _
  have hx0 : Blk ((w.alloc (.cells #[.int .i64 a, .int .i64 p, .string c, .string (ba d)] 37)).alloc (.cells zeroV 26)) w.heap.size 37 #[.int .i64 a, .int .i64 p, .string c, .string (ba d)] := (Blk.new w _ _).alloc _
  have hz0 : Blk ((w.alloc (.cells #[.int .i64 a, .int .i64 p, .string c, .string (ba d)] 37)).alloc (.cells zeroV 26)) (w.heap.size + 1) 26 zeroV := blk_new_s (by simp)
  have hD := digest_any M p d hd k hk _ (M.below hst hb0) (hT.next hb0)
  have hlow := M.low w k hst
  have hA9 : Lies (fun u => S u ∨ u = w.heap.size + 1) w A (secs l) := hA.mono (fun q hq h => h.elim id (fun e => by omega))
  unfold zeroV secV at hb0 hx0 hz0 hD
  generalize ba (digL p d) = D at hD ⊢
  generalize ba d = PL at hD hx0 hz0 hb0 ⊢
  have HD := Lib.hid hD
  have HB0 := Lib.hid hb0
  have HX0 := Lib.hid hx0
  have HZ0 := Lib.hid hz0
  have HA9 := Lib.hid hA9
  have HLOW := Lib.hid hlow
  clear hb0 hx0 hz0 hD hA9 hlow
  cases hpl : Rw.place Va.Sec.key l (a, p, c) with
  | none =>
    rw [present_no hpl]
    have hat : atI l (a, p, c) = -1 := by unfold atI; rw [hpl]
    have HP : Hid (∀ W, Lies (fun u => S u ∨ u = w.heap.size + 1) W A (secs l) → _) := Lib.hid (fun W h => place_any A cp l (by omega) a p c W h)
    rw [hat] at HP
    unfold secOf zeroV secV
    clear hA hat hpl hT hst hd ht hdg
    have HLE := Lib.hid (Nat.le_succ w.heap.size)
    go_enter Tryz.func16, Tryz.ntmps16
    go_wp2_with fail
    refine HD.out.mono ?_
    rintro e w1 ⟨rfl, hst1, hk1⟩
    have HX1 := Lib.hid (HX0.out.of (hk1.block _ HX0.out.lt (fun h => Nat.lt_irrefl _ (HLOW.out _ h))))
    have HZ1 := Lib.hid (HZ0.out.of (hk1.block _ HZ0.out.lt (fun h => by have := HLOW.out _ h; omega)))
    have HKS := Lib.hid ((Kept.of_below (S := S) HB0.out).trans hk1 (fun _ h => .inl h))
    have HST := Lib.hid hst1
    have HA1 := Lib.hid (HA9.out.kept (HKS.out.mono (T := fun u => S u ∨ u = w.heap.size + 1) (fun _ h => .inl (.inl h))))
    have HNS : Hid (¬ S (w.heap.size + 1)) := Lib.hid (fun h => by have := HLOW.out _ h; omega)
    clear hst1 hk1 HD HX0 HZ0 HB0
    have hp1 := HP.out w1 HA1.out
    have HP1 := Lib.hid hp1
    clear hp1 HP
    obtain ⟨b9, hb9⟩ : ∃ b, w.heap.size + 1 = b := ⟨_, rfl⟩
    rw [hb9] at HZ1 HA1 HNS
    simp only [hb9]
    have HLI : Hid (∀ W, Kept (fun u => u = b9) w1 W → Lies (fun u => u = b9) W A (secs l)) := Lib.hid (fun W h => (HA1.out.mono (fun _ _ h => .inr h)).kept h)
    have HFIN : Hid (∀ W, Kept (fun u => u = b9) w1 W → st W (k + 1) ∧ Kept S w W) := Lib.hid (fun W h => ⟨M.stay w1 W (k + 1) HST.out (fun b hS => h.block b (M.low w1 _ HST.out b hS) (by rintro rfl; exact HNS.out hS)), HKS.out.trans h (fun x hx => .inr (by rw [hx, ← hb9]; exact HLE.out))⟩)
    have x0 : w1.cell? ⟨w.heap.size, 0, none⟩ = some (.int .i64 a) := (HX1.out.cell 0).trans rfl
    have x1 : w1.cell? ⟨w.heap.size, 1, none⟩ = some (.int .i64 p) := (HX1.out.cell 1).trans rfl
    have x2 : w1.cell? ⟨w.heap.size, 2, none⟩ = some (.string c) := (HX1.out.cell 2).trans rfl
    have x3 : w1.cell? ⟨w.heap.size, 3, none⟩ = some (.string PL) := (HX1.out.cell 3).trans rfl
    have HB9 : w.heap.size < b9 := by omega
    have HB9l := HZ1.out.lt
    go_wp2_with fail
    refine HP1.out.mono ?_
    rintro e w2 ⟨rfl, hb⟩
    have HK2 := Lib.hid (Kept.of_below (S := fun u => u = b9) hb)
    have HZ2 := Lib.hid (HZ1.out.of (hb.block _ HZ1.out.lt))
    clear hb HP1
    have HCL := Lib.hid (fun W h => clone_any A cp l (by omega) hcp W (HLI.out W h))
    go_wp2_with fail
    refine (HCL.out w2 HK2.out).mono ?_
    rintro e w3 ⟨⟨A', c', rfl, ho⟩, hb⟩
    have HSZ := HK2.out.size
    have HRO := Lib.hid (show Row (fun u => u < w.heap.size ∨ u = b9) l (.slice A' l.length c') w3 from ⟨A', c', rfl, own_cap ho, lies_made ho (fun g hg h => by omega)⟩)
    have HK3 := Lib.hid (HK2.out.trans (Kept.of_below (S := fun _ => False) hb) (fun _ h => h.elim))
    have HZ3 := Lib.hid (HZ2.out.of (hb.block _ HZ2.out.lt))
    clear hb
    have f0 := HZ3.out.frozen 0
    have g0 := (HZ3.out.cell 0).trans rfl
    have f1 := HZ3.out.frozen 1
    have g1 := (HZ3.out.cell 1).trans rfl
    have f2 := HZ3.out.frozen 2
    have g2 := (HZ3.out.cell 2).trans rfl
    have f3 := HZ3.out.frozen 3
    have g3 := (HZ3.out.cell 3).trans rfl
    have f4 := HZ3.out.frozen 4
    have g4 := (HZ3.out.cell 4).trans rfl
    have f5 := HZ3.out.frozen 5
    have g5 := (HZ3.out.cell 5).trans rfl
    go_wp2_with fail
    (try simp only [Exit.inBlock, Exit.then])
    refine bodyPost_ret (results_tct (P := Tryz.prog) rfl _ _ b9 26 _ (0, 0) _ _ _ rfl rfl rfl (HZ3.out.six _ _ _ _ _ _) Tryz.underlying26 rfl sec_size) rfl ?_
    exact ⟨⟨_, rfl, row_six HRO.out _ _ _ _ _ _⟩, HFIN.out _ (kept_six HK3.out rfl _ _ _ _ _ _)⟩
  | some i =>
    obtain ⟨hi, _⟩ := Rw.place_some hpl
    have hat : atI l (a, p, c) = (i : Int) := by unfold atI; rw [hpl]
    have HP : Hid (∀ W, Lies (fun u => S u ∨ u = w.heap.size + 1) W A (secs l) → _) := Lib.hid (fun W h => place_any A cp l (by omega) a p c W h)
    rw [hat] at HP
    obtain ⟨ad, hAe, _⟩ := lies_sec hA i hi
    subst hAe
    have hpr := fun s hs => present_at (D := D) (now := now) (s := s) hpl hi hs
    have htr := ht _ (List.getElem_mem hi)
    have hdr := hdg _ (List.getElem_mem hi)
    obtain ⟨s, hs⟩ : ∃ s, l[i] = s := ⟨_, rfl⟩
    rw [hs] at htr hdr
    have HHS := Lib.hid hs
    have HTR := Lib.hid htr
    have hR := hpr s hs
    generalize Va.present D l (a, p, c) now = R at hR ⊢
    have HR := Lib.hid hR
    obtain ⟨n, hn⟩ : ∃ n, l.length = n := ⟨_, rfl⟩
    have hcp0 := hcp
    have hi0 := hi
    have HCP := Lib.hid hcp0
    have HI := Lib.hid hi0
    have hin : (i : Int) < (n : Int) := by omega
    have hil : (i : Int) < (l.length : Int) := by omega
    have hi1 : ¬ ((i : Int) < 0) := by omega
    have HNL := Lib.hid hn
    clear hA hat hpl hT hst hd ht hR hpr htr hs hcp0 hi0 hdg hn
    have HLE := Lib.hid (Nat.le_succ w.heap.size)
    go_enter Tryz.func16, Tryz.ntmps16
    go_wp2_with fail
    refine HD.out.mono ?_
    rintro e w1 ⟨rfl, hst1, hk1⟩
    have HX1 := Lib.hid (HX0.out.of (hk1.block _ HX0.out.lt (fun h => Nat.lt_irrefl _ (HLOW.out _ h))))
    have HZ1 := Lib.hid (HZ0.out.of (hk1.block _ HZ0.out.lt (fun h => by have := HLOW.out _ h; omega)))
    have HKS := Lib.hid ((Kept.of_below (S := S) HB0.out).trans hk1 (fun _ h => .inl h))
    have HST := Lib.hid hst1
    have HA1 := Lib.hid (HA9.out.kept (HKS.out.mono (T := fun u => S u ∨ u = w.heap.size + 1) (fun _ h => .inl (.inl h))))
    have HNS : Hid (¬ S (w.heap.size + 1)) := Lib.hid (fun h => by have := HLOW.out _ h; omega)
    clear hst1 hk1 HD HX0 HZ0 HB0
    have hp1 := HP.out w1 HA1.out
    have HP1 := Lib.hid hp1
    clear hp1 HP
    obtain ⟨b9, hb9⟩ : ∃ b, w.heap.size + 1 = b := ⟨_, rfl⟩
    rw [hb9] at HZ1 HA1 HNS
    simp only [hb9]
    have HLI : Hid (∀ W, Kept (fun u => u = b9) w1 W → Lies (fun u => u = b9) W (some ad) (secs l)) := Lib.hid (fun W h => (HA1.out.mono (fun _ _ h => .inr h)).kept h)
    have HFIN : Hid (∀ W, Kept (fun u => u = b9) w1 W → st W (k + 1) ∧ Kept S w W) := Lib.hid (fun W h => ⟨M.stay w1 W (k + 1) HST.out (fun b hS => h.block b (M.low w1 _ HST.out b hS) (by rintro rfl; exact HNS.out hS)), HKS.out.trans h (fun x hx => .inr (by rw [hx, ← hb9]; exact HLE.out))⟩)
    have x0 : w1.cell? ⟨w.heap.size, 0, none⟩ = some (.int .i64 a) := (HX1.out.cell 0).trans rfl
    have x1 : w1.cell? ⟨w.heap.size, 1, none⟩ = some (.int .i64 p) := (HX1.out.cell 1).trans rfl
    have x2 : w1.cell? ⟨w.heap.size, 2, none⟩ = some (.string c) := (HX1.out.cell 2).trans rfl
    have x3 : w1.cell? ⟨w.heap.size, 3, none⟩ = some (.string PL) := (HX1.out.cell 3).trans rfl
    have HB9 : w.heap.size < b9 := by omega
    have HB9l := HZ1.out.lt
    go_wp2_with fail
    refine HP1.out.mono ?_
    rintro e w2 ⟨rfl, hb⟩
    have HK2 := Lib.hid (Kept.of_below (S := fun u => u = b9) hb)
    have HZ2 := Lib.hid (HZ1.out.of (hb.block _ HZ1.out.lt))
    clear hb HP1
    go_upto_region 5 with fail
    obtain ⟨ad2, hAe, hsa⟩ := lies_sec (HLI.out w2 HK2.out) i HI.out
    injection hAe with hAe
    subst hAe
    obtain ⟨q, hq⟩ : ∃ q, ad.add (i * 6) = q := ⟨_, rfl⟩
    rw [hq, HHS.out] at hsa
    have HQ := Lib.hid hq
    have HSA := Lib.hid hsa
    have HRE := Lib.hid (fun W => replacer_any (some ad) cp n i W)
    obtain ⟨ii, hii⟩ : ∃ ii, i = ii := ⟨_, rfl⟩
    rw [hii] at HRE HQ hin
    simp only [hii, HNL.out]
    have HII := Lib.hid hii
    clear hq hsa x0 x1 x2 x3 hii
    refine wp_region_some (by kernel_rfl) (Vq5 ad q n ii cp s) (Gv (fun _ => False) (fun _ _ => True) w2 0 26 zeroV #[.string s.digest, .int .i64 s.account, .int .i64 s.purpose, .string s.channel, .int .i64 s.expires, .int .i64 s.tries] 999 7 8 13) Rsec (by kernel_rfl) (by kernel_rfl) 73 rfl (by kernel_rfl) (Vq5.on _ _ _ _ _ _) (fun _ => (Rsec.refl _)) (by exact Gv.start trivial stays_none 10 _) ?_ ?_
    · intro i o ho listed x W hs hdep hun hg hk
      match i, ho with
      | 0, ho =>
        cases ho
        have q1 : x.tmps[1]?.getD undef = .slice (some ad) n cp := hk.fix 1 (by kernel_rfl)
        refine .inl ⟨wanted_plain rfl, ?_⟩
        refine wp_value (v := .slice (some ad) n cp) (w' := W) ?_ ⟨_, rfl, rfl, (Rsec.refl _), hg.quiet 0 (by decide) (by decide) (by decide) (some 35) (by decide) _⟩
        go_simp
      | 1, ho =>
        cases ho
        have q12 : x.tmps[12]?.getD undef = .int .i64 (ii : Int) := hk.fix 12 (by kernel_rfl)
        refine .inl ⟨wanted_plain rfl, ?_⟩
        refine wp_value (v := .int .i64 (ii : Int)) (w' := W) ?_ ⟨_, rfl, rfl, (Rsec.refl _), hg.quiet 1 (by decide) (by decide) (by decide) (some 36) (by decide) _⟩
        go_simp
      | 2, ho =>
        cases ho
        have q35 : x.tmps[35]?.getD undef = .slice (some ad) n cp := hk.dep 0 35 (by kernel_rfl) (by kernel_rfl)
        have q36 : x.tmps[36]?.getD undef = .int .i64 (ii : Int) := hk.dep 1 36 (by kernel_rfl) (by kernel_rfl)
        refine .inl ⟨wanted_plain rfl, ?_⟩
        have hq := HQ.out
        refine wp_value (v := .pointer (some q)) (w' := W) ?_ ⟨_, rfl, rfl, Rsec.refl W, hg.quiet 2 (by decide) (by decide) (by decide) (some 37) (by decide) _⟩
        go_simp
      | 3, ho =>
        cases ho
        have q37 : x.tmps[37]?.getD undef = .pointer (some q) := hk.dep 2 37 (by kernel_rfl) (by kernel_rfl)
        refine .inl ⟨wanted_plain rfl, ?_⟩
        have hbl : Below w2.heap.size w2 W := hg.below (by rw [Array.getD_eq_getD_getElem?, Array.getElem?_eq_none (by rw [hs]; decide)]; rfl)
        obtain ⟨c0, c1, c2, c3, c4, c5, _⟩ := HSA.out.below hbl
        refine wp_value (v := .agg #[.string s.digest, .int .i64 s.account, .int .i64 s.purpose, .string s.channel, .int .i64 s.expires, .int .i64 s.tries]) (w' := W) ?_ ⟨_, rfl, rfl, Rsec.refl W, hg.quiet 3 (by decide) (by decide) (by decide) (some 38) (by decide) _⟩
        go_simp
      | 4, ho =>
        cases ho
        have q1 : x.tmps[1]?.getD undef = .slice (some ad) n cp := hk.fix 1 (by kernel_rfl)
        refine .inl ⟨wanted_plain rfl, ?_⟩
        refine wp_value (v := .slice (some ad) n cp) (w' := W) ?_ ⟨_, rfl, rfl, (Rsec.refl _), hg.quiet 4 (by decide) (by decide) (by decide) (some 39) (by decide) _⟩
        go_simp
      | 5, ho =>
        cases ho
        have q12 : x.tmps[12]?.getD undef = .int .i64 (ii : Int) := hk.fix 12 (by kernel_rfl)
        refine .inl ⟨wanted_plain rfl, ?_⟩
        refine wp_value (v := .int .i64 (ii : Int)) (w' := W) ?_ ⟨_, rfl, rfl, (Rsec.refl _), hg.quiet 5 (by decide) (by decide) (by decide) (some 40) (by decide) _⟩
        go_simp
      | 6, ho =>
        cases ho
        have q39 : x.tmps[39]?.getD undef = .slice (some ad) n cp := hk.dep 4 39 (by kernel_rfl) (by kernel_rfl)
        have q40 : x.tmps[40]?.getD undef = .int .i64 (ii : Int) := hk.dep 5 40 (by kernel_rfl) (by kernel_rfl)
        refine .inl ⟨wanted_plain rfl, ?_⟩
        refine wp_enter (f := 39) (args := #[.slice (some ad) n cp, .int .i64 (ii : Int)]) (w' := W) (S := fun v w1 => (∃ g h, v = .func (.func 64) #[] #[.pointer (some ⟨g, 0, none⟩), .pointer (some ⟨h, 0, none⟩)] ∧ Blk w1 g 22 #[.slice (some ad) n cp] ∧ Blk w1 h 3 #[.int .i64 (ii : Int)]) ∧ Below W.heap.size W w1) ?_ ((HRE.out W).mono fun e w' h => by obtain ⟨⟨b, c, rfl, h1, h2⟩, hb⟩ := h; exact ⟨_, rfl, ⟨b, c, rfl, h1, h2⟩, hb⟩) ?_
        · go_simp
        · rintro v W' ⟨hv, hb⟩
          exact ⟨_, rfl, hv, Rsec.below hb, hg.calls stays_none hb 6 (by decide) (by decide) (by decide) (some 41) (by decide) _⟩
      | 7, ho =>
        cases ho
        refine .inl ⟨wanted_plain rfl, ?_⟩
        refine wp_value (run_alloc_op 26 rfl zeroV (made_zero W)) ⟨_, rfl, .inl trivial, (Rsec.below ((Below.refl _ W).alloc (Nat.le_refl _) _)), Gv.made stays_none hg hun (by rw [hs]; decide) (by decide) (by decide) (Nat.lt_of_lt_of_eq (by decide : 13 < 73) (hk.size.trans rfl).symm)⟩
      | 8, ho =>
        cases ho
        have q38 : x.tmps[38]?.getD undef = .agg #[.string s.digest, .int .i64 s.account, .int .i64 s.purpose, .string s.channel, .int .i64 s.expires, .int .i64 s.tries] := hk.dep 3 38 (by kernel_rfl) (by kernel_rfl)
        refine .inl ⟨wanted_plain rfl, ?_⟩
        have hla := hdep 7 (by kernel_rfl)
        obtain ⟨g, e0, hg1, hg2⟩ := hg.var hla
        have hni : ¬ (listed.getD 8 false = true) := by rw [hun]; decide
        rw [if_neg hni] at hg2
        refine wp_skip (w' := W.setRow g #[.string s.digest, .int .i64 s.account, .int .i64 s.purpose, .string s.channel, .int .i64 s.expires, .int .i64 s.tries]) ?_ ⟨undef, rfl, rfl, (Rsec.row hg2), Gv.stored stays_none (fun _ h => h.elim) hg hla (by rw [hs]; decide) (by decide) (by decide) g hg1 e0 zeroV hg2 undef⟩
        exact run_store_op 26 _ _ rfl g #[.string s.digest, .int .i64 s.account, .int .i64 s.purpose, .string s.channel, .int .i64 s.expires, .int .i64 s.tries] ((eval_slot x 13).trans e0) ((eval_slot x 38).trans q38) 26 zeroV hg2 sec_size rfl (by simp [Value.oneCell'])
      | 9, ho =>
        cases ho
        refine .inl ⟨wanted_plain rfl, ?_⟩
        obtain ⟨g, h, q41, hb1, hb2⟩ : ∃ g h, x.tmps[41]?.getD undef = .func (.func 64) #[] #[.pointer (some ⟨g, 0, none⟩), .pointer (some ⟨h, 0, none⟩)] ∧ Blk W g 22 #[.slice (some ad) n cp] ∧ Blk W h 3 #[.int .i64 (ii : Int)] := hk.dep 6 41 (by kernel_rfl) (by kernel_rfl)
        refine wp_value (v := .func (.func 64) #[] #[.pointer (some ⟨g, 0, none⟩), .pointer (some ⟨h, 0, none⟩)]) (w' := W) ?_ ⟨_, rfl, ⟨g, h, rfl, hb1, hb2⟩, Rsec.refl W, hg.quiet 9 (by decide) (by decide) (by decide) (some 14) (by decide) _⟩
        go_simp
      | _ + 10, ho => cases ho
    intro listed x w5 hall hg hk
    obtain ⟨g13, e13, hg13, hx13⟩ := hg.var (hall 7 (by decide))
    rw [if_pos (hall 8 (by decide))] at hx13
    have e35 : x.tmps[35]?.getD undef = .slice (some ad) n cp := hk.last 0 35 (by decide) (by kernel_rfl)
    have e36 : x.tmps[36]?.getD undef = .int .i64 (ii : Int) := hk.last 1 36 (by decide) (by kernel_rfl)
    have e37 : x.tmps[37]?.getD undef = .pointer (some q) := hk.last 2 37 (by decide) (by kernel_rfl)
    have e38 : x.tmps[38]?.getD undef = .agg #[.string s.digest, .int .i64 s.account, .int .i64 s.purpose, .string s.channel, .int .i64 s.expires, .int .i64 s.tries] := hk.last 3 38 (by decide) (by kernel_rfl)
    have e39 : x.tmps[39]?.getD undef = .slice (some ad) n cp := hk.last 4 39 (by decide) (by kernel_rfl)
    have e40 : x.tmps[40]?.getD undef = .int .i64 (ii : Int) := hk.last 5 40 (by decide) (by kernel_rfl)
    have hv14 : ∃ g h, x.tmps[14]?.getD undef = .func (.func 64) #[] #[.pointer (some ⟨g, 0, none⟩), .pointer (some ⟨h, 0, none⟩)] ∧ Blk w5 g 22 #[.slice (some ad) n cp] ∧ Blk w5 h 3 #[.int .i64 (ii : Int)] := hk.last 9 14 (by decide) (by kernel_rfl)
    obtain ⟨z41, hz41⟩ : ∃ z, x.tmps[41]?.getD undef = z := ⟨_, rfl⟩
    obtain ⟨z14, hz14⟩ : ∃ z, x.tmps[14]?.getD undef = z := ⟨_, rfl⟩
    rw [hz14] at hv14
    have hkp := Lib.hid hg.kept
    have hx := hk.act [35, 36, 37, 38, 39, 40, 41, 13, 14] (by kernel_rfl)
    clear hk hg hall
    simp only [List.foldl_cons, List.foldl_nil, e35, e36, e37, e38, e39, e40, e13, hz41, hz14] at hx
    clear e35 e36 e37 e38 e39 e40 e13 hz41 hz14
    subst hx
    simp only [Act.put, List.setIfInBounds_toArray, List.set_cons_succ, List.set_cons_zero]
    obtain ⟨g1, g2, rfl, hbx1, hbx2⟩ := hv14
    have HK5 := Lib.hid (HK2.out.trans hkp.out (fun _ h => h.elim))
    have HZ5 := Lib.hid (HZ2.out.of (hkp.out.block _ HZ2.out.lt (fun h => h)))
    have HG5 := Lib.hid hx13
    have HX1 := Lib.hid hbx1
    have HX2 := Lib.hid hbx2
    have HN13 := Lib.hid (show ¬ g13 = b9 from fun e => by have h1 := HZ2.out.lt; omega)
    have HKP := Lib.hid hkp.out
    have HGE := hg13
    clear hkp hx13 hbx1 hbx2 hg13
    have HR1 : Hid (∀ W (m : List Va.Sec) A3 c3, m.length ≤ 5 → Lies (fun _ => False) W A3 (secs m) → Rsec w5 W → Kept (fun u => u = b9 ∨ u = g13) w5 W → Calls Tryz.prog 64 #[.slice A3 m.length c3, .pointer (some ⟨g1, 0, none⟩), .pointer (some ⟨g2, 0, none⟩)] W fun e w' => ∃ v, e = .returned v ∧ Row (fun u => u < w.heap.size ∨ u = b9) (l.take i ++ m ++ l.drop (i + 1)) v w' ∧ Below W.heap.size W w') := Lib.hid (fun W m A3 c3 hm hL3 hrs hW => by
      have hsz := HK5.out.size
      have hsz2 := hW.size
      have hb9l := HZ1.out.lt
      have hLW : Lies (fun u => u = b9 ∨ u = g13) W (some ad) (secs l) := (((HLI.out w2 HK2.out).mono (T := fun u => u = b9 ∨ u = g13) (fun q hq h => h.elim id (fun e => by omega))).kept (HKP.out.mono (fun _ h => h.elim))).kept hW
      refine (rep1_any (some ad) cp l (by omega) HCP.out i HI.out A3 c3 m (by omega) g1 g2 W (by rw [HNL.out]; exact hrs.2 _ _ _ _ HX1.out (by decide)) (by rw [HII.out]; exact hrs.2 _ _ _ _ HX2.out (by decide)) hLW hL3).mono ?_
      rintro e w' ⟨⟨v, rfl, hv⟩, hb⟩
      exact ⟨v, rfl, hv.weaker (fun x hx => by omega), hb⟩)
    have HKF : Hid (∀ W, Kept (fun u => u = b9 ∨ u = g13) w5 W → Kept (fun u => u = b9) w1 W) := Lib.hid (fun W h => HK5.out.trans h (fun x hx => hx.elim .inl (fun e => .inr (by have := HK2.out.size; omega))))
    have HQ5 : Hid (Rsec w5 w5 ∧ Kept (fun u => u = b9 ∨ u = g13) w5 w5) := Lib.hid ⟨Rsec.refl _, Kept.refl _ _⟩
    have HE := Lib.hid (fun W => expired_any s now W)
    have x0 : w5.cell? ⟨g13, 0, none⟩ = some (.string s.digest) := (HG5.out.cell 0).trans rfl
    have x1 : w5.cell? ⟨g13, 1, none⟩ = some (.int .i64 s.account) := (HG5.out.cell 1).trans rfl
    have x2 : w5.cell? ⟨g13, 2, none⟩ = some (.int .i64 s.purpose) := (HG5.out.cell 2).trans rfl
    have x3 : w5.cell? ⟨g13, 3, none⟩ = some (.string s.channel) := (HG5.out.cell 3).trans rfl
    have x4 : w5.cell? ⟨g13, 4, none⟩ = some (.int .i64 s.expires) := (HG5.out.cell 4).trans rfl
    have x5 : w5.cell? ⟨g13, 5, none⟩ = some (.int .i64 s.tries) := (HG5.out.cell 5).trans rfl
    have hen := enter_rep
    clear HX1 HX2 HSA HRE HQ hin
    by_cases h1 : s.expires ≤ now
    · have hr := HR.out
      rw [if_pos h1] at hr
      subst hr
      rw [decide_eq_true h1] at HE
      clear h1 HR
      go_wp2_with fail
      refine (HE.out _).mono ?_
      rintro e w6 ⟨rfl, hb⟩
      have HQ6 := Lib.hid (show Rsec w5 w6 ∧ Kept (fun u => u = b9 ∨ u = g13) w5 w6 from ⟨HQ5.out.1.trans (Rsec.below hb), HQ5.out.2.trans (Kept.of_below (S := fun _ => False) hb) (fun _ h => h.elim)⟩)
      have HZ6 := Lib.hid (HZ5.out.of (hb.block _ HZ5.out.lt))
      have HG6 := Lib.hid (HG5.out.of (hb.block _ HG5.out.lt))
      clear hb
      clear x0 x1 x2 x3 x4 x5
      go_wp2_with fail
      refine (HR1.out w6 [] none 0 (by simp) (Lies.none _ _) HQ6.out.1 HQ6.out.2).mono ?_
      rintro e w7 ⟨v, rfl, hv, hb⟩
      rw [eraseIdx_parts] at hv
      have HRO := Lib.hid hv
      clear hv
      have HQ7 := Lib.hid (show Rsec w5 w7 ∧ Kept (fun u => u = b9 ∨ u = g13) w5 w7 from ⟨HQ6.out.1.trans (Rsec.below hb), HQ6.out.2.trans (Kept.of_below (S := fun _ => False) hb) (fun _ h => h.elim)⟩)
      have HZ7 := Lib.hid (HZ6.out.of (hb.block _ HZ6.out.lt))
      have HG7 := Lib.hid (HG6.out.of (hb.block _ HG6.out.lt))
      clear hb
      have f0 := HZ7.out.frozen 0
      have g0 := (HZ7.out.cell 0).trans rfl
      have f1 := HZ7.out.frozen 1
      have g1 := (HZ7.out.cell 1).trans rfl
      have f2 := HZ7.out.frozen 2
      have g2 := (HZ7.out.cell 2).trans rfl
      have f3 := HZ7.out.frozen 3
      have g3 := (HZ7.out.cell 3).trans rfl
      have f4 := HZ7.out.frozen 4
      have g4 := (HZ7.out.cell 4).trans rfl
      have f5 := HZ7.out.frozen 5
      have g5 := (HZ7.out.cell 5).trans rfl
      go_wp2_with fail
      (try simp only [Exit.inBlock, Exit.then])
      refine bodyPost_ret (results_tct (P := Tryz.prog) rfl _ _ b9 26 _ (0, 0) _ _ _ rfl rfl rfl (HZ7.out.six _ _ _ _ _ _) Tryz.underlying26 rfl sec_size) rfl ?_
      exact ⟨⟨_, rfl, row_six HRO.out _ _ _ _ _ _⟩, HFIN.out _ (kept_six (HKF.out _ HQ7.out.2) rfl _ _ _ _ _ _)⟩
    · rw [decide_eq_false h1] at HE
      have HEQ := Lib.hid (fun W => equal_any s.digest D hdr W)
      by_cases h2 : s.digest = D
      · have hr := HR.out
        rw [if_neg h1, if_pos h2] at hr
        subst hr
        rw [decide_eq_true h2] at HEQ
        clear h1 h2 HR
        go_wp2_with fail
        refine (HE.out _).mono ?_
        rintro e w6 ⟨rfl, hb⟩
        have HQ6 := Lib.hid (show Rsec w5 w6 ∧ Kept (fun u => u = b9 ∨ u = g13) w5 w6 from ⟨HQ5.out.1.trans (Rsec.below hb), HQ5.out.2.trans (Kept.of_below (S := fun _ => False) hb) (fun _ h => h.elim)⟩)
        have HZ6 := Lib.hid (HZ5.out.of (hb.block _ HZ5.out.lt))
        have HG6 := Lib.hid (HG5.out.of (hb.block _ HG5.out.lt))
        clear hb
        clear x0 x1 x2 x3 x4 x5
        have y0 : w6.cell? ⟨g13, 0, none⟩ = some (.string s.digest) := (HG6.out.cell 0).trans rfl
        have y1 : w6.cell? ⟨g13, 1, none⟩ = some (.int .i64 s.account) := (HG6.out.cell 1).trans rfl
        have y2 : w6.cell? ⟨g13, 2, none⟩ = some (.int .i64 s.purpose) := (HG6.out.cell 2).trans rfl
        have y3 : w6.cell? ⟨g13, 3, none⟩ = some (.string s.channel) := (HG6.out.cell 3).trans rfl
        have y4 : w6.cell? ⟨g13, 4, none⟩ = some (.int .i64 s.expires) := (HG6.out.cell 4).trans rfl
        have y5 : w6.cell? ⟨g13, 5, none⟩ = some (.int .i64 s.tries) := (HG6.out.cell 5).trans rfl
        go_wp2_with fail
        refine (HEQ.out _).mono ?_
        rintro e w7 ⟨rfl, hb⟩
        have HQ7 := Lib.hid (show Rsec w5 w7 ∧ Kept (fun u => u = b9 ∨ u = g13) w5 w7 from ⟨HQ6.out.1.trans (Rsec.below hb), HQ6.out.2.trans (Kept.of_below (S := fun _ => False) hb) (fun _ h => h.elim)⟩)
        have HZ7 := Lib.hid (HZ6.out.of (hb.block _ HZ6.out.lt))
        have HG7 := Lib.hid (HG6.out.of (hb.block _ HG6.out.lt))
        clear hb
        clear y0 y1 y2 y3 y4 y5
        go_upto_region 9 with fail
        obtain ⟨R, hR⟩ : ∃ R, l.eraseIdx i = R := ⟨_, rfl⟩
        obtain ⟨Bn, hBn⟩ : ∃ B, w.heap.size = B := ⟨_, rfl⟩
        have HR0 : Hid (∀ W, Kept (fun u => u = b9) w7 W → Calls Tryz.prog 64 #[.slice none 0 0, .pointer (some ⟨g1, 0, none⟩), .pointer (some ⟨g2, 0, none⟩)] W fun e w' => ∃ v, e = .returned v ∧ Row (fun u => u < Bn ∨ u = b9) R v w' ∧ Below W.heap.size W w') := Lib.hid (fun W hW => by
          have h := HR1.out W [] none 0 (by simp) (Lies.none _ _) (HQ7.out.1.trans (Rsec.kept hW HZ7.out)) (HQ7.out.2.trans hW (fun _ h => .inl (.inl h)))
          rw [eraseIdx_parts, hR, hBn] at h
          exact h)
        have HZ := HZ7
        have HG13 := HG7
        refine wp_region_some (by kernel_rfl) (Vq9 b9 Bn g1 g2 s R) (fun listed _ W => Gs w7 b9 26 zeroV #[.string s.digest, .int .i64 s.account, .int .i64 s.purpose, .string s.channel, .int .i64 s.expires, .int .i64 s.tries] 4 listed W) (Kept fun u => u = b9) (by kernel_rfl) (by kernel_rfl) 73 rfl (by kernel_rfl) (Vq9.on _ _ _ _ _ _) (fun _ => (Kept.refl _ _)) (by exact Gs.start HZ.out 6) ?_ ?_
        · intro i o ho listed x W hs hdep hun hg hk
          match i, ho with
          | 0, ho =>
            cases ho
            have q14 : x.tmps[14]?.getD undef = .func (.func 64) #[] #[.pointer (some ⟨g1, 0, none⟩), .pointer (some ⟨g2, 0, none⟩)] := hk.fix 14 (by kernel_rfl)
            refine .inl ⟨wanted_plain rfl, ?_⟩
            refine wp_value (v := .func (.func 64) #[] #[.pointer (some ⟨g1, 0, none⟩), .pointer (some ⟨g2, 0, none⟩)]) (w' := W) ?_ ⟨_, rfl, rfl, (Kept.refl _ _), hg.quiet 0 (by decide)⟩
            go_simp
          | 1, ho =>
            cases ho
            refine .inl ⟨wanted_plain rfl, ?_⟩
            have q54 : x.tmps[54]?.getD undef = .func (.func 64) #[] #[.pointer (some ⟨g1, 0, none⟩), .pointer (some ⟨g2, 0, none⟩)] := hk.dep 0 54 (by kernel_rfl) (by kernel_rfl)
            have hen := enter_rep
            refine wp_enter (f := 64) (args := #[.slice none 0 0, .pointer (some ⟨g1, 0, none⟩), .pointer (some ⟨g2, 0, none⟩)]) (w' := W) (S := fun v w1 => Row (fun u => u < Bn ∨ u = b9) R v w1 ∧ Below W.heap.size W w1) ?_ (HR0.out W hg.kept) ?_
            · go_simp
            · rintro v W' ⟨hv, hb⟩
              exact ⟨_, rfl, hv, Kept.of_below hb, hg.calls hb 1 (by decide)⟩
          | 2, ho =>
            cases ho
            have q13 : x.tmps[13]?.getD undef = .pointer (some ⟨g13, 0, none⟩) := hk.fix 13 (by kernel_rfl)
            refine .inl ⟨wanted_plain rfl, ?_⟩
            refine wp_value (run_load_op _ _ rfl _ ((eval_slot x 13).trans q13) _ _ ((HG13.out.of (hg.kept.block _ HG13.out.lt HN13.out))) _ Tryz.underlying26 rfl sec_size) ⟨_, rfl, rfl, (Kept.refl _ _), hg.quiet 2 (by decide)⟩
          | 3, ho =>
            cases ho
            refine .inl ⟨wanted_plain rfl, ?_⟩
            have hv55 : Row (fun u => u < Bn ∨ u = b9) R (x.tmps[55]?.getD undef) W := hk.dep 1 55 (by kernel_rfl) (by kernel_rfl)
            obtain ⟨z, hz⟩ : ∃ z, x.tmps[55]?.getD undef = z := ⟨_, rfl⟩
            rw [hz] at hv55
            refine wp_value (v := z) (w' := W) ?_ ⟨_, rfl, hv55, Kept.refl _ _, hg.quiet 3 (by decide)⟩
            go_simp
          | 4, ho =>
            cases ho
            have q9 : x.tmps[9]?.getD undef = .pointer (some ⟨b9, 0, none⟩) := hk.fix 9 (by kernel_rfl)
            have q56 : x.tmps[56]?.getD undef = .agg #[.string s.digest, .int .i64 s.account, .int .i64 s.purpose, .string s.channel, .int .i64 s.expires, .int .i64 s.tries] := hk.dep 2 56 (by kernel_rfl) (by kernel_rfl)
            refine .inl ⟨wanted_plain rfl, ?_⟩
            have hg2 := hg.var
            have hni : ¬ (listed.getD 4 false = true) := by rw [hun]; decide
            rw [if_neg hni] at hg2
            refine wp_skip (w' := W.setRow b9 #[.string s.digest, .int .i64 s.account, .int .i64 s.purpose, .string s.channel, .int .i64 s.expires, .int .i64 s.tries]) ?_ ⟨undef, rfl, rfl, ((Kept.refl (fun u => u = b9) W).setRow (g := b9) (.inl rfl) _), hg.stored (by rw [hs]; decide)⟩
            exact run_store_op 26 _ _ rfl b9 #[.string s.digest, .int .i64 s.account, .int .i64 s.purpose, .string s.channel, .int .i64 s.expires, .int .i64 s.tries] ((eval_slot x 9).trans q9) ((eval_slot x 56).trans q56) 26 zeroV hg2 sec_size rfl (by simp [Value.oneCell'])
          | 5, ho =>
            cases ho
            refine .inl ⟨wanted_plain rfl, ?_⟩
            refine wp_value (v := .int .i64 0) (w' := W) ?_ ⟨_, rfl, rfl, (Kept.refl _ _), hg.quiet 5 (by decide)⟩
            go_simp
          | _ + 6, ho => cases ho
        intro listed x w9 hall hg hk
        have e54 : x.tmps[54]?.getD undef = .func (.func 64) #[] #[.pointer (some ⟨g1, 0, none⟩), .pointer (some ⟨g2, 0, none⟩)] := hk.last 0 54 (by decide) (by kernel_rfl)
        have e56 : x.tmps[56]?.getD undef = .agg #[.string s.digest, .int .i64 s.account, .int .i64 s.purpose, .string s.channel, .int .i64 s.expires, .int .i64 s.tries] := hk.last 2 56 (by decide) (by kernel_rfl)
        have e10 : x.tmps[10]?.getD undef = .int .i64 0 := hk.last 5 10 (by decide) (by kernel_rfl)
        have hv8 : Row (fun u => u < Bn ∨ u = b9) R (x.tmps[8]?.getD undef) w9 := hk.last 3 8 (by decide) (by kernel_rfl)
        obtain ⟨z8, hz8⟩ : ∃ z, x.tmps[8]?.getD undef = z := ⟨_, rfl⟩
        obtain ⟨z55, hz55⟩ : ∃ z, x.tmps[55]?.getD undef = z := ⟨_, rfl⟩
        rw [hz8] at hv8
        have hkp := Lib.hid hg.kept
        have hvar := hg.var
        rw [if_pos (hall 4 (by decide))] at hvar
        have hx := hk.act [54, 55, 56, 8, 10] (by kernel_rfl)
        clear hk hg hall
        simp only [List.foldl_cons, List.foldl_nil, e54, e56, e10, hz8, hz55] at hx
        clear e54 e56 e10 hz8 hz55
        subst hx
        simp only [Act.put, List.setIfInBounds_toArray, List.set_cons_succ, List.set_cons_zero]
        have HV8 := Lib.hid hv8
        have HVA := Lib.hid hvar
        have HK9 := hkp
        clear hv8 hvar hkp
        go_wp2_with fail
        (try simp only [Exit.inBlock, Exit.then])
        refine bodyPost_ret (results_tct (P := Tryz.prog) rfl _ _ b9 26 _ (0, 0) _ _ _ rfl rfl rfl HVA.out Tryz.underlying26 rfl sec_size) rfl ?_
        exact ⟨⟨_, rfl, HV8.out.weaker (fun _ h => .inl h)⟩, HFIN.out _ (HKF.out _ (HQ7.out.2.trans HK9.out (fun _ h => .inl (.inl h))))⟩
      · rw [decide_eq_false h2] at HEQ
        by_cases h3 : s.tries ≤ 1
        · have hr := HR.out
          rw [if_neg h1, if_neg h2, if_pos h3] at hr
          subst hr
          clear h1 h2 HR
          go_wp2_with fail
          refine (HE.out _).mono ?_
          rintro e w6 ⟨rfl, hb⟩
          have HQ6 := Lib.hid (show Rsec w5 w6 ∧ Kept (fun u => u = b9 ∨ u = g13) w5 w6 from ⟨HQ5.out.1.trans (Rsec.below hb), HQ5.out.2.trans (Kept.of_below (S := fun _ => False) hb) (fun _ h => h.elim)⟩)
          have HZ6 := Lib.hid (HZ5.out.of (hb.block _ HZ5.out.lt))
          have HG6 := Lib.hid (HG5.out.of (hb.block _ HG5.out.lt))
          clear hb
          clear x0 x1 x2 x3 x4 x5
          have y0 : w6.cell? ⟨g13, 0, none⟩ = some (.string s.digest) := (HG6.out.cell 0).trans rfl
          have y1 : w6.cell? ⟨g13, 1, none⟩ = some (.int .i64 s.account) := (HG6.out.cell 1).trans rfl
          have y2 : w6.cell? ⟨g13, 2, none⟩ = some (.int .i64 s.purpose) := (HG6.out.cell 2).trans rfl
          have y3 : w6.cell? ⟨g13, 3, none⟩ = some (.string s.channel) := (HG6.out.cell 3).trans rfl
          have y4 : w6.cell? ⟨g13, 4, none⟩ = some (.int .i64 s.expires) := (HG6.out.cell 4).trans rfl
          have y5 : w6.cell? ⟨g13, 5, none⟩ = some (.int .i64 s.tries) := (HG6.out.cell 5).trans rfl
          go_wp2_with fail
          refine (HEQ.out _).mono ?_
          rintro e w7 ⟨rfl, hb⟩
          have HQ7 := Lib.hid (show Rsec w5 w7 ∧ Kept (fun u => u = b9 ∨ u = g13) w5 w7 from ⟨HQ6.out.1.trans (Rsec.below hb), HQ6.out.2.trans (Kept.of_below (S := fun _ => False) hb) (fun _ h => h.elim)⟩)
          have HZ7 := Lib.hid (HZ6.out.of (hb.block _ HZ6.out.lt))
          have HG7 := Lib.hid (HG6.out.of (hb.block _ HG6.out.lt))
          clear hb
          clear y0 y1 y2 y3 y4 y5
          have z0 : w7.cell? ⟨g13, 0, none⟩ = some (.string s.digest) := (HG7.out.cell 0).trans rfl
          have z1 : w7.cell? ⟨g13, 1, none⟩ = some (.int .i64 s.account) := (HG7.out.cell 1).trans rfl
          have z2 : w7.cell? ⟨g13, 2, none⟩ = some (.int .i64 s.purpose) := (HG7.out.cell 2).trans rfl
          have z3 : w7.cell? ⟨g13, 3, none⟩ = some (.string s.channel) := (HG7.out.cell 3).trans rfl
          have z4 : w7.cell? ⟨g13, 4, none⟩ = some (.int .i64 s.expires) := (HG7.out.cell 4).trans rfl
          have z5 : w7.cell? ⟨g13, 5, none⟩ = some (.int .i64 s.tries) := (HG7.out.cell 5).trans rfl
          go_wp2_with fail
          refine (HR1.out w7 [] none 0 (by simp) (Lies.none _ _) HQ7.out.1 HQ7.out.2).mono ?_
          rintro e w8 ⟨v, rfl, hv, hb⟩
          rw [eraseIdx_parts] at hv
          have HRO := Lib.hid hv
          clear hv
          have HQ8 := Lib.hid (show Rsec w5 w8 ∧ Kept (fun u => u = b9 ∨ u = g13) w5 w8 from ⟨HQ7.out.1.trans (Rsec.below hb), HQ7.out.2.trans (Kept.of_below (S := fun _ => False) hb) (fun _ h => h.elim)⟩)
          have HZ8 := Lib.hid (HZ7.out.of (hb.block _ HZ7.out.lt))
          have HG8 := Lib.hid (HG7.out.of (hb.block _ HG7.out.lt))
          clear hb
          have f0 := HZ8.out.frozen 0
          have g0 := (HZ8.out.cell 0).trans rfl
          have f1 := HZ8.out.frozen 1
          have g1 := (HZ8.out.cell 1).trans rfl
          have f2 := HZ8.out.frozen 2
          have g2 := (HZ8.out.cell 2).trans rfl
          have f3 := HZ8.out.frozen 3
          have g3 := (HZ8.out.cell 3).trans rfl
          have f4 := HZ8.out.frozen 4
          have g4 := (HZ8.out.cell 4).trans rfl
          have f5 := HZ8.out.frozen 5
          have g5 := (HZ8.out.cell 5).trans rfl
          go_wp2_with fail
          (try simp only [Exit.inBlock, Exit.then])
          refine bodyPost_ret (results_tct (P := Tryz.prog) rfl _ _ b9 26 _ (0, 0) _ _ _ rfl rfl rfl (HZ8.out.six _ _ _ _ _ _) Tryz.underlying26 rfl sec_size) rfl ?_
          exact ⟨⟨_, rfl, row_six HRO.out _ _ _ _ _ _⟩, HFIN.out _ (kept_six (HKF.out _ HQ8.out.2) rfl _ _ _ _ _ _)⟩
        · have hr := HR.out
          rw [if_neg h1, if_neg h2, if_neg h3] at hr
          subst hr
          have hwr : IntKind.i64.wrap (s.tries - 1) = s.tries - 1 := by rw [IntKind.wrap_i64]; have := HTR.out; omega
          clear h1 h2 HR
          go_wp2_with fail
          refine (HE.out _).mono ?_
          rintro e w6 ⟨rfl, hb⟩
          have HQ6 := Lib.hid (show Rsec w5 w6 ∧ Kept (fun u => u = b9 ∨ u = g13) w5 w6 from ⟨HQ5.out.1.trans (Rsec.below hb), HQ5.out.2.trans (Kept.of_below (S := fun _ => False) hb) (fun _ h => h.elim)⟩)
          have HZ6 := Lib.hid (HZ5.out.of (hb.block _ HZ5.out.lt))
          have HG6 := Lib.hid (HG5.out.of (hb.block _ HG5.out.lt))
          clear hb
          clear x0 x1 x2 x3 x4 x5
          have y0 : w6.cell? ⟨g13, 0, none⟩ = some (.string s.digest) := (HG6.out.cell 0).trans rfl
          have y1 : w6.cell? ⟨g13, 1, none⟩ = some (.int .i64 s.account) := (HG6.out.cell 1).trans rfl
          have y2 : w6.cell? ⟨g13, 2, none⟩ = some (.int .i64 s.purpose) := (HG6.out.cell 2).trans rfl
          have y3 : w6.cell? ⟨g13, 3, none⟩ = some (.string s.channel) := (HG6.out.cell 3).trans rfl
          have y4 : w6.cell? ⟨g13, 4, none⟩ = some (.int .i64 s.expires) := (HG6.out.cell 4).trans rfl
          have y5 : w6.cell? ⟨g13, 5, none⟩ = some (.int .i64 s.tries) := (HG6.out.cell 5).trans rfl
          go_wp2_with fail
          refine (HEQ.out _).mono ?_
          rintro e w7 ⟨rfl, hb⟩
          have HQ7 := Lib.hid (show Rsec w5 w7 ∧ Kept (fun u => u = b9 ∨ u = g13) w5 w7 from ⟨HQ6.out.1.trans (Rsec.below hb), HQ6.out.2.trans (Kept.of_below (S := fun _ => False) hb) (fun _ h => h.elim)⟩)
          have HZ7 := Lib.hid (HZ6.out.of (hb.block _ HZ6.out.lt))
          have HG7 := Lib.hid (HG6.out.of (hb.block _ HG6.out.lt))
          clear hb
          clear y0 y1 y2 y3 y4 y5
          have z0 : w7.cell? ⟨g13, 0, none⟩ = some (.string s.digest) := (HG7.out.cell 0).trans rfl
          have z1 : w7.cell? ⟨g13, 1, none⟩ = some (.int .i64 s.account) := (HG7.out.cell 1).trans rfl
          have z2 : w7.cell? ⟨g13, 2, none⟩ = some (.int .i64 s.purpose) := (HG7.out.cell 2).trans rfl
          have z3 : w7.cell? ⟨g13, 3, none⟩ = some (.string s.channel) := (HG7.out.cell 3).trans rfl
          have z4 : w7.cell? ⟨g13, 4, none⟩ = some (.int .i64 s.expires) := (HG7.out.cell 4).trans rfl
          have z5 : w7.cell? ⟨g13, 5, none⟩ = some (.int .i64 s.tries) := (HG7.out.cell 5).trans rfl
          have fz := HG7.out.frozen 5
          go_upto_region 13 with fail
          generalize hV : World.setCell w7 _ _ = w8
          have HG8 := Lib.hid (show Blk w8 g13 26 #[.string s.digest, .int .i64 s.account, .int .i64 s.purpose, .string s.channel, .int .i64 s.expires, .int .i64 (s.tries - 1)] by rw [← hV]; exact HG7.out.set_ 5 _)
          have HZ8 := Lib.hid (show Blk w8 b9 26 #[.string ⟨#[]⟩, .int .i64 0, .int .i64 0, .string ⟨#[]⟩, .int .i64 0, .int .i64 0] by rw [← hV]; exact HZ7.out.far (p := ⟨g13, 5, none⟩) (fun e => HN13.out e.symm) _)
          have HQ8 := Lib.hid (show Rsec w5 w8 ∧ Kept (fun u => u = b9 ∨ u = g13) w5 w8 by rw [← hV]; exact ⟨HQ7.out.1.trans (Rsec.kept ((Kept.refl (fun u => u = g13) w7).setCell (p := ⟨g13, 5, none⟩) (.inl rfl) _) HG7.out), HQ7.out.2.setCell (p := ⟨g13, 5, none⟩) (.inl (.inr rfl)) _⟩)
          clear hV z0 z1 z2 z3 z4 z5 fz
          have y0 : w8.cell? ⟨g13, 0, none⟩ = some (.string s.digest) := (HG8.out.cell 0).trans rfl
          have y1 : w8.cell? ⟨g13, 1, none⟩ = some (.int .i64 s.account) := (HG8.out.cell 1).trans rfl
          have y2 : w8.cell? ⟨g13, 2, none⟩ = some (.int .i64 s.purpose) := (HG8.out.cell 2).trans rfl
          have y3 : w8.cell? ⟨g13, 3, none⟩ = some (.string s.channel) := (HG8.out.cell 3).trans rfl
          have y4 : w8.cell? ⟨g13, 4, none⟩ = some (.int .i64 s.expires) := (HG8.out.cell 4).trans rfl
          have y5 : w8.cell? ⟨g13, 5, none⟩ = some (.int .i64 (s.tries - 1)) := (HG8.out.cell 5).trans rfl
          have hal : Below w8.heap.size w8 (w8.alloc (.cells #[.string s.digest, .int .i64 s.account, .int .i64 s.purpose, .string s.channel, .int .i64 s.expires, .int .i64 (s.tries - 1)] 26)) := (Below.refl _ w8).alloc (Nat.le_refl _) _
          have hca := HR1.out _ [{ s with tries := s.tries - 1 }] (some ⟨w8.heap.size, 0, none⟩) 1 (by simp) (lies_one _ _ { s with tries := s.tries - 1 } (Blk.new w8 26 #[.string s.digest, .int .i64 s.account, .int .i64 s.purpose, .string s.channel, .int .i64 s.expires, .int .i64 (s.tries - 1)])) (HQ8.out.1.trans (Rsec.below hal)) (HQ8.out.2.trans (Kept.of_below (S := fun _ => False) hal) (fun _ h => h.elim))
          have HCA := Lib.hid hca
          have HQA := Lib.hid (show Rsec w5 _ ∧ Kept (fun u => u = b9 ∨ u = g13) w5 _ from ⟨HQ8.out.1.trans (Rsec.below hal), HQ8.out.2.trans (Kept.of_below (S := fun _ => False) hal) (fun _ h => h.elim)⟩)
          have HZA := Lib.hid (HZ8.out.of (hal.block _ HZ8.out.lt))
          clear hca hal
          go_wp2_with fail
          refine HCA.out.mono ?_
          rintro e w9 ⟨v, rfl, hv, hb⟩
          have HRO := Lib.hid hv
          have HQ9 := Lib.hid (show Rsec w5 w9 ∧ Kept (fun u => u = b9 ∨ u = g13) w5 w9 from ⟨HQA.out.1.trans (Rsec.below hb), HQA.out.2.trans (Kept.of_below (S := fun _ => False) hb) (fun _ h => h.elim)⟩)
          have HZ9 := Lib.hid (HZA.out.of (hb.block _ HZA.out.lt))
          clear hv hb
          have f0 := HZ9.out.frozen 0
          have g0 := (HZ9.out.cell 0).trans rfl
          have f1 := HZ9.out.frozen 1
          have g1 := (HZ9.out.cell 1).trans rfl
          have f2 := HZ9.out.frozen 2
          have g2 := (HZ9.out.cell 2).trans rfl
          have f3 := HZ9.out.frozen 3
          have g3 := (HZ9.out.cell 3).trans rfl
          have f4 := HZ9.out.frozen 4
          have g4 := (HZ9.out.cell 4).trans rfl
          have f5 := HZ9.out.frozen 5
          have g5 := (HZ9.out.cell 5).trans rfl
          go_wp2_with fail
          (try simp only [Exit.inBlock, Exit.then])
          refine bodyPost_ret (results_tct (P := Tryz.prog) rfl _ _ b9 26 _ (0, 0) _ _ _ rfl rfl rfl (HZ9.out.six _ _ _ _ _ _) Tryz.underlying26 rfl sec_size) rfl ?_
          exact ⟨⟨_, rfl, by have h := row_six HRO.out; rw [set_parts l i _ HI.out] at h; exact h _ _ _ _ _ _⟩, HFIN.out _ (kept_six (HKF.out _ HQ9.out.2) rfl _ _ _ _ _ _)⟩
end Go.Proofs.YtfjdcopndkdbmaaGreatDoor
