/-
  Contracts of the document's own disk (package homecomingref02): now, may, step, New, Break, Pending, Write, Read, Sync. Condition: the disk lies in memory as New lays it; fewer than 1000 writes wait.
-/
import Derived.Test.YtlifaegmidgcnaaRefA
import Derived.Test.YtlifaegmidgcnaaDiskC
namespace Go.Proofs.Ytlifaegmidgcnaa
open Go.RowKit

/-- Where the document's disk lies: itself, its row of bytes and that row's room, its list of writes. -/
structure RFoot where
  d : Nat
  g : Nat
  cap : Nat
  wv : Value
def RFoot.has (F : RFoot) (k : Nat) : Prop := k = F.d ∨ k = F.g ∨ F.wv.ownBlock = some k

structure Ref (w : World) (F : RFoot) (n : Nat) (st : List UInt8) (wait : List (Nat × ByteArray)) (left : Int) (broke : Bool) : Prop where
  blk : Blk w F.d 42 #[.slice (some ⟨F.g, 0, none⟩) n F.cap, F.wv, .int .i64 left, .bool broke]
  bts : Bts w F.g n F.cap st
  own : w.ownsRow 0 63 2 F.wv wait.length (pc wait)
  within : Dk.Within n wait
  few : wait.length ≤ 1000
  pos : 1 ≤ n
  small : n ≤ 131072
  low : 0 ≤ left
  high : left ≤ 9223372036854775807

theorem RFoot.has_lt {w : World} {F : RFoot} {n : Nat} {st : List UInt8} {wait : List (Nat × ByteArray)} {left : Int} {broke : Bool} (h : Ref w F n st wait left broke) : ∀ k, F.has k → k < w.heap.size := by
  rintro k (rfl | rfl | hk)
  · exact h.blk.lt
  · exact h.bts.lt
  · exact own_lt h.own hk

/-- What a call on the document's disk leaves. -/
def RNext (w : World) (F : RFoot) (n : Nat) (st : List UInt8) (wait : List (Nat × ByteArray)) (left : Int) (broke : Bool) (w' : World) : Prop :=
  ∃ F' : RFoot, F'.d = F.d ∧ Ref w' F' n st wait left broke ∧ Kept F.has w w' ∧ ∀ x, F'.has x → F.has x ∨ w.heap.size ≤ x

section
variable {w : World} {F : RFoot} {n : Nat} {st : List UInt8} {wait : List (Nat × ByteArray)} {left : Int} {broke : Bool}

theorem Ref.c0 (h : Ref w F n st wait left broke) : w.cell? ⟨F.d, 0, none⟩ = some (.slice (some ⟨F.g, 0, none⟩) n F.cap) := h.blk.cell 0
theorem Ref.c1 (h : Ref w F n st wait left broke) : w.cell? ⟨F.d, 1, none⟩ = some F.wv := h.blk.cell 1
theorem Ref.c2 (h : Ref w F n st wait left broke) : w.cell? ⟨F.d, 2, none⟩ = some (.int .i64 left) := h.blk.cell 2
theorem Ref.c3 (h : Ref w F n st wait left broke) : w.cell? ⟨F.d, 3, none⟩ = some (.bool broke) := h.blk.cell 3
theorem Ref.fr (h : Ref w F n st wait left broke) (i : Nat) : w.frozen? ⟨F.d, i, none⟩ = false := h.blk.frozen i
theorem Ref.keep (h : Ref w F n st wait left broke) {w' : World} {S : Nat → Prop} (hk : Kept S w w') (hS : ∀ x, F.has x → ¬ S x) : Ref w' F n st wait left broke :=
  ⟨h.blk.of (hk.block _ h.blk.lt (hS _ (.inl rfl))), h.bts.of (hk.block _ h.bts.lt (hS _ (.inr (.inl rfl)))),
    own_of h.own (fun b e => hk.block b (own_lt h.own e) (hS _ (.inr (.inr e)))), h.within, h.few, h.pos, h.small, h.low, h.high⟩
theorem Ref.below (h : Ref w F n st wait left broke) {w' : World} (hb : Below w.heap.size w w') : Ref w' F n st wait left broke := h.keep (Kept.of_below (S := fun _ => False) hb) (fun _ _ hx => hx)
theorem Ref.again (h : Ref w F n st wait left broke) {w' : World} {left' : Int} {broke' : Bool} (hk : Kept (· = F.d) w w')
    (hb : Blk w' F.d 42 #[.slice (some ⟨F.g, 0, none⟩) n F.cap, F.wv, .int .i64 left', .bool broke']) (hl : 0 ≤ left') (hh : left' ≤ 9223372036854775807) : Ref w' F n st wait left' broke' :=
  ⟨hb, h.bts.of (hk.block _ h.bts.lt (h.bts.ne_ h.blk (by decide))),
    own_of h.own (fun b e => hk.block b (own_lt h.own e) (fun e' => own_blk_ne h.own h.blk (by decide) (by rw [e, e']))), h.within, h.few, h.pos, h.small, hl, hh⟩
theorem rwv_form (h : Ref w F n st wait left broke) : ∃ A cap, F.wv = .slice A wait.length cap := by
  rcases h.own.2 with ⟨hv, h0⟩ | ⟨g, cap, cur, hv, _⟩
  · exact ⟨none, 0, by rw [hv, h0]⟩
  · exact ⟨_, cap, hv⟩
theorem Ref.pcell (h : Ref w F n st wait left broke) (i : Nat) (hi : i < wait.length) :
    ∃ g cap, F.wv = .slice (some ⟨g, 0, none⟩) wait.length cap ∧ w.cell? ⟨g, i * 2, none⟩ = some (.int .i64 (wait[i].1 : Int)) ∧ w.cell? ⟨g, i * 2 + 1, none⟩ = some (.string wait[i].2) ∧ F.wv.ownBlock = some g := by
  rcases h.own.2 with ⟨_, h0⟩ | ⟨g, cap, cur, hv, _, hh, hnc, _, hcs, ht⟩
  · omega
  · have hx := pc_get wait i hi
    have hl := pc_len wait
    have hb : Blk w g 63 cur := hh
    refine ⟨g, cap, hv, ?_, ?_, by rw [hv]; rfl⟩
    · rw [hb.cell, ← hx.1, ← ht, List.getElem?_take, if_pos (by omega)]
      simp
    · rw [hb.cell, ← hx.2, ← ht, List.getElem?_take, if_pos (by omega)]
      simp

/-- What now leaves. -/
def NowPost (w : World) (g0 n : Nat) (l : List UInt8) (e : Ending) (w' : World) : Prop :=
  ∃ g cap, e = .returned (.slice (some ⟨g, 0, none⟩) n cap) ∧ Bts w' g n cap l ∧ (g = g0 ∨ w.heap.size ≤ g) ∧ Below w.heap.size w w'
def NowRel (w : World) (g0 n : Nat) (st : List UInt8) (wait : List (Nat × ByteArray)) (b i : Value) (wr : World) : Prop :=
  ∃ k : Nat, k ≤ wait.length ∧ i = .int .i64 (k : Int) ∧ ∃ g cap, b = .slice (some ⟨g, 0, none⟩) n cap ∧ Bts wr g n cap (Dk.puts st (wait.take k)) ∧ (g = g0 ∨ w.heap.size ≤ g) ∧ Below w.heap.size w wr

theorem now_any (h : Ref w F n st wait left broke) :
    Calls Try.prog 29 #[.pointer (some ⟨F.d, 0, none⟩)] w (NowPost w F.g n (Dk.puts st wait)) := by
  have c0 := h.c0
  obtain ⟨A, cap, hwv⟩ := rwv_form h
  have HP := Lib.hid hwv
  have hfew := h.few
  have hsm := h.small
  have hpos := h.pos
  clear hwv
  go_enter Try.func29, Try.ntmps29
  go_wp2_with fail
  go_loopw [3, 4] (NowRel w F.g n st wait) (fun _ i _ => wait.length - (intOf i).toNat)
  case atStart => exact ⟨0, by omega, rfl, F.g, F.cap, rfl, h.bts, .inl rfl, Below.refl _ _⟩
  case round =>
    clear c0
    obtain ⟨k, hk, rfl, g, cap', rfl, hbt, hg, hb⟩ := hrel
    have hr := h.below hb
    have c1 := hr.c1
    rw [HP.out] at c1
    by_cases hlt : k < wait.length
    · obtain ⟨gw, cw, hv, q1, q2, hob⟩ := hr.pcell k hlt
      have hA : A = some ⟨gw, 0, none⟩ := by have := HP.out.symm.trans hv; injection this
      subst hA
      have hw := h.within wait[k] (List.getElem_mem hlt)
      have HT := Lib.hid (show Dk.puts st (wait.take (k + 1)) = Dk.put (Dk.puts st (wait.take k)) wait[k].1 wait[k].2.data.toList by rw [Dk.take_snoc' wait k hlt, Dk.puts_snoc])
      clear hv
      generalize wait[k] = p at q1 q2 HT hw
      obtain ⟨at_, s⟩ := p
      simp only at q1 q2 HT hw
      have HC := Lib.hid (put_any wr g n cap' at_ _ s hbt hw hsm hpos)
      rw [← HT.out] at HC
      clear hr
      go_wp2_with fail
      refine HC.out.mono ?_
      rintro e w2 ⟨g2, cap2, rfl, t2, hg2, hb2⟩
      have hb3 := hb.trans (hb2.mono hb.size)
      have hg3 : w.heap.size ≤ g2 := Nat.le_trans hb.size hg2
      clear HC
      go_wp2_with fail
      go_roundw
      case rel => exact ⟨k + 1, by omega, by go_num, g2, cap2, rfl, t2, .inr hg3, hb3⟩
      case measure => simp [intOf]; omega
    · obtain rfl : k = wait.length := by omega
      rw [List.take_length] at hbt
      go_wp2_with fail
      go_ret
      exact ⟨g, cap', rfl, hbt, hg, hb⟩

theorem may_any (h : Ref w F n st wait left broke) (k m : Int) (hm : m ≤ 9223372036854775807) (hm' : -9223372036854775808 ≤ m) :
    Calls Try.prog 28 #[.pointer (some ⟨F.d, 0, none⟩), .int .i64 k, .int .i64 m] w fun e w' => e = .returned (.bool (hasB n k m)) ∧ w = w' := by
  have c0 := h.c0
  have hs := h.small
  unfold hasB
  by_cases h1 : 0 ≤ k
  · by_cases h0 : 0 ≤ m
    · by_cases h2 : k ≤ (n : Int) - m
      all_goals
        go_enter Try.func28, Try.ntmps28
        go_wp2
        go_ret
        exact ⟨by simp [h0, h1, h2], rfl⟩
    · go_enter Try.func28, Try.ntmps28
      go_wp2
      go_ret
      exact ⟨by simp; omega, rfl⟩
  · go_enter Try.func28, Try.ntmps28
    go_wp2
    go_ret
    exact ⟨by simp; omega, rfl⟩

/-- A step of the document's disk: its count, whether it is broken behind it. -/
def rstepL (left : Int) (broke : Bool) : Int := if broke then left else if 0 < left then left - 1 else left
def RStepPost (w : World) (F : RFoot) (n : Nat) (st : List UInt8) (wait : List (Nat × ByteArray)) (left : Int) (broke : Bool) (e : Ending) (w' : World) : Prop :=
  e = .returned (.tuple #[.bool (stepB left broke), .bool broke]) ∧ Ref w' F n st wait (rstepL left broke) (stepB left broke) ∧ Kept (· = F.d) w w'
theorem rstep_any (h : Ref w F n st wait left broke) :
    Calls Try.prog 33 #[.pointer (some ⟨F.d, 0, none⟩)] w (RStepPost w F n st wait left broke) := by
  have c2 := h.c2
  have c3 := h.c3
  have f2 := h.fr 2
  have f3 := h.fr 3
  have lo := h.low
  have hi := h.high
  cases broke
  · by_cases h1 : left = 1
    · subst h1
      have hk : Kept (· = F.d) w ((w.setCell ⟨F.d, 2, none⟩ (.int .i64 0)).setCell ⟨F.d, 3, none⟩ (.bool true)) := ((Kept.refl _ w).here 2 _).here 3 _
      have hr := h.again hk ((h.blk.set_ 2 _).set_ 3 _) (by omega) (by omega)
      go_enter Try.func33, Try.ntmps33
      go_wp2
      go_ret2
      exact ⟨rfl, hr, hk⟩
    · by_cases h0 : 0 < left
      · have hk : Kept (· = F.d) w (w.setCell ⟨F.d, 2, none⟩ (.int .i64 (left - 1))) := (Kept.refl _ w).here 2 _
        have hr := h.again hk (h.blk.set_ 2 _) (left' := left - 1) (broke' := false) (by omega) (by omega)
        have hs : stepB left false = false := by simp [stepB, h1]
        have hL : rstepL left false = left - 1 := by simp [rstepL, h0]
        have HH := Lib.hid (show RStepPost w F n st wait left false (.returned (.tuple #[.bool false, .bool false])) (w.setCell ⟨F.d, 2, none⟩ (.int .i64 (left - 1))) from ⟨by rw [hs], by rw [hs, hL]; exact hr, hk⟩)
        have h2 : ¬ left - 1 = 0 := by omega
        clear hs hL hr hk h
        go_enter Try.func33, Try.ntmps33
        go_wp2
        go_ret2
        exact HH.out
      · have hs : stepB left false = false := by simp [stepB, h1]
        have hL : rstepL left false = left := by simp [rstepL, h0]
        have HH := Lib.hid (show RStepPost w F n st wait left false (.returned (.tuple #[.bool false, .bool false])) w from ⟨by rw [hs], by rw [hs, hL]; exact h, Kept.refl _ w⟩)
        clear hs hL h
        go_enter Try.func33, Try.ntmps33
        go_wp2
        go_ret2
        exact HH.out
  · go_enter Try.func33, Try.ntmps33
    go_wp2
    go_ret2
    exact ⟨rfl, h, Kept.refl _ w⟩

def RMade (w : World) (n : Nat) (e : Ending) (w' : World) : Prop :=
  ∃ F : RFoot, e = .returned (.pointer (some ⟨F.d, 0, none⟩)) ∧ Ref w' F n (List.replicate n 0) [] 0 false ∧ Below w.heap.size w w' ∧ ∀ k, F.has k → w.heap.size ≤ k
theorem rnew_any (n : Nat) (w : World) (h1 : 1 ≤ n) (h2 : n ≤ 131072) :
    Calls Try.prog 11 #[.int .i64 (n : Int)] w (RMade w n) := by
  have hmk := make_bytes n h2
  obtain ⟨Z, hZ⟩ : ∃ Z, Z = (cb (List.replicate n 0)).toArray := ⟨_, rfl⟩
  rw [← hZ] at hmk
  have HZ := Lib.hid hZ
  clear hZ
  go_enter Try.func11, Try.ntmps11
  go_wp2
  go_ret
  have b1 : Blk ((w.alloc (.cells Z 5)).alloc (.cells #[.slice (some ⟨w.heap.size, 0, none⟩) n n, .slice none 0 0, .int .i64 0, .bool false] 42)) (w.heap.size + 1) 42 #[.slice (some ⟨w.heap.size, 0, none⟩) n n, .slice none 0 0, .int .i64 0, .bool false] := by
    have := Blk.new (w.alloc (.cells Z 5)) 42 #[.slice (some ⟨w.heap.size, 0, none⟩) n n, .slice none 0 0, .int .i64 0, .bool false]
    simpa using this
  have t1 : Bts (w.alloc (.cells Z 5)) w.heap.size n n (List.replicate n 0) := by
    have := World.ownsRow_lit (base := 0) (e := 5) (size := 1) w Z n (by omega) (by unfold maxLen; omega) (by rw [HZ.out]; simp [cb_length])
    rw [HZ.out] at this ⊢
    exact this
  refine ⟨⟨w.heap.size + 1, w.heap.size, n, .slice none 0 0⟩, rfl, ⟨b1, t1.of (Below.heap_alloc _ _ _ (by simp)), ⟨rfl, .inl ⟨rfl, rfl⟩⟩, ?_, by simp, h1, h2, by omega, by omega⟩, ((Below.refl _ w).alloc (Nat.le_refl _) _).alloc (by simp) _, ?_⟩
  · intro p hp
    simp at hp
  · rintro k (rfl | rfl | hk)
    · show w.heap.size ≤ w.heap.size + 1
      omega
    · exact Nat.le_refl _
    · simp [Value.ownBlock] at hk

def brkL (k left : Int) (broke : Bool) : Int := if broke then left else if k < 0 then 0 else k
theorem rbreak_any (h : Ref w F n st wait left broke) (k : Int) (hh : k ≤ 9223372036854775807) :
    Calls Try.prog 20 #[.pointer (some ⟨F.d, 0, none⟩), .int .i64 k] w fun e w' => e = .returned (.tuple #[]) ∧ Ref w' F n st wait (brkL k left broke) broke ∧ Kept (· = F.d) w w' := by
  have c2 := h.c2
  have c3 := h.c3
  have f2 := h.fr 2
  cases broke
  · by_cases h0 : k < 0
    · have hk : Kept (· = F.d) w ((w.setCell ⟨F.d, 2, none⟩ (.int .i64 k)).setCell ⟨F.d, 2, none⟩ (.int .i64 0)) := ((Kept.refl _ w).here 2 _).here 2 _
      have hr := h.again hk ((h.blk.set_ 2 _).set_ 2 _) (by omega) (by omega)
      have hL : brkL k left false = 0 := by simp [brkL, h0]
      rw [hL]
      clear hL
      go_enter Try.func20, Try.ntmps20
      go_wp2
      go_end0
      exact ⟨rfl, hr, hk⟩
    · have hk : Kept (· = F.d) w (w.setCell ⟨F.d, 2, none⟩ (.int .i64 k)) := (Kept.refl _ w).here 2 _
      have hr := h.again hk (h.blk.set_ 2 _) (by omega) hh
      have hL : brkL k left false = k := by simp [brkL, h0]
      rw [hL]
      clear hL
      go_enter Try.func20, Try.ntmps20
      go_wp2
      go_end0
      exact ⟨rfl, hr, hk⟩
  · go_enter Try.func20, Try.ntmps20
    go_wp2
    go_end0
    exact ⟨rfl, h, Kept.refl _ w⟩

theorem rpending_any (h : Ref w F n st wait left broke) :
    Calls Try.prog 24 #[.pointer (some ⟨F.d, 0, none⟩)] w fun e w' => e = .returned (.int .i64 (Dk.bytes wait : Int)) ∧ w = w' := by
  have c1 := h.c1
  obtain ⟨A, cap, hwv⟩ := rwv_form h
  rw [hwv] at c1
  have HP := Lib.hid hwv
  have hbd := Dk.bytes_le n wait h.within
  have hfew := h.few
  have hsm := h.small
  have hbd2 : Dk.bytes wait ≤ 1000 * 131072 := Nat.le_trans hbd (Nat.mul_le_mul hfew hsm)
  clear hwv hbd
  go_enter Try.func24, Try.ntmps24
  go_wp2
  go_loop [3, 4] (fun nn i => ∃ k : Nat, k ≤ wait.length ∧ i = .int .i64 (k : Int) ∧ nn = .int .i64 (Dk.bytes (wait.take k) : Int)) (fun _ i => wait.length - (intOf i).toNat)
  case atStart => exact ⟨0, by omega, rfl, rfl⟩
  case round =>
    obtain ⟨k, hk, rfl, rfl⟩ := hrel
    have hle := Dk.bytes_take_le wait k
    by_cases hlt : k < wait.length
    · obtain ⟨g, cap', hv, q1, q2, hob⟩ := h.pcell k hlt
      have hA : A = some ⟨g, 0, none⟩ := by have := HP.out.symm.trans hv; injection this
      subst hA
      have HT := Lib.hid (show Dk.bytes (wait.take (k + 1)) = Dk.bytes (wait.take k) + wait[k].2.size by rw [Dk.take_snoc' wait k hlt, Dk.bytes_snoc])
      have hle2 := Dk.bytes_take_le wait (k + 1)
      have hsz : Dk.bytes (wait.take k) + wait[k].2.size ≤ 1000 * 131072 := by rw [← HT.out]; omega
      clear hv HP
      generalize wait[k] = p at q1 q2 HT hsz
      go_wp2
      go_round
      case rel => exact ⟨k + 1, by omega, by go_num, by rw [HT.out]; go_num⟩
      case measure => simp [intOf]; omega
    · obtain rfl : k = wait.length := by omega
      rw [List.take_length]
      go_wp2
      go_ret
      exact ⟨rfl, rfl⟩
end
end Go.Proofs.Ytlifaegmidgcnaa
