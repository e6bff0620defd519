/-
  Contracts of the document's own disk (package homecomingref02): Write, Read, Sync, Crash. Condition: the disk lies in memory as New lays it; fewer than 1000 writes wait.
-/
import Derived.Test.YtlifaegmidgcnaaRefB
import Derived.Deep.RegionLaw
namespace Go.Proofs.Ytlifaegmidgcnaa
open Go.RowKit
section
variable {w : World} {F : RFoot} {n : Nat} {st : List UInt8} {wait : List (Nat × ByteArray)} {left : Int} {broke : Bool}

theorem rwrite_arg (h : Ref w F n st wait left broke) (k : Int) (s : ByteArray) (hs : s.size ≤ maxLen) (hk : hasB n k (s.size : Int) = false) :
    Calls Try.prog 22 #[.pointer (some ⟨F.d, 0, none⟩), .int .i64 k, .string s] w fun e w' => e = .returned (.int .i64 1) ∧ w = w' := by
  unfold maxLen at hs
  have HH := Lib.hid (may_any h k (s.size : Int) (by omega) (by omega))
  rw [hk] at HH
  clear h hk
  go_enter Try.func22, Try.ntmps22
  go_wp2_with (go_at_call 28; refine HH.out.mono ?_; rintro e w' ⟨rfl, rfl⟩)
  go_ret
  exact ⟨rfl, rfl⟩
theorem rwrite_io (h : Ref w F n st wait left true) (k : Int) (s : ByteArray) (hs : s.size ≤ maxLen) (hk : hasB n k (s.size : Int) = true) :
    Calls Try.prog 22 #[.pointer (some ⟨F.d, 0, none⟩), .int .i64 k, .string s] w fun e w' => e = .returned (.int .i64 18) ∧ RNext w F n st wait left true w' := by
  unfold maxLen at hs
  have HH := Lib.hid (may_any h k (s.size : Int) (by omega) (by omega))
  rw [hk] at HH
  have HS := Lib.hid (rstep_any h)
  clear hk
  go_enter Try.func22, Try.ntmps22
  go_wp2_with (first
    | (go_at_call 28; refine HH.out.mono ?_; rintro e w' ⟨rfl, rfl⟩)
    | (go_at_call 33; refine HS.out.mono ?_; rintro e w1 ⟨rfl, hR1, hk1⟩))
  go_ret
  exact ⟨rfl, F, rfl, hR1, hk1.mono (fun x hx => .inl (.inl hx)), fun x hx => .inl hx⟩

theorem one_info : (Try.prog.info? 63).map (fun i => (i.zero, i.size, i.bytes)) = some (some (.agg #[.int .i64 0, .string ⟨#[]⟩]), 2, 24) := by kernel_rfl

theorem Ref.grow (h : Ref w F n st wait left broke) (k : Nat) (s : ByteArray) (hk : k + s.size ≤ n) (hp : wait.length < 1000) (o : Obj) {w1 : World} {v' : Value} {g : Nat}
    (hown : w1.ownsRow 0 63 2 v' (wait.length + 1) (pc wait ++ [.int .i64 (k : Int), .string s])) (hv : v'.ownBlock = some g) (hgrow : (w.alloc o).grownBy w1 F.wv.ownBlock) (hat : F.wv.ownBlock = some g ∨ g = w.heap.size + 1) :
    Ref (w1.setCell ⟨F.d, 1, none⟩ v') ⟨F.d, F.g, F.cap, v'⟩ n st (wait ++ [(k, s)]) left broke ∧ Kept F.has w (w1.setCell ⟨F.d, 1, none⟩ v') ∧ ∀ x, RFoot.has ⟨F.d, F.g, F.cap, v'⟩ x → F.has x ∨ w.heap.size ≤ x := by
  have hne0 : ∀ {b : Nat} {t : TypeId} {cs : Array Value}, Blk w b t cs → 63 ≠ t → some b ≠ F.wv.ownBlock := fun hb hne e => own_blk_ne h.own hb hne e.symm
  have hd : Blk w1 F.d 42 _ := (h.blk.alloc o).of (hgrow.block _ (h.blk.alloc o).lt (hne0 h.blk (by decide)))
  have hbk : ∃ cs, Blk w F.g 5 cs := by
    rcases h.bts.2 with ⟨hx, _⟩ | ⟨g', cap', cur, hx, _, hh, _⟩
    · simp at hx
    · simp only [Value.slice.injEq, Option.some.injEq, Addr.mk.injEq, and_true, true_and] at hx
      obtain ⟨rfl, _⟩ := hx
      exact ⟨cur, hh⟩
  obtain ⟨cs, hbk⟩ := hbk
  have hne : F.g ≠ F.d := h.bts.ne_ h.blk (by decide)
  have hb1 : Bts w1 F.g n F.cap st := (h.bts.of (Below.heap_alloc w o _ h.bts.lt)).of (hgrow.block _ (by have := h.bts.lt; simp; omega) (hne0 hbk (by decide)))
  refine ⟨⟨hd.set_ 1 v', hb1.of (Below.heap_setCell _ _ _ _ hne), ?_, ?_, by simp; omega, h.pos, h.small, h.low, h.high⟩, ?_, ?_⟩
  · have hpc : pc (wait ++ [(k, s)]) = pc wait ++ [.int .i64 (k : Int), .string s] := by simp [pc]
    have hln : (wait ++ [(k, s)]).length = wait.length + 1 := by simp
    rw [hpc, hln]
    exact own_of hown (fun b e => Below.heap_setCell _ _ _ _ (fun e' => own_blk_ne hown hd (by decide) (by rw [e, e'])))
  · intro p hp
    rcases List.mem_append.1 hp with hp | hp
    · exact h.within p hp
    · simp at hp
      subst hp
      exact hk
  · have k1 : Kept F.has w (w.alloc o) := (Kept.refl _ w).alloc o
    exact (k1.grown hgrow (fun x hx => .inl (.inr (.inr hx)))).setCell (p := ⟨F.d, 1, none⟩) (.inl (.inl rfl)) _
  · rintro x (rfl | rfl | hx)
    · exact .inl (.inl rfl)
    · exact .inl (.inr (.inl rfl))
    · have hx' : v'.ownBlock = some x := hx
      rw [hv] at hx'
      have : g = x := by injection hx'
      subst this
      rcases hat with hat | hat
      · exact .inl (.inr (.inr hat))
      · exact .inr (by omega)

def RWritePost (w : World) (F : RFoot) (n : Nat) (st : List UInt8) (wait : List (Nat × ByteArray)) (left : Int) (k : Nat) (s : ByteArray) (e : Ending) (w' : World) : Prop :=
  e = .returned (.int .i64 (errOf (stepB left false))) ∧ RNext w F n st (wait ++ [(k, s)]) (rstepL left false) (stepB left false) w'

theorem rwrite_any (h : Ref w F n st wait left false) (k : Nat) (s : ByteArray) (hk : k + s.size ≤ n) (hp : wait.length < 1000) :
    Calls Try.prog 22 #[.pointer (some ⟨F.d, 0, none⟩), .int .i64 (k : Int), .string s] w (RWritePost w F n st wait left k s) := by
  obtain ⟨i0, hi0, hz0, hz1, hz2⟩ := info_parts one_info
  have hs := h.small
  have HH := Lib.hid (may_any h (k : Int) (s.size : Int) (by omega) (by omega))
  rw [hasB_yes (by omega) (by omega) (by omega)] at HH
  have HS := Lib.hid (rstep_any h)
  have HI := Lib.hid hi0
  have HZ := Lib.hid hz0
  have HZ1 := Lib.hid hz1
  have HZ2 := Lib.hid hz2
  clear hi0 hz0 hz1 hz2 h
  have hcase : ∀ b, stepB left false = b → Calls Try.prog 22 #[.pointer (some ⟨F.d, 0, none⟩), .int .i64 (k : Int), .string s] w (RWritePost w F n st wait left k s) := by
    intro b hb
    have HB := Lib.hid hb
    clear hb
    unfold RStepPost at HS
    rw [HB.out] at HS
    unfold RWritePost
    rw [HB.out]
    cases b
    all_goals
      go_enter Try.func22, Try.ntmps22
      go_wp2_with fail
      refine HH.out.mono ?_
      rintro e w' ⟨rfl, rfl⟩
      go_wp2_with fail
      refine HS.out.mono ?_
      rintro e w1 ⟨rfl, hR1, hk1⟩
      have c1 := hR1.c1
      have hown0 : (w1.alloc (.cells #[.int .i64 (k : Int), .string s] 63)).ownsRow 0 63 2 F.wv wait.length (pc wait) := own_of hR1.own (fun b e => Below.heap_alloc _ _ _ (own_lt hR1.own e))
      have hblk0 := Blk.new w1 63 #[.int .i64 (k : Int), .string s]
      go_wp2_with
        (at_builtin
         refine wpList_append_lies _ rfl (.tmp 28) (.tmp 32) 40 rfl 0 63 i0 _ 2 24 Try.underlying40 HI.out HZ.out HZ1.out HZ2.out rfl (by decide) F.wv wait.length (pc wait) rfl hown0 ⟨w1.heap.size, 0, none⟩ 1 1 [.int .i64 (k : Int), .string s] rfl rfl (World.news_of_block hblk0) (by intro u hu; simp at hu; rcases hu with rfl | rfl <;> rfl) (by omega) (by unfold maxLen; omega) (by omega) (by omega) (w1.heap.size + 1) (by simp) ?_
         intro g cap w2 hown1 hgrow hat hlt
         obtain ⟨hR2, hK2, hF2⟩ := hR1.grow k s hk hp _ hown1 rfl hgrow hat
         have hb1 : Blk w2 F.d 42 _ := (hR1.blk.alloc _).of (hgrow.block _ (hR1.blk.alloc _).lt (fun e => own_blk_ne hR1.own hR1.blk (by decide) e.symm))
         have d1 := hb1.cell 1
         have f1 := hb1.frozen 1
         clear hb1 hgrow hown1 c1 hown0 hblk0)
      go_ret
      refine ⟨rfl, ⟨F.d, F.g, F.cap, .slice (some ⟨g, 0, none⟩) (wait.length + 1) cap⟩, rfl, hR2, (hk1.mono (T := F.has) (fun x hx => .inl (.inl hx))).trans hK2 (fun x hx => .inl hx), fun x hx => ?_⟩
      rcases hF2 x hx with h1 | h1
      · exact .inl h1
      · exact .inr (Nat.le_trans hk1.size h1)
  exact hcase _ rfl

/-- A cut of a row with room, from a place to another. -/
theorem run_cut_mid_room {P : Program} (t e : TypeId) (ht : P.underlying t = some (.slice e)) (hsz : (P.info? e).map (·.size) = some 1) (g n c k m : Nat) (hk : k + m ≤ n) (hc : n ≤ c) :
    ∃ A : Option Addr, A ≠ none ∧ (k < c → A = some ⟨g, k, none⟩) ∧ ∀ w, (Instr.slice t (.slice (some ⟨g, 0, none⟩) n c) (some (.int .i64 (k : Int))) (some (.int .i64 ((k : Int) + (m : Int)))) none).run P w = .ok (.slice A m (c - k)) w := by
  cases hq : P.info? e with
  | none => simp [hq] at hsz
  | some i =>
    have hi : i.size = 1 := by simpa [hq] using hsz
    refine ⟨if c = k then some ⟨g, 0, none⟩ else some ((⟨g, 0, none⟩ : Addr).add k), by split <;> simp, fun h => ?_, fun w => ?_⟩
    · rw [if_neg (by omega)]
      unfold Addr.add
      split <;> simp_all
    · have h1 : (0 : Int) ≤ (k : Int) + (m : Int) ∧ (k : Int) + (m : Int) ≤ (c : Int) := by omega
      have h2 : ((k : Int) + (m : Int)).toNat = k + m := by omega
      have h3 : (0 : Int) ≤ (k : Int) ∧ (k : Int) ≤ ((k + m : Nat) : Int) := by omega
      simp [Instr.slice, run_underlying ht, Instr.sliceBounds, Instr.sliceBound, asIntOf, sizeOf, typeInfo, hq, hi, h1, h2, h3]
theorem Bts.room {w : World} {g n cap : Nat} {l : List UInt8} (h : Bts w g n cap l) : n ≤ cap := by
  rcases h.2 with ⟨hx, _⟩ | ⟨g', cap', cur, hx, _, _, hnc, _⟩
  · simp at hx
  · simp only [Value.slice.injEq, Option.some.injEq, Addr.mk.injEq, and_true, true_and] at hx
    obtain ⟨_, rfl⟩ := hx
    exact hnc
theorem Bts.text {w : World} {g n cap : Nat} {l : List UInt8} (h : Bts w g n cap l) (k m : Nat) (hk : k + m ≤ n) (A : Option Addr) (hA : A ≠ none) (hA2 : k < cap → A = some ⟨g, k, none⟩) :
    (convert 39 9 (.slice A m (cap - k))).run Try.prog w = .ok (.string (part l k m)) w := by
  obtain ⟨a, rfl⟩ : ∃ a, A = some a := by cases A with | none => exact absurd rfl hA | some a => exact ⟨a, rfl⟩
  have hlen := h.len
  have hroom := h.room
  have hl : ((l.drop k).take m).length = m := by simp; omega
  have hr := run_convert_bytes_back (P := Try.prog) w 39 9 5 a (cap - k) ((l.drop k).take m) Try.underlying39 Try.underlying5 Try.underlying9 (by
    intro j hj
    rw [hl] at hj
    have ha : a = ⟨g, k, none⟩ := by have := hA2 (by omega); injection this
    subst ha
    have hadd : (⟨g, k, none⟩ : Addr).add j = ⟨g, k + j, none⟩ := by unfold Addr.add; split <;> simp_all
    have hlt : k + j < l.length := by omega
    rw [hadd, h.cellAt (k + j) (by omega)]
    simp [cb, hlt])
  rw [hl] at hr
  exact hr

theorem rread_arg (h : Ref w F n st wait left broke) (k m : Int) (hm : m ≤ 9223372036854775807) (hm' : -9223372036854775808 ≤ m) (hk : hasB n k m = false) :
    Calls Try.prog 14 #[.pointer (some ⟨F.d, 0, none⟩), .int .i64 k, .int .i64 m] w fun e w' => e = .returned (.tuple #[.string ⟨#[]⟩, .int .i64 1]) ∧ w = w' := by
  have HH := Lib.hid (may_any h k m hm hm')
  rw [hk] at HH
  clear h hk
  go_enter Try.func14, Try.ntmps14
  go_wp2_with (go_at_call 28; refine HH.out.mono ?_; rintro e w' ⟨rfl, rfl⟩)
  go_ret2
  exact ⟨rfl, rfl⟩
theorem rread_io (h : Ref w F n st wait left true) (k m : Int) (hm : m ≤ 9223372036854775807) (hm' : -9223372036854775808 ≤ m) (hk : hasB n k m = true) :
    Calls Try.prog 14 #[.pointer (some ⟨F.d, 0, none⟩), .int .i64 k, .int .i64 m] w fun e w' => e = .returned (.tuple #[.string ⟨#[]⟩, .int .i64 18]) ∧ w = w' := by
  have HH := Lib.hid (may_any h k m hm hm')
  rw [hk] at HH
  have c3 := h.c3
  clear h hk
  go_enter Try.func14, Try.ntmps14
  go_wp2_with (go_at_call 28; refine HH.out.mono ?_; rintro e w' ⟨rfl, rfl⟩)
  go_ret2
  exact ⟨rfl, rfl⟩
theorem rread_any (h : Ref w F n st wait left false) (k m : Nat) (hk : k + m ≤ n) :
    Calls Try.prog 14 #[.pointer (some ⟨F.d, 0, none⟩), .int .i64 (k : Int), .int .i64 (m : Int)] w fun e w' => e = .returned (.tuple #[.string (part (Dk.puts st wait) k m), .int .i64 0]) ∧ Below w.heap.size w w' := by
  have hs := h.small
  have HH := Lib.hid (may_any h (k : Int) (m : Int) (by omega) (by omega))
  rw [hasB_yes (by omega) (by omega) (by omega)] at HH
  have c3 := h.c3
  have HN := Lib.hid (now_any h)
  clear h
  go_enter Try.func14, Try.ntmps14
  go_wp2_with fail
  refine HH.out.mono ?_
  rintro e w' ⟨rfl, rfl⟩
  go_wp2_with fail
  refine HN.out.mono ?_
  rintro e w2 ⟨g, cap, rfl, hb, _, hbel⟩
  obtain ⟨A, hA, hA2, hsl⟩ := run_cut_mid_room (P := Try.prog) 39 5 Try.underlying39 u8_size g n cap k m hk hb.room
  have hcv := hb.text k m hk A hA hA2
  clear HH HN hA hA2 c3
  generalize hp : part (Dk.puts st wait) k m = s at hcv
  have HP := Lib.hid hp
  clear hp
  go_wp2_with fail
  go_ret2
  exact ⟨by rw [HP.out]; rfl, hbel⟩

theorem rsync_io (h : Ref w F n st wait left broke) (hb : stepB left broke = true) :
    Calls Try.prog 16 #[.pointer (some ⟨F.d, 0, none⟩)] w fun e w' => e = .returned (.int .i64 18) ∧ RNext w F n st wait (rstepL left broke) true w' := by
  have HS := Lib.hid (rstep_any h)
  unfold RStepPost at HS
  rw [hb] at HS
  clear hb
  go_enter Try.func16, Try.ntmps16
  go_wp2_with fail
  refine HS.out.mono ?_
  rintro e w1 ⟨rfl, hR1, hk1⟩
  go_wp2_with fail
  go_ret
  exact ⟨rfl, F, rfl, hR1, hk1.mono (fun x hx => .inl (.inl hx)), fun x hx => .inl hx⟩

/-- The bytes told anew, no write waiting. -/
theorem Ref.fresh (h : Ref w F n st wait left broke) {w1 : World} (hbel : Below w.heap.size w w1) {g cap : Nat} {l : List UInt8} (hb : Bts w1 g n cap l) (hg : g = F.g ∨ w.heap.size ≤ g) (left' : Int) (broke' : Bool) (hl : 0 ≤ left') (hh : left' ≤ 9223372036854775807) {w2 : World} (hk : Kept (· = F.d) w1 w2)
    (hd : Blk w2 F.d 42 #[.slice (some ⟨g, 0, none⟩) n cap, .slice none 0 0, .int .i64 left', .bool broke']) : RNext w F n l [] left' broke' w2 := by
  have hgd : g ≠ F.d := by
    rcases hg with rfl | hg
    · exact h.bts.ne_ h.blk (by decide)
    · have := h.blk.lt; omega
  refine ⟨⟨F.d, g, cap, .slice none 0 0⟩, rfl, ⟨hd, hb.of (hk.block _ hb.lt hgd), ⟨rfl, .inl ⟨rfl, rfl⟩⟩, (by intro p hp; simp at hp), by simp, h.pos, h.small, hl, hh⟩, ?_, ?_⟩
  · exact (Kept.of_below (S := F.has) hbel).trans hk (fun x hx => .inl (.inl hx))
  · rintro x (rfl | rfl | hx)
    · exact .inl (.inl rfl)
    · rcases hg with e | e
      · exact .inl (.inr (.inl e))
      · exact .inr e
    · simp [Value.ownBlock] at hx

theorem rsync_any (h : Ref w F n st wait left broke) (hb : stepB left broke = false) :
    Calls Try.prog 16 #[.pointer (some ⟨F.d, 0, none⟩)] w fun e w' => e = .returned (.int .i64 0) ∧ RNext w F n (Dk.puts st wait) [] (rstepL left broke) false w' := by
  have HS := Lib.hid (rstep_any h)
  unfold RStepPost at HS
  rw [hb] at HS
  have HB := Lib.hid hb
  clear hb
  go_enter Try.func16, Try.ntmps16
  go_wp2_with fail
  refine HS.out.mono ?_
  rintro e w1 ⟨rfl, hR1, hk1⟩
  have HN := Lib.hid (now_any hR1)
  go_wp2_with fail
  refine HN.out.mono ?_
  rintro e w2 ⟨g, cap, rfl, hb2, hg2, hbel2⟩
  have hR2 := hR1.below hbel2
  have c0 := hR2.c0
  have c1 := hR2.c1
  have f0 := hR2.fr 0
  have f1 := hR2.fr 1
  have k3 : Kept (· = F.d) w2 ((w2.setCell ⟨F.d, 0, none⟩ (.slice (some ⟨g, 0, none⟩) n cap)).setCell ⟨F.d, 1, none⟩ (.slice none 0 0)) := ((Kept.refl _ w2).here 0 _).here 1 _
  have hN := Lib.hid (hR1.fresh hbel2 hb2 hg2 _ _ hR1.low hR1.high k3 ((hR2.blk.set_ 0 _).set_ 1 _))
  clear HS HN hb2 hR2 k3
  go_wp2_with fail
  go_ret
  obtain ⟨F', e1, e2, e3, e4⟩ := hN.out
  refine ⟨rfl, F', e1, e2, (hk1.mono (T := F.has) (fun x hx => .inl (.inl hx))).trans e3 (fun x hx => .inl hx), fun x hx => ?_⟩
  rcases e4 x hx with h1 | h1
  · exact .inl h1
  · exact .inr (Nat.le_trans hk1.size h1)
end
end Go.Proofs.Ytlifaegmidgcnaa
