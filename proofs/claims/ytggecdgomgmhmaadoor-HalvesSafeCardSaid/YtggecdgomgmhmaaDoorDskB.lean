/-
  Contracts of package disk: Read, Write, Pending. Condition: the disk lies in memory as New lays it; fewer than 1000 writes are pending.
-/
import Derived.Test.YtggecdgomgmhmaaDoorDskA
namespace Go.Proofs.YtggecdgomgmhmaaDoor
open Go.RowKit
section
variable {w : World} {F : Foot} {n : Nat} {dur lat : List UInt8} {pend : List (Nat × ByteArray)} {left : Int} {broken : Bool}

/-- m bytes from k on. -/
def part (l : List UInt8) (k m : Nat) : ByteArray := ⟨((l.drop k).take m).toArray⟩
theorem part_size (l : List UInt8) (k m : Nat) (h : k + m ≤ l.length) : (part l k m).size = m := by
  show ((l.drop k).take m).toArray.size = m
  simp
  omega
theorem run_text (h : Raw w F n dur lat pend left broken) (k m : Nat) (hk : k + m ≤ n) (A : Option Addr) (hA : A ≠ none) (hA2 : k < n → A = some ⟨F.g2, k, none⟩) :
    (convert 51 9 (.slice A m (n - k))).run Tryd.prog w = .ok (.string (part lat k m)) w := by
  obtain ⟨a, rfl⟩ : ∃ a, A = some a := by cases A with | none => exact absurd rfl hA | some a => exact ⟨a, rfl⟩
  have hl : ((lat.drop k).take m).length = m := by simp [h.nlat]; omega
  have hr := run_convert_bytes_back (P := Tryd.prog) w 51 9 5 a (n - k) ((lat.drop k).take m) Tryd.underlying51 Tryd.underlying5 Tryd.underlying9 (by
    intro j hj
    rw [hl] at hj
    have ha : a = ⟨F.g2, k, none⟩ := by have := hA2 (by omega); injection this
    subst ha
    have hadd : (⟨F.g2, k, none⟩ : Addr).add j = ⟨F.g2, k + j, none⟩ := by unfold Addr.add; split <;> simp_all
    have hlt : k + j < lat.length := by rw [h.nlat]; omega
    rw [hadd, h.g2.cell]
    simp [cb, hlt])
  rw [hl] at hr
  exact hr

theorem read_ok (h : Raw w F n dur lat pend left false) (k m : Nat) (hk : k + m ≤ n) :
    Calls Tryd.prog 36 #[.pointer (some ⟨F.d, 0, none⟩), .int .i64 (k : Int), .int .i64 (m : Int)] w fun e w' => e = .returned (.tuple #[.string (part lat k m), .int .i64 0]) ∧ w = w' := by
  obtain ⟨A, hA, hA2, hsl⟩ := run_cut_mid (P := Tryd.prog) 51 5 Tryd.underlying51 u8_size F.g2 n k m hk
  have hcv := run_text h k m hk A hA hA2
  have hs := h.small
  have HH := Lib.hid (has_any h (k : Int) (m : Int) (by omega) (by omega))
  rw [hasB_yes (by omega) (by omega) (by omega)] at HH
  have c1 := h.c1
  have c4 := h.c4
  clear h hA hA2
  generalize part lat k m = s at hcv ⊢
  go_enter Tryd.func36, Tryd.ntmps36
  go_wp2_with (go_at_call 50; refine HH.out.mono ?_; rintro e w' ⟨rfl, rfl⟩)
  go_ret2
  exact ⟨rfl, rfl⟩
theorem read_arg (h : Raw w F n dur lat pend left broken) (k m : Int) (hm : m ≤ 9223372036854775807) (hm' : -9223372036854775808 ≤ m) (hk : hasB n k m = false) :
    Calls Tryd.prog 36 #[.pointer (some ⟨F.d, 0, none⟩), .int .i64 k, .int .i64 m] w fun e w' => e = .returned (.tuple #[.string ⟨#[]⟩, .int .i64 1]) ∧ w = w' := by
  have HH := Lib.hid (has_any h k m hm hm')
  rw [hk] at HH
  clear h hk
  go_enter Tryd.func36, Tryd.ntmps36
  go_wp2_with (go_at_call 50; refine HH.out.mono ?_; rintro e w' ⟨rfl, rfl⟩)
  go_ret2
  exact ⟨rfl, rfl⟩
theorem read_io (h : Raw w F n dur lat pend left true) (k m : Int) (hm : m ≤ 9223372036854775807) (hm' : -9223372036854775808 ≤ m) (hk : hasB n k m = true) :
    Calls Tryd.prog 36 #[.pointer (some ⟨F.d, 0, none⟩), .int .i64 k, .int .i64 m] w fun e w' => e = .returned (.tuple #[.string ⟨#[]⟩, .int .i64 18]) ∧ w = w' := by
  have HH := Lib.hid (has_any h k m hm hm')
  rw [hk] at HH
  have c4 := h.c4
  clear h hk
  go_enter Tryd.func36, Tryd.ntmps36
  go_wp2_with (go_at_call 50; refine HH.out.mono ?_; rintro e w' ⟨rfl, rfl⟩)
  go_ret2
  exact ⟨rfl, rfl⟩
theorem read_nil (w : World) (k m : Int) :
    Calls Tryd.prog 36 #[.pointer none, .int .i64 k, .int .i64 m] w fun e w' => e = .returned (.tuple #[.string ⟨#[]⟩, .int .i64 1]) ∧ w = w' := by
  have HH := Lib.hid (has_nil w k m)
  go_enter Tryd.func36, Tryd.ntmps36
  go_wp2_with (go_at_call 50; refine HH.out.mono ?_; rintro e w' ⟨rfl, rfl⟩)
  go_ret2
  exact ⟨rfl, rfl⟩

theorem write_arg (h : Raw w F n dur lat pend left broken) (k : Int) (s : ByteArray) (hs : s.size ≤ maxLen) (hk : hasB n k (s.size : Int) = false) :
    Calls Tryd.prog 43 #[.pointer (some ⟨F.d, 0, none⟩), .int .i64 k, .string s] w fun e w' => e = .returned (.int .i64 1) ∧ w = w' := by
  unfold maxLen at hs
  have HH := Lib.hid (has_any h k (s.size : Int) (by omega) (by omega))
  rw [hk] at HH
  clear h hk
  go_enter Tryd.func43, Tryd.ntmps43
  go_wp2_with (go_at_call 50; refine HH.out.mono ?_; rintro e w' ⟨rfl, rfl⟩)
  go_ret
  exact ⟨rfl, rfl⟩
theorem write_io (h : Raw w F n dur lat pend left true) (k : Int) (s : ByteArray) (hs : s.size ≤ maxLen) (hk : hasB n k (s.size : Int) = true) :
    Calls Tryd.prog 43 #[.pointer (some ⟨F.d, 0, none⟩), .int .i64 k, .string s] w fun e w' => e = .returned (.int .i64 18) ∧ w = w' := by
  unfold maxLen at hs
  have HH := Lib.hid (has_any h k (s.size : Int) (by omega) (by omega))
  rw [hk] at HH
  have c4 := h.c4
  clear h hk
  go_enter Tryd.func43, Tryd.ntmps43
  go_wp2_with (go_at_call 50; refine HH.out.mono ?_; rintro e w' ⟨rfl, rfl⟩)
  go_ret
  exact ⟨rfl, rfl⟩
theorem write_nil (w : World) (k : Int) (s : ByteArray) (_hs : s.size ≤ maxLen) :
    Calls Tryd.prog 43 #[.pointer none, .int .i64 k, .string s] w fun e w' => e = .returned (.int .i64 1) ∧ w = w' := by
  have HH := Lib.hid (has_nil w k (s.size : Int))
  go_enter Tryd.func43, Tryd.ntmps43
  go_wp2_with (go_at_call 50; refine HH.out.mono ?_; rintro e w' ⟨rfl, rfl⟩)
  go_ret
  exact ⟨rfl, rfl⟩

/-- What a call on a disk leaves: a disk at the same place, whose list of writes may lie in new memory; nothing else has turned. -/
def Next (w : World) (F : Foot) (n : Nat) (dur lat : List UInt8) (pend : List (Nat × ByteArray)) (left : Int) (broken : Bool) (w' : World) : Prop :=
  ∃ F' : Foot, F'.d = F.d ∧ Raw w' F' n dur lat pend left broken ∧ Kept F.has w w' ∧ ∀ x, F'.has x → F.has x ∨ w.heap.size ≤ x

theorem wr_info : (Tryd.prog.info? 89).map (fun i => (i.zero, i.size, i.bytes)) = some (some (.agg #[.int .i64 0, .string ⟨#[]⟩]), 2, 24) := by kernel_rfl

def WritePost (w : World) (F : Foot) (n : Nat) (dur lat : List UInt8) (pend : List (Nat × ByteArray)) (left : Int) (k : Nat) (s : ByteArray) (e : Ending) (w' : World) : Prop :=
  e = .returned (.int .i64 (errOf (stepB left false))) ∧ Next w F n dur (Dk.put lat k s.data.toList) (pend ++ [(k, s)]) (stepL left) (stepB left false) w'

theorem Raw.relat (h : Raw w F n dur lat pend left broken) (lat' : List UInt8) (hl : lat'.length = n) : Raw (w.setRow F.g2 (cb lat').toArray) F n dur lat' pend left broken :=
  ⟨h.blk.rowFar (h.blk.ne_ h.g2 (by decide)) _, h.g1.rowFar h.ne _, h.g2.row _, h.ne, own_of h.own (fun b e => setRow_other w F.g2 b _ (fun e' => own_blk_ne h.own h.g2 (by decide) (by rw [e, e']))), h.ndur, hl, h.within, h.few, h.small, h.low, h.high⟩
theorem Raw.redur (h : Raw w F n dur lat pend left broken) (dur' : List UInt8) (hl : dur'.length = n) : Raw (w.setRow F.g1 (cb dur').toArray) F n dur' lat pend left broken :=
  ⟨h.blk.rowFar (h.blk.ne_ h.g1 (by decide)) _, h.g1.row _, h.g2.rowFar (fun e => h.ne e.symm) _, h.ne, own_of h.own (fun b e => setRow_other w F.g1 b _ (fun e' => own_blk_ne h.own h.g1 (by decide) (by rw [e, e']))), hl, h.nlat, h.within, h.few, h.small, h.low, h.high⟩

theorem Raw.grow (h : Raw w F n dur lat pend left broken) (k : Nat) (s : ByteArray) (hk : k + s.size ≤ n) (hp : pend.length < 1000) (o : Obj) {w1 : World} {v' : Value} {g : Nat}
    (hown : w1.ownsRow 0 89 2 v' (pend.length + 1) (pc pend ++ [.int .i64 (k : Int), .string s])) (hv : v'.ownBlock = some g) (hgrow : (w.alloc o).grownBy w1 F.pv.ownBlock) (hat : F.pv.ownBlock = some g ∨ g = w.heap.size + 1) :
    Raw (w1.setCell ⟨F.d, 2, none⟩ v') ⟨F.d, F.g1, F.g2, v'⟩ n dur lat (pend ++ [(k, s)]) left broken ∧ Kept F.has w (w1.setCell ⟨F.d, 2, none⟩ v') ∧ ∀ x, Foot.has ⟨F.d, F.g1, F.g2, v'⟩ x → F.has x ∨ w.heap.size ≤ x := by
  have old : ∀ {b : Nat} {t : TypeId} {cs : Array Value}, Blk w b t cs → 89 ≠ t → Blk w1 b t cs := fun hb hne =>
    (hb.alloc o).of (hgrow.block _ (hb.alloc o).lt (fun e => own_blk_ne h.own hb hne e.symm))
  have hd := old h.blk (by decide)
  have hne : F.d ≠ F.g1 := h.blk.ne_ h.g1 (by decide)
  have hne2 : F.d ≠ F.g2 := h.blk.ne_ h.g2 (by decide)
  refine ⟨⟨hd.set_ 2 v', (old h.g1 (by decide)).far (fun e => hne e.symm) _, (old h.g2 (by decide)).far (fun e => hne2 e.symm) _, h.ne, ?_, h.ndur, h.nlat, ?_, by simp; omega, h.small, h.low, h.high⟩, ?_, ?_⟩
  · have hpc : pc (pend ++ [(k, s)]) = pc pend ++ [.int .i64 (k : Int), .string s] := by simp [pc]
    have hln : (pend ++ [(k, s)]).length = pend.length + 1 := by simp
    rw [hpc, hln]
    exact own_of hown (fun b e => Below.heap_setCell _ _ _ _ (fun e' => own_blk_ne hown hd (by decide) (by rw [e, e'])))
  · intro p hp
    rcases List.mem_append.1 hp with hp | hp
    · exact h.within p hp
    · simp at hp
      subst hp
      exact hk
  · have k1 : Kept F.has w (w.alloc o) := (Kept.refl _ w).alloc o
    exact (k1.grown hgrow (fun x hx => .inl (.inr (.inr (.inr hx))))).setCell (p := ⟨F.d, 2, none⟩) (.inl (.inl rfl)) _
  · rintro x (rfl | rfl | rfl | hx)
    · exact .inl (.inl rfl)
    · exact .inl (.inr (.inl rfl))
    · exact .inl (.inr (.inr (.inl rfl)))
    · have hx' : v'.ownBlock = some x := hx
      rw [hv] at hx'
      have : g = x := by injection hx'
      subst this
      rcases hat with hat | hat
      · exact .inl (.inr (.inr (.inr hat)))
      · exact .inr (by omega)

theorem write_any (h : Raw w F n dur lat pend left false) (k : Nat) (s : ByteArray) (hk : k + s.size ≤ n) (hp : pend.length < 1000) :
    Calls Tryd.prog 43 #[.pointer (some ⟨F.d, 0, none⟩), .int .i64 (k : Int), .string s] w (WritePost w F n dur lat pend left k s) := by
  obtain ⟨i0, hi0, hz0, hz1, hz2⟩ := info_parts wr_info
  obtain ⟨A, hA, hsl⟩ := run_cut_from (P := Tryd.prog) 51 5 Tryd.underlying51 u8_size F.g2 n k (by omega)
  have hs := h.small
  have HH := Lib.hid (has_any h (k : Int) (s.size : Int) (by omega) (by omega))
  rw [hasB_yes (by omega) (by omega) (by omega)] at HH
  have c1 := h.c1
  have c2 := h.c2
  have c4 := h.c4
  have HI := Lib.hid hi0
  have HZ := Lib.hid hz0
  have HZ1 := Lib.hid hz1
  have HZ2 := Lib.hid hz2
  have HA := Lib.hid hA
  have hown0 : (w.alloc (.cells #[.int .i64 (k : Int), .string s] 89)).ownsRow 0 89 2 F.pv pend.length (pc pend) := own_of h.own (fun b e => Below.heap_alloc _ _ _ (own_lt h.own e))
  have hblk0 := Blk.new w 89 #[.int .i64 (k : Int), .string s]
  clear hi0 hz0 hz1 hz2 hA
  go_enter Tryd.func43, Tryd.ntmps43
  go_wp2_with (first
    | (go_at_call 50; refine HH.out.mono ?_; rintro e w' ⟨rfl, rfl⟩)
    | (at_builtin
       refine wpList_append_lies _ rfl (.tmp 21) (.tmp 25) 52 rfl 0 89 i0 _ 2 24 Tryd.underlying52 HI.out HZ.out HZ1.out HZ2.out rfl (by decide) F.pv pend.length (pc pend) rfl hown0 ⟨w.heap.size, 0, none⟩ 1 1 [.int .i64 (k : Int), .string s] rfl rfl (World.news_of_block hblk0) (by intro u hu; simp at hu; rcases hu with rfl | rfl <;> rfl) (by omega) (by unfold maxLen; omega) (by omega) (by omega) (w.heap.size + 1) (by simp) ?_
       intro g cap w1 hown1 hgrow hat hlt
       obtain ⟨hR2, hK2, hF2⟩ := h.grow k s hk hp _ hown1 rfl hgrow hat
       have hb1 : Blk w1 F.d 54 _ := (h.blk.alloc _).of (hgrow.block _ (h.blk.alloc _).lt (fun e => own_blk_ne h.own h.blk (by decide) e.symm))
       have d1 := hb1.cell 1
       have d2 := hb1.cell 2
       have f2 := hb1.frozen 2
       have hR3 := hR2.relat (Dk.put lat k s.data.toList) (by rw [Dk.put_length _ _ _ (by rw [h.nlat]; simpa using hk), h.nlat])
       have hcp := run_copy_text (P := Tryd.prog) _ 51 9 3 5 Tryd.underlying51 u8_size A (n - k) (n - k) s (by omega) F.g2 k lat 5 hR2.g2 (fun h0 => HA.out (by omega)) (by rw [h.nlat]; exact hk)
       have HS := Lib.hid (step_any hR3)
       have HK3 := Lib.hid (hK2.setRow (g := F.g2) (.inl (.inr (.inr (.inl rfl)))) (cb (Dk.put lat k s.data.toList)).toArray)
       clear hb1 hgrow hown1 hR2 hR3 c1 c2 c4 hown0 hblk0 HH)
    | (go_at_call 46; refine HS.out.mono ?_; rintro e w' ⟨rfl, hR4, hk4⟩))
  go_ret
  exact ⟨rfl, ⟨F.d, F.g1, F.g2, .slice (some ⟨g, 0, none⟩) (pend.length + 1) cap⟩, rfl, hR4, HK3.out.trans hk4 (fun x hx => .inl (.inl hx)), hF2⟩

theorem pc_len (ps : List (Nat × ByteArray)) : (pc ps).length = ps.length * 2 := by
  induction ps with
  | nil => rfl
  | cons p r ih =>
    have : pc (p :: r) = [.int .i64 (p.1 : Int), .string p.2] ++ pc r := by simp [pc]
    rw [this, List.length_append, ih]
    simp
    omega
theorem pc_get (ps : List (Nat × ByteArray)) : ∀ (i : Nat) (h : i < ps.length), (pc ps)[i * 2]? = some (.int .i64 (ps[i].1 : Int)) ∧ (pc ps)[i * 2 + 1]? = some (.string ps[i].2) := by
  induction ps with
  | nil => intro i h; simp at h
  | cons p r ih =>
    intro i h
    have hc : pc (p :: r) = .int .i64 (p.1 : Int) :: .string p.2 :: pc r := by simp [pc]
    rw [hc]
    cases i with
    | zero => exact ⟨rfl, rfl⟩
    | succ i =>
      have h' : i < r.length := by simpa using h
      have := ih i h'
      rw [show (i + 1) * 2 = i * 2 + 1 + 1 by omega]
      simpa using this
/-- The cells of a pending write. -/
theorem Raw.pcell (h : Raw w F n dur lat pend left broken) (i : Nat) (hi : i < pend.length) :
    ∃ g cap, F.pv = .slice (some ⟨g, 0, none⟩) pend.length cap ∧ w.cell? ⟨g, i * 2, none⟩ = some (.int .i64 (pend[i].1 : Int)) ∧ w.cell? ⟨g, i * 2 + 1, none⟩ = some (.string pend[i].2) ∧ F.pv.ownBlock = some g := by
  rcases h.own.2 with ⟨_, h0⟩ | ⟨g, cap, cur, hv, _, hh, hnc, _, hcs, ht⟩
  · omega
  · have hx := pc_get pend i hi
    have hl := pc_len pend
    have hb : Blk w g 89 cur := hh
    refine ⟨g, cap, hv, ?_, ?_, by rw [hv]; rfl⟩
    · rw [hb.cell, ← hx.1, ← ht, List.getElem?_take, if_pos (by omega)]
      simp
    · rw [hb.cell, ← hx.2, ← ht, List.getElem?_take, if_pos (by omega)]
      simp

theorem pend_nil_form (h : Raw w F n dur lat pend left broken) (h0 : pend.length = 0) : F.pv = .slice none 0 0 ∨ ∃ g cap, F.pv = .slice (some ⟨g, 0, none⟩) 0 cap := by
  rcases h.own.2 with ⟨hv, _⟩ | ⟨g, cap, cur, hv, _⟩
  · exact .inl hv
  · exact .inr ⟨g, cap, by rw [hv, h0]⟩
theorem pv_form (h : Raw w F n dur lat pend left broken) : ∃ A cap, F.pv = .slice A pend.length cap := by
  rcases h.own.2 with ⟨hv, h0⟩ | ⟨g, cap, cur, hv, _⟩
  · exact ⟨none, 0, by rw [hv, h0]⟩
  · exact ⟨_, cap, hv⟩

end
end Go.Proofs.YtggecdgomgmhmaaDoor
