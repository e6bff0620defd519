/-
  Contracts of the law's helpers: awake, short, few, Same. Condition: their arguments lie in memory.
-/
import Derived.Test.YtkfkaijaenjngaaPackC
import Derived.Deep.QuietTactic
import Derived.BigQuiet
namespace Go.Proofs.Ytkfkaijaenjngaa
open Go.RowKit

theorem WrAt.new (w : World) : WrAt (w.alloc (.cells #[.slice none 0 0] 31)) w.heap.size (.slice none 0 0) [] :=
  ⟨Blk.new w _ _, World.ownsRow_nil _ _ _ _⟩
theorem foot_new {d k : Nat} (h : foot d (.slice none 0 0) k) : k = d := by
  rcases h with h | h
  · exact h
  · cases h
/-- One value in a block of its own. -/
theorem Lies.one {S : Nat → Prop} (w : World) (t : TypeId) (u : Value) (hS : ∀ k, S k → k < w.heap.size) : Lies S (w.alloc (.cells #[u] t)) (some ⟨w.heap.size, 0, .none⟩) [u] := by
  intro i x hi
  have hi' := (List.getElem?_eq_some_iff.1 hi).1
  have : i = 0 := by simp at hi'; omega
  subst this
  refine ⟨_, rfl, by simp, fun hf => by have := hS _ hf; simp at this, ?_⟩
  rw [show (⟨w.heap.size, 0, .none⟩ : Addr).add 0 = ⟨w.heap.size, 0, .none⟩ from rfl, (Blk.new w t _).cell]
  simpa using hi

/-- A writer of the law's own. -/
structure Wr (B : Nat) (W w : World) (d : Nat) (v : Value) (l : List UInt8) : Prop where
  at_ : WrAt w d v l
  bel : Below B W w
  low : B ≤ w.heap.size
  foot : ∀ k, foot d v k → B ≤ k
section
variable {B d : Nat} {W w w' : World} {v : Value} {l : List UInt8}
theorem Wr.alloc (h : Wr B W w d v l) (o : Obj) : Wr B W (w.alloc o) d v l :=
  ⟨h.at_.below ((Below.refl _ w).alloc (Nat.le_refl _) o), h.bel.alloc h.low o, by have := h.low; simp; omega, h.foot⟩
theorem Wr.new (hb : Below B W w) (hl : B ≤ w.heap.size) : Wr B W (w.alloc (.cells #[.slice none 0 0] 31)) w.heap.size (.slice none 0 0) [] :=
  ⟨WrAt.new w, hb.alloc hl _, by simp; omega, fun k hk => by rw [foot_new hk]; exact hl⟩
theorem Wr.after (h : Wr B W w d v l) (hb : Below w.heap.size w w') : Wr B W w' d v l :=
  ⟨h.at_.below hb, h.bel.trans ⟨hb.os, hb.tape, hb.output, hb.size, fun k hk => hb.block k (by have := h.low; omega)⟩, Nat.le_trans h.low hb.size, h.foot⟩
theorem Wr.kept {S : Nat → Prop} (h : Wr B W w d v l) (hk : Kept S w w') (hS : ∀ k, S k → B ≤ k) (hf : ∀ k, Go.Proofs.Ytkfkaijaenjngaa.foot d v k → ¬ S k) : Wr B W w' d v l :=
  ⟨h.at_.kept hk hf, Kept.below h.bel hk hS h.low, Nat.le_trans h.low hk.size, h.foot⟩
theorem Wr.wrote {l' : List UInt8} (h : Wr B W w d v l) (hw : Wrote w d v l' w') : ∃ v', Wr B W w' d v' l' ∧ Kept (Go.Proofs.Ytkfkaijaenjngaa.foot d v) w w' ∧ ∀ k, Go.Proofs.Ytkfkaijaenjngaa.foot d v' k → Go.Proofs.Ytkfkaijaenjngaa.foot d v k ∨ w.heap.size ≤ k := by
  obtain ⟨v', h1, h2, h3⟩ := hw
  refine ⟨v', ⟨h1, Kept.below h.bel h2 h.foot h.low, Nat.le_trans h.low h2.size, fun k hk => ?_⟩, h2, h3⟩
  rcases h3 k hk with e | e
  · exact h.foot k e
  · exact Nat.le_trans h.low e
theorem wnum_on (h : Wr B W w d v l) (A : Option Addr) (c : Nat) (ns : List Nat) (hns : ∀ n ∈ ns, n ≤ 18446744073709551615) (hA : Lies (Go.Proofs.Ytkfkaijaenjngaa.foot d v) w A (cn ns)) (hl : l.length + 10 * ns.length ≤ 1000000) :
    Calls Try.prog 11 #[.pointer (some ⟨d, 0, none⟩), .slice A ns.length c] w fun e w' => e = .returned (.pointer (some ⟨d, 0, none⟩)) ∧ ∃ v', Wr B W w' d v' (l ++ nums ns) ∧ Kept (Go.Proofs.Ytkfkaijaenjngaa.foot d v) w w' ∧ ∀ k, Go.Proofs.Ytkfkaijaenjngaa.foot d v' k → Go.Proofs.Ytkfkaijaenjngaa.foot d v k ∨ w.heap.size ≤ k :=
  (wnum_any w d v l h.at_ A c ns hns hA hl).mono fun _ _ ⟨he, hw⟩ => ⟨he, h.wrote hw⟩
theorem wtext_on (h : Wr B W w d v l) (A : Option Addr) (c : Nat) (ss : List ByteArray) (hns : ∀ s ∈ ss, s.size ≤ 1000) (hA : Lies (Go.Proofs.Ytkfkaijaenjngaa.foot d v) w A (cs ss)) (hl : l.length + 1010 * ss.length ≤ 900000) :
    Calls Try.prog 13 #[.pointer (some ⟨d, 0, none⟩), .slice A ss.length c] w fun e w' => e = .returned (.pointer (some ⟨d, 0, none⟩)) ∧ ∃ v', Wr B W w' d v' (l ++ Pk.texts (tx ss)) ∧ Kept (Go.Proofs.Ytkfkaijaenjngaa.foot d v) w w' ∧ ∀ k, Go.Proofs.Ytkfkaijaenjngaa.foot d v' k → Go.Proofs.Ytkfkaijaenjngaa.foot d v k ∨ w.heap.size ≤ k :=
  (wtext_any w d v l h.at_ A c ss hns hA hl).mono fun _ _ ⟨he, hw⟩ => ⟨he, h.wrote hw⟩
theorem wrow_on (h : Wr B W w d v l) (A : Option Addr) (c : Nat) (ss : List ByteArray) (hns : ∀ s ∈ ss, s.size ≤ 1000) (hA : Lies (Go.Proofs.Ytkfkaijaenjngaa.foot d v) w A (cs ss)) (hl : l.length + 1010 * ss.length ≤ 800000) :
    Calls Try.prog 14 #[.pointer (some ⟨d, 0, none⟩), .slice A ss.length c] w fun e w' => e = .returned (.pointer (some ⟨d, 0, none⟩)) ∧ ∃ v', Wr B W w' d v' (l ++ Pk.row (tx ss)) ∧ Kept (Go.Proofs.Ytkfkaijaenjngaa.foot d v) w w' ∧ ∀ k, Go.Proofs.Ytkfkaijaenjngaa.foot d v' k → Go.Proofs.Ytkfkaijaenjngaa.foot d v k ∨ w.heap.size ≤ k :=
  (wrow_any w d v l h.at_ A c ss hns hA hl).mono fun _ _ ⟨he, hw⟩ => ⟨he, h.wrote hw⟩
/-- One number. -/
theorem wnum_one (h : Wr B W w d v l) (n : Nat) (z : Int) (hz : z = (n : Int)) (H : Nat) (hH : w.heap.size = H) (hn : n ≤ 18446744073709551615) (hl : l.length + 10 ≤ 1000000) :
    Calls Try.prog 11 #[.pointer (some ⟨d, 0, none⟩), .slice (some ⟨H, 0, none⟩) 1 1] (w.alloc (.cells #[.int .u64 z] 33)) fun e w' => e = .returned (.pointer (some ⟨d, 0, none⟩)) ∧ ∃ v', Wr B W w' d v' (l ++ Pk.num n) ∧ Kept (Go.Proofs.Ytkfkaijaenjngaa.foot d v) w w' ∧ ∀ k, Go.Proofs.Ytkfkaijaenjngaa.foot d v' k → Go.Proofs.Ytkfkaijaenjngaa.foot d v k ∨ w.heap.size ≤ k := by
  subst hz
  subst hH
  refine (wnum_on (h.alloc _) _ 1 [n] (by simpa using hn) (Lies.one w 33 (.int .u64 (n : Int)) (fun k hk => h.at_.lt k hk)) (by simpa using hl)).mono ?_
  rintro e w' ⟨he, v', h1, h2, h3⟩
  refine ⟨he, v', by simpa [nums] using h1, ?_, fun k hk => ?_⟩
  · exact ((Kept.refl _ w).alloc _).trans h2 (fun x hx => .inl hx)
  · rcases h3 k hk with e | e
    · exact .inl e
    · simp at e; exact .inr (by omega)
/-- One text. -/
theorem wtext_one (h : Wr B W w d v l) (s : ByteArray) (H : Nat) (hH : w.heap.size = H) (hn : s.size ≤ 1000) (hl : l.length + 1010 ≤ 900000) :
    Calls Try.prog 13 #[.pointer (some ⟨d, 0, none⟩), .slice (some ⟨H, 0, none⟩) 1 1] (w.alloc (.cells #[.string s] 9)) fun e w' => e = .returned (.pointer (some ⟨d, 0, none⟩)) ∧ ∃ v', Wr B W w' d v' (l ++ Pk.text s.data.toList) ∧ Kept (Go.Proofs.Ytkfkaijaenjngaa.foot d v) w w' ∧ ∀ k, Go.Proofs.Ytkfkaijaenjngaa.foot d v' k → Go.Proofs.Ytkfkaijaenjngaa.foot d v k ∨ w.heap.size ≤ k := by
  subst hH
  refine (wtext_on (h.alloc _) _ 1 [s] (by simpa using hn) (Lies.one w 9 (.string s) (fun k hk => h.at_.lt k hk)) (by simpa using hl)).mono ?_
  rintro e w' ⟨he, v', h1, h2, h3⟩
  refine ⟨he, v', by simpa [tx, Pk.texts] using h1, ?_, fun k hk => ?_⟩
  · exact ((Kept.refl _ w).alloc _).trans h2 (fun x hx => .inl hx)
  · rcases h3 k hk with e | e
    · exact .inl e
    · simp at e; exact .inr (by omega)
theorem str_on (h : Wr B W w d v l) :
    Calls Try.prog 17 #[.pointer (some ⟨d, 0, none⟩)] w fun e w' => e = .returned (.string (ba l)) ∧ w = w' := str_any w d v l h.at_
end

def ab : ByteArray := ⟨#[97, 98]⟩
theorem awake_str : ba (([] ++ Pk.num 300) ++ Pk.text ab.data.toList) = ⟨#[172, 2, 2, 97, 98]⟩ := by decide +kernel
theorem awake_any (w : World) :
    Calls Try.prog 9 #[] w fun e w' => e = .returned (.bool true) ∧ Below w.heap.size w w' := by
  have h0 : Wr w.heap.size w _ _ _ _ := Wr.new (w := w) (Below.refl _ w) (Nat.le_refl _)
  have HC := Lib.hid (wnum_one h0 300 300 rfl (w.heap.size + 1) (by simp) (by omega) (by decide))
  have HT := Lib.hid awake_str
  clear h0
  go_enter Try.func9, Try.ntmps9
  go_wp2_with fail
  refine HC.out.mono ?_
  rintro e w1 ⟨rfl, v1, h1, _, _⟩
  have HD := Lib.hid (wtext_one h1 ab _ rfl (by decide) (by have := Pk.num_len_le 300 (by omega); simp; omega))
  clear HC h1
  go_wp2_with fail
  refine HD.out.mono ?_
  rintro e w2 ⟨rfl, v2, h2, _, _⟩
  have HS := Lib.hid (str_on h2)
  rw [HT.out] at HS
  have HB := Lib.hid h2.bel
  clear HD h2 HT
  go_wp2_with fail
  refine HS.out.mono ?_
  rintro e w3 ⟨rfl, rfl⟩
  clear HS
  go_wp2_with fail
  go_ret
  exact ⟨rfl, HB.out⟩

theorem short_cut (s : ByteArray) (n : Nat) (_hs : s.size ≤ maxLen) (h : n < s.size) (w : World) :
    Calls Try.prog 18 #[.string s, .int .i64 (n : Int)] w fun e w' => e = .returned (.string (s.extract 0 n)) ∧ w = w' := by
  unfold maxLen at _hs
  go_enter Try.func18, Try.ntmps18
  go_wp2
  go_ret
  exact ⟨rfl, rfl⟩
theorem short_all (s : ByteArray) (n : Nat) (_hs : s.size ≤ maxLen) (h : s.size ≤ n) (w : World) :
    Calls Try.prog 18 #[.string s, .int .i64 (n : Int)] w fun e w' => e = .returned (.string s) ∧ w = w' := by
  unfold maxLen at _hs
  go_enter Try.func18, Try.ntmps18
  go_wp2
  go_ret
  exact ⟨rfl, rfl⟩
/-- A text of at most n bytes. -/
def cut (s : ByteArray) (n : Nat) : ByteArray := if n < s.size then s.extract 0 n else s
theorem cut_size (s : ByteArray) (n : Nat) : (cut s n).size ≤ n := by
  unfold cut
  split
  · simp; omega
  · omega
theorem short_any (s : ByteArray) (n : Nat) (hs : s.size ≤ maxLen) (w : World) :
    Calls Try.prog 18 #[.string s, .int .i64 (n : Int)] w fun e w' => e = .returned (.string (cut s n)) ∧ w = w' := by
  unfold cut
  by_cases h : n < s.size
  · rw [if_pos h]; exact short_cut s n hs h w
  · rw [if_neg h]; exact short_all s n hs (by omega) w

theorem own_base {w : World} {base : Nat} {e : TypeId} {size n : Nat} {v : Value} {xs : List Value} (h : w.ownsRow base e size v n xs) {b : Nat} (hb : v.ownBlock = some b) : base ≤ b := by
  rcases h.2 with ⟨rfl, _⟩ | ⟨g', cap, cur, rfl, hl, _⟩
  · simp [Value.ownBlock] at hb
  · have : g' = b := by simpa [Value.ownBlock] using hb
    omega
/-- What few answers. -/
def fw (l : List ByteArray) : List ByteArray := (l.take 8).map (cut · 200)
theorem fw_len (l : List ByteArray) : (fw l).length ≤ 8 := by simp [fw]; omega
theorem fw_size (l : List ByteArray) : ∀ s ∈ fw l, s.size ≤ 200 := by
  intro s hs
  obtain ⟨t, _, rfl⟩ := List.mem_map.1 hs
  exact cut_size t 200
theorem exists_list {α : Type} {n : Nat} {P : Nat → α → Prop} (h : ∀ i, i < n → ∃ s, P i s) : ∃ l : List α, l.length = n ∧ ∀ i (hi : i < l.length), P i l[i] := by
  refine ⟨List.ofFn fun i : Fin n => (h i.1 i.2).choose, by simp, fun i hi => ?_⟩
  rw [List.getElem_ofFn]
  exact (h i (by simpa using hi)).choose_spec

/-- Where the loop of few stands. -/
def FewRel (w : World) (l : List ByteArray) (x y : Value) (wr : World) : Prop :=
  ∃ (j : Nat) (A : Option Addr) (c : Nat), j ≤ l.length ∧ j ≤ 8 ∧ y = .int .i64 (j : Int) ∧ x = .slice A j c ∧ wr.ownsRow w.heap.size 9 1 (.slice A j c) j (cs ((l.take j).map (cut · 200))) ∧ Below w.heap.size w wr
theorem few_any (w : World) (A : Option Addr) (c : Nat) (l : List ByteArray) (hl : l.length ≤ maxLen) (hs : ∀ s ∈ l, s.size ≤ maxLen) (hA : Lies (fun _ => False) w A (cs l)) :
    Calls Try.prog 10 #[.slice A l.length c] w fun e w' => ∃ A' c', e = .returned (.slice A' (fw l).length c') ∧ w'.ownsRow w.heap.size 9 1 (.slice A' (fw l).length c') (fw l).length (cs (fw l)) ∧ Below w.heap.size w w' := by
  obtain ⟨i0, hi0, hz0, hz1, hz2⟩ := info_str
  have HI := Lib.hid hi0
  have HZ := Lib.hid hz0
  have HZ1 := Lib.hid hz1
  have HZ2 := Lib.hid hz2
  have HA := Lib.hid hA
  have HS := Lib.hid hs
  unfold maxLen at hl
  clear hi0 hz0 hz1 hz2 hA hs
  go_enter Try.func10, Try.ntmps10
  go_wp2_with fail
  go_loopw [3, 4] (FewRel w l) (fun _ i _ => 8 - (intOf i).toNat)
  case atStart => exact ⟨0, none, 0, by omega, by omega, rfl, rfl, World.ownsRow_nil _ _ _ _, Below.refl _ _⟩
  case round =>
    obtain ⟨j, A1, c1, hj, hj8, rfl, rfl, hown, hb⟩ := hrel
    have hz := hb.size
    by_cases hlt : j < l.length ∧ j < 8
    · obtain ⟨hlt, hlt8⟩ := hlt
      obtain ⟨a, rfl, _, _, hc⟩ := HA.out.below hb j _ (cs_get l j hlt)
      have HC := Lib.hid (short_any l[j] 200 (HS.out _ (List.getElem_mem hlt)) wr)
      go_wp2_with fail
      refine HC.out.mono ?_
      rintro e w1 ⟨rfl, rfl⟩
      clear HC
      generalize hq : cut l[j] 200 = q
      have HQ := Lib.hid hq
      clear hq
      have hblk0 := Blk.new wr 9 #[.string q]
      have hown0 : (wr.alloc (.cells #[.string q] 9)).ownsRow w.heap.size 9 1 (.slice A1 j c1) j (cs ((l.take j).map (cut · 200))) := own_of hown (fun b e => Below.heap_alloc _ _ _ (own_lt hown e))
      go_wp2_with
        (at_builtin
         refine wpList_append_lies _ rfl (.tmp 15) (.tmp 21) 23 rfl w.heap.size 9 i0 _ 1 16 Try.underlying23 HI.out HZ.out HZ1.out HZ2.out rfl (by decide) (.slice A1 j c1) j _ rfl hown0 ⟨wr.heap.size, 0, none⟩ 1 1 [.string q] rfl rfl (World.news_of_block hblk0) (by intro u hu; simp at hu; subst hu; rfl) (by omega) (by unfold maxLen; omega) (by omega) (by simp; omega) (wr.heap.size + 1) (by simp) ?_
         intro g cap w1 hown1 hgrow hat hlt1
         have HB := Lib.hid (Kept.below (B := w.heap.size) (hb.alloc hz _) ((Kept.refl (fun k => (Value.slice A1 j c1).ownBlock = some k) _).grown hgrow (fun x hx => .inl hx)) (fun k hk => own_base hown hk) (by simp; omega))
         have HO := Lib.hid hown1
         clear hown1 hgrow hat hown0 hblk0 hc)
      go_roundw
      case rel =>
        refine ⟨j + 1, _, _, by omega, by omega, by go_num, rfl, ?_, HB.out⟩
        have e : cs ((l.take (j + 1)).map (cut · 200)) = cs ((l.take j).map (cut · 200)) ++ [.string q] := by
          rw [take_snoc l j hlt, List.map_append, ← HQ.out]
          simp [cs]
        rw [e]
        exact HO.out
      case measure => simp [intOf]; omega
    · have hmin : j = min l.length 8 := by omega
      have e : (l.take j).map (cut · 200) = fw l := by
        unfold fw
        congr 1
        rcases Nat.lt_or_ge 8 l.length with h8 | h8
        · rw [show j = 8 by omega]
        · rw [show j = l.length by omega, List.take_length, List.take_of_length_le h8]
      have HL := Lib.hid (show (fw l).length = j by simp [fw]; omega)
      have HO := Lib.hid hown
      have HE := Lib.hid e
      clear hmin e hown
      go_wp2_with fail
      all_goals go_ret
      all_goals
        refine ⟨A1, c1, by rw [HL.out]; rfl, ?_, hb⟩
        rw [HL.out, ← HE.out]
        exact HO.out

theorem str_beq (x y : ByteArray) : (x.toList == y.toList) = decide (x = y) := by
  rw [ByteArray.toList_eq, ByteArray.toList_eq, Bool.eq_iff_iff, beq_iff_eq, decide_eq_true_iff]
  constructor
  · intro h
    exact ByteArray.ext (Array.toList_inj.1 h)
  · rintro rfl
    rfl
theorem str_ne {x y : ByteArray} (h : x ≠ y) : (x.toList == y.toList) = false := by rw [str_beq, decide_eq_false h]
theorem below_drewN {B : Nat} {a b : World} (h : Below B a b) (n : Nat) : Below B a (b.drewN n) := ⟨h.os, h.tape, h.output, h.size, h.block⟩
/-- Where the loop of Same stands. -/
def SameRel (w : World) (n : Nat) (l m : List ByteArray) (x : Value) (wr : World) : Prop := ∃ j : Nat, j ≤ n ∧ x = .int .i64 (j : Int) ∧ l.take j = m.take j ∧ Below w.heap.size w wr
theorem take_eq_step {α : Type} {l m : List α} {j : Nat} (h : l.take j = m.take j) (hl : j < l.length) (hm : j < m.length) (e : l[j] = m[j]) : l.take (j + 1) = m.take (j + 1) := by
  rw [take_snoc l j hl, take_snoc m j hm, h, e]
theorem same_n (w : World) (A1 A2 : Option Addr) (c1 c2 n : Nat) (l m : List ByteArray) (hl : l.length = n) (hm : m.length = n) (hn : n ≤ 1000000) (hA : Lies (fun _ => False) w A1 (cs l)) (hB : Lies (fun _ => False) w A2 (cs m)) :
    Calls Try.prog 22 #[.slice A1 n c1, .slice A2 n c2] w fun e w' => e = .returned (.bool (decide (l = m))) ∧ Below w.heap.size w w' := by
  have HA := Lib.hid hA
  have HB := Lib.hid hB
  have HL := Lib.hid hl
  have HM := Lib.hid hm
  clear hA hB hl hm
  go_enter Try.func22, Try.ntmps22
  go_wp2_with fail
  go_loopw [5] (SameRel w n l m) (fun i _ => n - (intOf i).toNat)
  case atStart => exact ⟨0, by omega, rfl, by simp, Below.refl _ _⟩
  case round =>
    obtain ⟨j, hj, rfl, he, hb⟩ := hrel
    by_cases hlt : j < n
    · have hlt1 : j < l.length := by have := HL.out; omega
      have hlt2 : j < m.length := by have := HM.out; omega
      obtain ⟨a, rfl, _, _, hc⟩ := HA.out.below hb j _ (cs_get l j hlt1)
      obtain ⟨b, rfl, _, _, hd⟩ := HB.out.below hb j _ (cs_get m j hlt2)
      generalize hx : l[j] = x at hc
      generalize hy : m[j] = y at hd
      have HX := Lib.hid hx
      have HY := Lib.hid hy
      have HT := Lib.hid he
      clear hx hy he
      by_cases hxy : x = y
      · subst hxy
        have HS := Lib.hid (take_eq_step HT.out hlt1 hlt2 (HX.out.trans HY.out.symm))
        clear hlt1 hlt2 HX HY
        go_wp2_with fail
        go_quiet (fail)
        go_wp2_with fail
        go_roundw
        case rel => exact ⟨j + 1, by omega, by go_num, HS.out, below_drewN hb _⟩
        case measure => simp [intOf]; omega
      · have HN := Lib.hid (show l ≠ m by
          rintro rfl
          exact hxy (HX.out.symm.trans HY.out))
        have hne := str_ne hxy
        clear hlt1 hlt2 HX HY
        go_wp2_with fail
        go_quiet (fail)
        go_wp2_with fail
        go_ret
        exact ⟨by rw [decide_eq_false HN.out]; rfl, below_drewN hb _⟩
    · obtain rfl : j = n := by omega
      have HT := Lib.hid (show l = m by
        rw [← HL.out, List.take_length, HL.out, ← HM.out, List.take_length] at he
        exact he)
      clear he
      go_wp2_with fail
      go_ret
      exact ⟨by rw [decide_eq_true HT.out]; rfl, hb⟩
theorem same_any (w : World) (A1 A2 : Option Addr) (c1 c2 : Nat) (l m : List ByteArray) (hl : l.length ≤ 1000000) (_hm : m.length ≤ 1000000) (hA : Lies (fun _ => False) w A1 (cs l)) (hB : Lies (fun _ => False) w A2 (cs m)) :
    Calls Try.prog 22 #[.slice A1 l.length c1, .slice A2 m.length c2] w fun e w' => e = .returned (.bool (decide (l = m))) ∧ Below w.heap.size w w' := by
  by_cases hlen : l.length = m.length
  · have := same_n w A1 A2 c1 c2 l.length l m rfl hlen.symm hl hA hB
    rw [hlen] at this ⊢
    exact this
  · have HN := Lib.hid (show l ≠ m from fun e => hlen (by rw [e]))
    go_enter Try.func22, Try.ntmps22
    go_wp2_with fail
    go_ret
    exact ⟨by rw [decide_eq_false HN.out]; rfl, Below.refl _ _⟩
end Go.Proofs.Ytkfkaijaenjngaa
