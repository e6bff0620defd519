/-
  Contracts of token's two functions that put a group into a row (Encode's: its digit; Decode's: its byte), and of the collector. No condition.
-/
import Derived.Deep.AppendLies
import Derived.Shelf.Abstract
import Derived.Test.YtcijkfnhjajfbaaDoorTkA
namespace Go.Proofs.YtcijkfnhjajfbaaDoor
open Go.RowKit

theorem put_step {w w2 : World} {B eb g cap : Nat} {v : Value} {l : List UInt8} {x : UInt8} (hB : B ≤ eb) (hbk : Blk w eb 33 #[v]) (hown : w.ownsRow B 5 1 v l.length (cb l)) (o : Obj)
    (hown2 : w2.ownsRow B 5 1 (.slice (some ⟨g, 0, none⟩) (l.length + 1) cap) (l.length + 1) (cb l ++ [.int .u8 (x.toNat : Int)])) (hgrow : (w.alloc o).grownBy w2 v.ownBlock) :
    Out (w2.setCell ⟨eb, 0, none⟩ (.slice (some ⟨g, 0, none⟩) (l.length + 1) cap)) B eb (l ++ [x]) ∧ Putd B eb w (w2.setCell ⟨eb, 0, none⟩ (.slice (some ⟨g, 0, none⟩) (l.length + 1) cap)) := by
  have hlt := hbk.lt
  have hne : v.ownBlock ≠ some eb := own_blk_ne hown hbk (by decide)
  have b1 := hbk.alloc o
  have b2 : Blk w2 eb 33 #[v] := b1.of (hgrow.block eb b1.lt (fun e => hne e.symm))
  have hne2 := own_blk_ne hown2 b2 (by decide)
  refine ⟨⟨hB, _, Blk.set_ b2 0 _, ?_⟩, ?_, ?_⟩
  · have e1 : (l ++ [x]).length = l.length + 1 := by simp
    have e2 : cb (l ++ [x]) = cb l ++ [.int .u8 (x.toNat : Int)] := by simp [cb]
    rw [e1, e2]
    exact own_of hown2 (fun b hb => Below.heap_setCell w2 _ _ b (by rintro rfl; exact hne2 hb))
  · exact (((Below.refl B w).alloc (by omega) o).grown hgrow (by simp; omega) (fun k hk => own_base hown hk)).setCell (p := ⟨eb, 0, none⟩) hB _
  · refine (((Lib.OthersKept.refl _ _ w).alloc o).grown hgrow (fun k hk => ?_)).setCell ⟨eb, 0, none⟩ rfl _
    rcases hown.2 with ⟨rfl, _⟩ | ⟨g', cap', cur, rfl, _, hh, _⟩
    · simp [Value.ownBlock] at hk
    · have : g' = k := by simpa [Value.ownBlock] using hk
      subst this
      exact ⟨cur, (0, 0), Blk.alloc (t := 5) (cs := cur) hh o⟩

def digsBA : ByteArray := ⟨#[97, 98, 99, 100, 101, 102, 103, 104, 105, 106, 107, 108, 109, 110, 111, 112, 113, 114, 115, 116, 117, 118, 119, 120, 121, 122, 50, 51, 52, 53, 54, 55]⟩
theorem digs_get (n : Nat) (h : n < digsBA.size) : digsBA[n] = Tk.dig n := by
  have e : ∀ j : Fin 32, digsBA[j.val]? = some (Tk.dig j.val) := by decide
  exact Option.some.inj ((ByteArray.getElem?_lt' digsBA n h).symm.trans (e ⟨n, h⟩))
theorem run_digit (n : Nat) (h : n < 32) (k : IntKind) (W : World) : (Instr.index 9 (.string digsBA) (.int k (n : Int))).run Tryd.prog W = .ok (.int .u8 ((Tk.dig n).toNat : Int)) W := by
  rw [run_index_string W 9 digsBA k _ Tryd.underlying9, dif_pos ⟨by omega, by rw [show digsBA.size = 32 from rfl]; omega⟩]
  have e : ((n : Int)).toNat = n := by omega
  simp only [e]
  rw [digs_get n (by rw [show digsBA.size = 32 from rfl]; exact h)]

set_option maxHeartbeats 2000000 in
set_option maxRecDepth 100000 in
theorem put_dig : PutIs 24 (2 ^ 5) Tk.dig := by
  refine ⟨fun args W => enters_of Tryd.func24 (by decide +kernel) rfl args W, ?_⟩
  intro B eb n l w hn hlen hO
  obtain ⟨hB, v, hbk, hown⟩ := hO
  obtain ⟨i0, hi, hz, hs, hy⟩ := info_u8
  obtain ⟨A, c, rfl⟩ := own_form hown
  have hlt := hbk.lt
  have c0 := hbk.cell 0
  have f0 := hbk.frozen 0
  simp only [List.getElem?_toArray, List.getElem?_cons_zero] at c0
  have hidx : ∀ W, (Instr.index 9 (.string ⟨#[97, 98, 99, 100, 101, 102, 103, 104, 105, 106, 107, 108, 109, 110, 111, 112, 113, 114, 115, 116, 117, 118, 119, 120, 121, 122, 50, 51, 52, 53, 54, 55]⟩) (.int .u64 (n : Int))).run Tryd.prog W = .ok (.int .u8 ((Tk.dig n).toNat : Int)) W := run_digit n hn .u64
  generalize Tk.dig n = x at hidx ⊢
  have HO := Lib.hid hown
  have HI := Lib.hid hi
  have HZ := Lib.hid hz
  have HZ1 := Lib.hid hs
  have HZ2 := Lib.hid hy
  have HBK := Lib.hid hbk
  have hne := own_blk_ne hown hbk (by decide)
  have hblk0 := Blk.new w 5 #[.int .u8 (x.toNat : Int)]
  have hown0 : (w.alloc (.cells #[.int .u8 (x.toNat : Int)] 5)).ownsRow B 5 1 (.slice A l.length c) l.length (cb l) := hown.alloc _
  clear hown hi hz hs hy hbk
  have HN := Lib.hid hne
  clear hne
  go_enter Tryd.func24, Tryd.ntmps24
  go_wp2_with fail
  go_region_law
    ((refine step_append_lies _ (by rfl) _ _ 33 (by rfl) B 5 i0 _ 1 1 Tryd.underlying33 HI.out HZ.out HZ1.out HZ2.out rfl (by decide) (.slice A l.length c) l.length (cb l) (by rfl) hown0.drew ⟨w.heap.size, 0, none⟩ 1 1 [.int .u8 (x.toNat : Int)] (by rfl) (by rfl) (World.news_of_block hblk0) (by intro u hu; simp at hu; subst hu; rfl) (by omega) (by unfold maxLen; omega) (by omega) (by simp; omega) (w.heap.size + 1) (by simp) ?_
      intro g cap w2 hown2 hgrow hat hlt2
      have hgrow2 : (w.alloc (.cells #[.int .u8 (x.toNat : Int)] 5)).grownBy w2 (Value.slice A l.length c).ownBlock := ⟨hgrow.os, hgrow.tape, hgrow.output, hgrow.size, hgrow.block⟩
      have b2 := (HBK.out.alloc (.cells #[.int .u8 (x.toNat : Int)] 5)).of (hgrow2.block eb (by simp; omega) (fun e => HN.out e.symm))
      have KP : w2.cell? ⟨eb, 0, none⟩ = some (.slice A l.length c) := by have := b2.cell 0; simpa using this
      have f2 := b2.frozen 0
      have HP := Lib.hid (put_step hB HBK.out HO.out _ hown2 hgrow2)))
  all_goals (go_end0; exact ⟨rfl, HP.out.1, HP.out.2⟩)

set_option maxHeartbeats 2000000 in
set_option maxRecDepth 100000 in
theorem put_byte : PutIs 25 (2 ^ 8) (fun n => UInt8.ofNat n) := by
  refine ⟨fun args W => enters_of Tryd.func25 (by decide +kernel) rfl args W, ?_⟩
  intro B eb n l w hn hlen hO
  obtain ⟨hB, v, hbk, hown⟩ := hO
  obtain ⟨i0, hi, hz, hs, hy⟩ := info_u8
  obtain ⟨A, c, rfl⟩ := own_form hown
  have hlt := hbk.lt
  have c0 := hbk.cell 0
  have f0 := hbk.frozen 0
  simp only [List.getElem?_toArray, List.getElem?_cons_zero] at c0
  have hx : IntKind.u8.wrap (n : Int) = (((UInt8.ofNat n).toNat : Nat) : Int) := by
    rw [UInt8.toNat_ofNat']
    unfold IntKind.wrap
    simp [IntKind.bits, IntKind.signed]
  show Calls _ _ _ _ fun e W' => _ ∧ Out W' B eb (l ++ [UInt8.ofNat n]) ∧ _
  generalize UInt8.ofNat n = x at hx ⊢
  have HO := Lib.hid hown
  have HI := Lib.hid hi
  have HZ := Lib.hid hz
  have HZ1 := Lib.hid hs
  have HZ2 := Lib.hid hy
  have HBK := Lib.hid hbk
  have hne := own_blk_ne hown hbk (by decide)
  have hblk0 := Blk.new w 5 #[.int .u8 (x.toNat : Int)]
  have hown0 : (w.alloc (.cells #[.int .u8 (x.toNat : Int)] 5)).ownsRow B 5 1 (.slice A l.length c) l.length (cb l) := hown.alloc _
  clear hown hi hz hs hy hbk
  have HN := Lib.hid hne
  clear hne
  go_enter Tryd.func25, Tryd.ntmps25
  go_wp2_with
    (at_builtin
     refine wpList_append_lies _ rfl (.tmp 3) (.tmp 6) 33 rfl B 5 i0 _ 1 1 Tryd.underlying33 HI.out HZ.out HZ1.out HZ2.out rfl (by decide) (.slice A l.length c) l.length (cb l) rfl hown0 ⟨w.heap.size, 0, none⟩ 1 1 [.int .u8 (x.toNat : Int)] rfl rfl (World.news_of_block hblk0) (by intro u hu; simp at hu; subst hu; rfl) (by omega) (by unfold maxLen; omega) (by omega) (by simp; omega) (w.heap.size + 1) (by simp) ?_
     intro g cap w2 hown2 hgrow hat hlt2
     have b2 := (HBK.out.alloc (.cells #[.int .u8 (x.toNat : Int)] 5)).of (hgrow.block eb (by simp; omega) (fun e => HN.out e.symm))
     have KP : w2.cell? ⟨eb, 0, none⟩ = some (.slice A l.length c) := by have := b2.cell 0; simpa using this
     have f2 := b2.frozen 0
     have HP := Lib.hid (put_step hB HBK.out HO.out _ hown2 hgrow)
     clear b2 hgrow hat hown0)
  go_end0
  exact ⟨rfl, HP.out.1, HP.out.2⟩

theorem Out.alloc {w : World} {B eb : Nat} {l : List UInt8} (h : Out w B eb l) (o : Obj) : Out (w.alloc o) B eb l := by
  obtain ⟨hB, v, hb, ho⟩ := h
  exact ⟨hB, v, hb.alloc o, ho.alloc o⟩
theorem Out.below {w w' : World} {B eb : Nat} {l : List UInt8} (h : Out w B eb l) (hb : Below w.heap.size w w') : Out w' B eb l := by
  obtain ⟨hB, v, hbk, ho⟩ := h
  exact ⟨hB, v, hbk.of (hb.block _ hbk.lt), own_of ho (fun b hvb => hb.block _ (own_lt ho hvb))⟩
set_option maxHeartbeats 1000000 in
set_option maxRecDepth 100000 in
theorem collector_any (g m eb B : Nat) (w : World) (hO : Out w B eb []) :
    Calls Tryd.prog 23 #[.int .i64 (m : Int), .func (.func g) #[] #[.pointer (some ⟨eb, 0, none⟩)]] w fun e w' => ∃ hb nb sb pb : Nat,
      e = .returned (.func (.func 29) #[] #[.pointer (some ⟨hb, 0, none⟩), .pointer (some ⟨nb, 0, none⟩), .pointer (some ⟨sb, 0, none⟩), .pointer (some ⟨pb, 0, none⟩)]) ∧
      Regs w' B hb nb sb pb eb g m [] [] ∧ Below w.heap.size w w' := by
  have hlt := hO.lt
  have hB := hO.1
  have HO := Lib.hid hO
  clear hO
  go_enter Tryd.func23, Tryd.ntmps23
  go_wp2_with fail
  go_ret
  refine ⟨w.heap.size + 1 + 1, w.heap.size + 1 + 1 + 1, w.heap.size, w.heap.size + 1, rfl, ?_, ((((Below.refl _ w).alloc (Nat.le_refl _) _).alloc (by simp) _).alloc (by simp; omega) _).alloc (by simp; omega) _⟩
  have n1 := Blk.new w 3 #[.int .i64 (m : Int)]
  have n2 := Blk.new (w.alloc (.cells #[.int .i64 (m : Int)] 3)) 37 #[.func (.func g) #[] #[.pointer (some ⟨eb, 0, none⟩)]]
  have n3 := Blk.new ((w.alloc (.cells #[.int .i64 (m : Int)] 3)).alloc (.cells #[.func (.func g) #[] #[.pointer (some ⟨eb, 0, none⟩)]] 37)) 36 #[.int .u64 0]
  have n4 := Blk.new (((w.alloc (.cells #[.int .i64 (m : Int)] 3)).alloc (.cells #[.func (.func g) #[] #[.pointer (some ⟨eb, 0, none⟩)]] 37)).alloc (.cells #[.int .u64 0] 36)) 3 #[.int .i64 0]
  have hs : ∀ (w : World) (o : Obj), (w.alloc o).heap.size = w.heap.size + 1 := fun w o => by simp
  simp only [hs] at n1 n2 n3 n4
  exact ⟨⟨by omega, by omega, by omega⟩, ⟨0, by omega, n3.alloc _, by simp [Tk.num]⟩, n4, ((n1.alloc _).alloc _).alloc _, (n2.alloc _).alloc _, (((HO.out.alloc _).alloc _).alloc _).alloc _⟩
end Go.Proofs.YtcijkfnhjajfbaaDoor
