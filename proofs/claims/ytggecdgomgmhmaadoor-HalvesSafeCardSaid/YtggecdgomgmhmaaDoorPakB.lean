/-
  Contracts of package pack, the writer: number, text, String. Condition: the writer lies in memory as its calls lay it.
-/
import Derived.Test.YtggecdgomgmhmaaDoorPakA
namespace Go.Proofs.YtggecdgomgmhmaaDoor
open Go.RowKit

theorem and127 (m : Nat) (h : m ≤ 18446744073709551615) : bits .and .u64 (m : Int) 127 = ((m % 128 : Nat) : Int) := by
  have hm : (BitVec.ofInt 64 127).toNat = 2 ^ 7 - 1 := by decide
  have key : (BitVec.ofInt 64 (m : Int) &&& BitVec.ofInt 64 127).toNat = ((m : Int) % ((2 ^ 64 : Nat) : Int)).toNat % 2 ^ 7 := by
    rw [BitVec.toNat_and, BitVec.toNat_ofInt, hm, Nat.and_two_pow_sub_one_eq_mod]
  show IntKind.u64.wrap ((BitVec.ofInt 64 (m : Int) &&& BitVec.ofInt 64 127).toNat : Nat) = _
  rw [key, IntKind.wrap_u64]
  omega
theorem or128 (x : Nat) (h : x < 128) : bits .or .u8 128 (x : Int) = ((x + 128 : Nat) : Int) := by
  have : ∀ x : Fin 128, bits .or .u8 128 (x.val : Int) = ((x.val + 128 : Nat) : Int) := by decide +kernel
  exact this ⟨x, h⟩
theorem byte_more (m : Nat) (h : m ≤ 18446744073709551615) : bits .or .u8 128 (bits .and .u64 (m : Int) 127 % 256) = (((UInt8.ofNat (m % 128 + 128)).toNat : Nat) : Int) := by
  rw [and127 m h, show ((m % 128 : Nat) : Int) % 256 = ((m % 128 : Nat) : Int) by omega, or128 _ (by omega), Pk.toNat_ofNat (by omega)]
theorem byte_last (m : Nat) (h : m < 128) : (m : Int) = (((UInt8.ofNat m).toNat : Nat) : Int) := by
  rw [Pk.toNat_ofNat (by omega)]
/-- Where the loop of number stands. -/
def NumRel (w : World) (d : Nat) (v : Value) (l : List UInt8) (n : Nat) (x : Value) (wr : World) : Prop :=
  ∃ (m : Nat) (v' : Value) (l' : List UInt8), x = .int .u64 (m : Int) ∧ m ≤ 18446744073709551615 ∧ l' ++ Pk.num m = l ++ Pk.num n ∧ WrAt wr d v' l' ∧ Kept (foot d v) w wr ∧ ∀ k, foot d v' k → foot d v k ∨ w.heap.size ≤ k

/-- A byte appended. -/
theorem WrAt.one {w w1 : World} {d g cap : Nat} {v : Value} {l : List UInt8} {b : UInt8} {z : Int} (h : WrAt w d v l) (hz : z = ((b.toNat : Nat) : Int)) {o : Obj}
    (hown : w1.ownsRow 0 5 1 (.slice (some ⟨g, 0, none⟩) (l.length + 1) cap) (l.length + 1) (cb l ++ [.int .u8 z])) (hgrow : (w.alloc o).grownBy w1 v.ownBlock) (hat : v.ownBlock = some g ∨ g = w.heap.size + 1) :
    Wrote w d v (l ++ [b]) (w1.setCell ⟨d, 0, none⟩ (.slice (some ⟨g, 0, none⟩) (l.length + 1) cap)) := by
  subst hz
  refine h.push (m := [b]) ((Below.refl _ w).alloc (Nat.le_refl _) o) rfl hown hgrow (fun k hk => ?_)
  have : g = k := by simpa [Value.ownBlock] using hk
  subst this
  rcases hat with e | e
  · exact .inl e
  · exact .inr (by simp; omega)

set_option maxRecDepth 100000 in
theorem number_any (w : World) (d : Nat) (v : Value) (l : List UInt8) (h : WrAt w d v l) (n : Nat) (hn : n ≤ 18446744073709551615) (hl : l.length ≤ 1000000) :
    Calls Tryd.prog 56 #[.pointer (some ⟨d, 0, none⟩), .int .u64 (n : Int)] w fun e w' => e = .returned (.tuple #[]) ∧ Wrote w d v (l ++ Pk.num n) w' := by
  obtain ⟨i0, hi0, hz0, hz1, hz2⟩ := info_u8
  have HI := Lib.hid hi0
  have HZ := Lib.hid hz0
  have HZ1 := Lib.hid hz1
  have HZ2 := Lib.hid hz2
  have HN := Pk.num_len_le n (by omega)
  clear hi0 hz0 hz1 hz2
  go_enter Tryd.func56, Tryd.ntmps56
  go_wp2_with fail
  go_loopw [1] (NumRel w d v l n) (fun i _ => (intOf i).toNat)
  case atStart => exact ⟨n, v, l, rfl, hn, rfl, h, Kept.refl _ _, fun _ hk => .inl hk⟩
  case round =>
    clear h
    obtain ⟨m, v1, l1, rfl, hm, he, h1, k1, f1⟩ := hrel
    have hlen : l1.length ≤ 1000010 := by
      have := congrArg List.length he
      simp at this
      omega
    have HE := Lib.hid he
    clear he HN
    obtain ⟨A, c, rfl⟩ := h1.form
    have c0 := h1.blk.cell 0
    simp only [List.getElem?_toArray, List.getElem?_cons_zero] at c0
    by_cases hlt : m < 128
    · have hblk0 := Blk.new wr 5 #[.int .u8 (m : Int)]
      have hown0 : (wr.alloc (.cells #[.int .u8 (m : Int)] 5)).ownsRow 0 5 1 (.slice A l1.length c) l1.length (cb l1) := (h1.below ((Below.refl _ wr).alloc (Nat.le_refl _) _)).own
      go_wp2_with
        (at_builtin
         refine wpList_append_lies _ rfl (.tmp 25) (.tmp 28) 51 rfl 0 5 i0 _ 1 1 Tryd.underlying51 HI.out HZ.out HZ1.out HZ2.out rfl (by decide) (.slice A l1.length c) l1.length (cb l1) rfl hown0 ⟨wr.heap.size, 0, none⟩ 1 1 [.int .u8 (m : Int)] rfl rfl (World.news_of_block hblk0) (by intro u hu; simp at hu; subst hu; rfl) (by omega) (by unfold maxLen; omega) (by omega) (by omega) (wr.heap.size + 1) (by simp) ?_
         intro g cap w1 hown1 hgrow hat hlt1
         have hd := (h1.blk.alloc (.cells #[.int .u8 (m : Int)] 5)).of (hgrow.block _ (h1.blk.alloc _).lt (fun e => h1.ne_ e.symm))
         have d0 := hd.cell 0
         have f0 := hd.frozen 0
         have HW := Lib.hid (Wrote.trans k1 f1 (h1.one (byte_last m hlt) hown1 hgrow hat))
         clear hd hown1 hgrow hat hown0 hblk0 c0 h1 k1 f1)
      go_end0
      refine ⟨rfl, ?_⟩
      rw [← HE.out, Pk.num_lt hlt]
      exact HW.out
    · have hblk0 := Blk.new wr 5 #[.int .u8 (bits .or .u8 128 (bits .and .u64 (m : Int) 127 % 256))]
      have hown0 : (wr.alloc (.cells #[.int .u8 (bits .or .u8 128 (bits .and .u64 (m : Int) 127 % 256))] 5)).ownsRow 0 5 1 (.slice A l1.length c) l1.length (cb l1) := (h1.below ((Below.refl _ wr).alloc (Nat.le_refl _) _)).own
      go_wp2_with
        (at_builtin
         refine wpList_append_lies _ rfl (.tmp 12) (.tmp 17) 51 rfl 0 5 i0 _ 1 1 Tryd.underlying51 HI.out HZ.out HZ1.out HZ2.out rfl (by decide) (.slice A l1.length c) l1.length (cb l1) rfl hown0 ⟨wr.heap.size, 0, none⟩ 1 1 [.int .u8 (bits .or .u8 128 (bits .and .u64 (m : Int) 127 % 256))] rfl rfl (World.news_of_block hblk0) (by intro u hu; simp at hu; subst hu; rfl) (by omega) (by unfold maxLen; omega) (by omega) (by omega) (wr.heap.size + 1) (by simp) ?_
         intro g cap w1 hown1 hgrow hat hlt1
         have hd := (h1.blk.alloc (.cells #[.int .u8 (bits .or .u8 128 (bits .and .u64 (m : Int) 127 % 256))] 5)).of (hgrow.block _ (h1.blk.alloc _).lt (fun e => h1.ne_ e.symm))
         have d0 := hd.cell 0
         have f0 := hd.frozen 0
         have HW := Lib.hid (Wrote.trans k1 f1 (h1.one (byte_more m hm) hown1 hgrow hat))
         clear hd hown1 hgrow hat hown0 hblk0 c0 h1 k1 f1)
      refine ⟨?_, by simp [intOf]; omega⟩
      obtain ⟨v2, r1, r2, r3⟩ := HW.out
      refine ⟨m / 128, v2, _, by simp, by omega, ?_, r1, r2, r3⟩
      rw [← HE.out, Pk.num_ge (n := m) (by omega)]
      simp
end Go.Proofs.YtggecdgomgmhmaaDoor
