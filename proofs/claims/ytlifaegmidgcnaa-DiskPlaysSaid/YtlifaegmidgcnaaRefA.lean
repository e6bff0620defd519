/-
  Contracts of the document's own disk (package homecomingref02), the small calls: put, now, may, step, New, Break, Pending. Condition: the disk lies in memory as New lays it.
-/
import Derived.Test.YtlifaegmidgcnaaDiskG
namespace Go.Proofs.Ytlifaegmidgcnaa
open Go.RowKit

/-- A row of bytes that a call has made. -/
def Bts (w : World) (g n cap : Nat) (l : List UInt8) : Prop := w.ownsRow 0 5 1 (.slice (some ⟨g, 0, none⟩) n cap) n (cb l)
theorem Bts.of {w w' : World} {g n cap : Nat} {l : List UInt8} (h : Bts w g n cap l) (e : w'.heap[g]? = w.heap[g]?) : Bts w' g n cap l :=
  own_of h (fun b hb => by have : g = b := by simpa [Value.ownBlock] using hb
                           subst this; exact e)
theorem Bts.lt {w : World} {g n cap : Nat} {l : List UInt8} (h : Bts w g n cap l) : g < w.heap.size := own_lt h rfl
theorem Bts.len {w : World} {g n cap : Nat} {l : List UInt8} (h : Bts w g n cap l) : l.length = n := by
  have := h.1
  rw [cb_length] at this
  omega
theorem Bts.news {w : World} {g n cap : Nat} {l : List UInt8} (h : Bts w g n cap l) : ∀ j u, (cb l)[j]? = some u → w.cell? ((⟨g, 0, none⟩ : Addr).add j) = some u := fun j u hu => by
  have hadd : (⟨g, 0, none⟩ : Addr).add j = ⟨g, j, none⟩ := by unfold Addr.add; split <;> simp_all
  have hj : j < n * 1 := by
    have := (List.getElem?_eq_some_iff.1 hu).1
    rw [cb_length, h.len] at this
    omega
  rw [hadd, h.cellAt j hj, hu]
theorem Bts.ne_ {w : World} {g n cap g' : Nat} {l : List UInt8} {t : TypeId} {cs : Array Value} (h : Bts w g n cap l) (hg : Blk w g' t cs) (hne : 5 ≠ t) : g ≠ g' := fun e =>
  own_blk_ne h hg hne (by rw [e]; rfl)

theorem put_set (l : List UInt8) (k j : Nat) (s : ByteArray) (h : k + s.size ≤ l.length) (hj : j < s.size) :
    (cb (Dk.put l k (s.data.toList.take j))).set (k + j) (.int .u8 (s[j].toNat : Int)) = cb (Dk.put l k (s.data.toList.take (j + 1))) := by
  have hs : s.data.toList.length = s.size := by simp
  have e : ∀ m, m ≤ s.size → k + (s.data.toList.take m).length ≤ l.length := fun m hm => by rw [List.length_take]; omega
  have hset : ∀ (l : List UInt8) (i : Nat) (b : UInt8), (cb l).set i (.int .u8 (b.toNat : Int)) = cb (l.set i b) := fun l i b => by simp [cb, List.map_set]
  rw [hset]
  congr 1
  apply List.ext_getElem?
  intro i
  rw [List.getElem?_set, Dk.put_length _ _ _ (e j (by omega)), Dk.put_getElem? _ _ _ (e (j + 1) (by omega)), Dk.put_getElem? _ _ _ (e j (by omega)), List.length_take, List.length_take, List.getElem?_take, List.getElem?_take]
  by_cases hi : k + j = i
  · rw [if_pos hi, if_pos (by omega), if_pos (by omega), if_pos (by omega), ← bytes_get s j hj]
    congr 1
    omega
  · rw [if_neg hi]
    by_cases hc : k ≤ i ∧ i < k + min j s.data.toList.length
    · rw [if_pos hc, if_pos (by omega), if_pos (by omega), if_pos (by omega)]
    · rw [if_neg hc, if_neg (by omega)]

theorem info_u8 : ∃ i, Try.prog.info? 5 = some i ∧ i.zero = some (.int .u8 0) ∧ i.size = 1 ∧ i.bytes = 1 := info_parts u8_info

/-- What put leaves. -/
def PutPost (w : World) (n : Nat) (l : List UInt8) (e : Ending) (w' : World) : Prop :=
  ∃ g cap, e = .returned (.slice (some ⟨g, 0, none⟩) n cap) ∧ Bts w' g n cap l ∧ w.heap.size ≤ g ∧ Below w.heap.size w w'
def PutRel (w : World) (g n cap b : Nat) (l : List UInt8) (k : Nat) (s : ByteArray) (i : Value) (wr : World) : Prop :=
  ∃ j : Nat, j ≤ s.size ∧ i = .int .i64 (j : Int) ∧ Bts wr g n cap (Dk.put l k (s.data.toList.take j)) ∧ Blk wr b 63 #[.int .i64 (k : Int), .string s] ∧ Below w.heap.size w wr

theorem put_any (w : World) (g n cap k : Nat) (l : List UInt8) (s : ByteArray) (h : Bts w g n cap l) (hk : k + s.size ≤ n) (hn : n ≤ 131072) (hn1 : 1 ≤ n) :
    Calls Try.prog 35 #[.slice (some ⟨g, 0, none⟩) n cap, .agg #[.int .i64 (k : Int), .string s]] w (PutPost w n (Dk.put l k s.data.toList)) := by
  obtain ⟨i0, hi0, hz0, hz1, hz2⟩ := info_u8
  have HI := Lib.hid hi0
  have HZ := Lib.hid hz0
  have HZ1 := Lib.hid hz1
  have HZ2 := Lib.hid hz2
  have hll := h.len
  have HL := Lib.hid hll
  have h1 : Bts ((w.alloc (.cells #[.int .i64 (k : Int), .string s] 63)).alloc (.cells #[] 5)) g n cap l :=
    h.of ((Below.heap_alloc _ _ _ (by have := h.lt; simp; omega)).trans (Below.heap_alloc _ _ _ h.lt))
  have b1 : Blk ((w.alloc (.cells #[.int .i64 (k : Int), .string s] 63)).alloc (.cells #[] 5)) w.heap.size 63 #[.int .i64 (k : Int), .string s] := (Blk.new w _ _).alloc _
  have o1 : ((w.alloc (.cells #[.int .i64 (k : Int), .string s] 63)).alloc (.cells #[] 5)).ownsRow 0 5 1 (.slice (some ⟨w.heap.size + 1, 0, none⟩) 0 0) 0 [] := by
    have := World.ownsRow_lit (base := 0) (e := 5) (size := 1) (w.alloc (.cells #[.int .i64 (k : Int), .string s] 63)) #[] 0 (by omega) (by unfold maxLen; omega) rfl
    simpa using this
  have z1 : ((w.alloc (.cells #[.int .i64 (k : Int), .string s] 63)).alloc (.cells #[] 5)).heap.size = w.heap.size + 2 := by simp
  have l1 : Below w.heap.size w ((w.alloc (.cells #[.int .i64 (k : Int), .string s] 63)).alloc (.cells #[] 5)) := ((Below.refl _ w).alloc (Nat.le_refl _) _).alloc (by simp) _
  have Z1 := Lib.hid z1
  clear hi0 hz0 hz1 hz2 hll z1
  go_enter Try.func35, Try.ntmps35
  go_wp2_with (first
    | (at_builtin
       refine wpList_append_lies _ rfl (.tmp 7) (.tmp 8) 39 rfl 0 5 i0 _ 1 1 Try.underlying39 HI.out HZ.out HZ1.out HZ2.out rfl (by decide) (.slice (some ⟨w.heap.size + 1, 0, none⟩) 0 0) 0 [] rfl o1 ⟨g, 0, none⟩ n cap (cb l) rfl (by rw [cb_length, HL.out]; omega) h1.news (cb_one l) (by omega) (by unfold maxLen; omega) (by omega) (by omega) (w.heap.size + 2) Z1.out ?_
       intro g2 cap2 w2 hown2 hgrow hat hlt2))
  have k2 : Kept (fun x => x = w.heap.size + 1) _ w2 := (Kept.refl _ _).grown hgrow (fun x hx => .inl (by simpa [Value.ownBlock] using hx.symm))
  have hg2 : w.heap.size < g2 := by
    rcases hat with e | e
    · have : w.heap.size + 1 = g2 := by simpa [Value.ownBlock] using e
      omega
    · omega
  have b2 : Blk w2 w.heap.size 63 #[.int .i64 (k : Int), .string s] := b1.of (k2.block _ (by rw [Z1.out]; omega) (by omega))
  have l2 : Below w.heap.size w w2 := Kept.below l1 k2 (fun x hx => by omega) l1.size
  have t2 : Bts w2 g2 n cap2 l := by
    have : w2.ownsRow 0 5 1 (.slice (some ⟨g2, 0, none⟩) (0 + n) cap2) (0 + n) ([] ++ cb l) := hown2
    rw [Nat.zero_add] at this
    exact this
  clear hown2 hgrow hat k2 b1 l1 o1 h1 h
  go_wp2_with fail
  go_loopw [6] (PutRel w g2 n cap2 w.heap.size l k s) (fun i _ => s.size - (intOf i).toNat)
  case atStart => exact ⟨0, by omega, rfl, by rw [List.take_zero, Dk.put_nil]; exact t2, b2, l2⟩
  case round =>
    clear t2 b2 l2
    obtain ⟨j, hj, rfl, t3, b3, l3⟩ := hrel
    have c0 := b3.cell 0
    have c1 := b3.cell 1
    simp only [List.getElem?_toArray, List.getElem?_cons_zero, List.getElem?_cons_succ] at c0 c1
    by_cases hlt : j < s.size
    · have hc : ∃ u, wr.cell? ⟨g2, k + j, none⟩ = some u := by
        rw [t3.cellAt (k + j) (by omega)]
        have := t3.len
        exact ⟨_, List.getElem?_eq_getElem (by rw [cb_length]; omega)⟩
      obtain ⟨u, hu⟩ := hc
      have hf := t3.frozenAt (k + j)
      have t4 : Bts (wr.drew.setCell ⟨g2, k + j, none⟩ (.int .u8 (s[j].toNat : Int))) g2 n cap2 (Dk.put l k (s.data.toList.take (j + 1))) := by
        have := (World.ownsRow.stored (World.ownsRow.drew t3) (k + j) (.int .u8 (s[j].toNat : Int))).1
        rw [put_set l k j s (by rw [HL.out]; omega) hlt] at this
        exact this
      have hne : w.heap.size ≠ g2 := by omega
      have b4 : Blk (wr.drew.setCell ⟨g2, k + j, none⟩ (.int .u8 (s[j].toNat : Int))) w.heap.size 63 #[.int .i64 (k : Int), .string s] := b3.drew.far hne _
      have l4 : Below w.heap.size w (wr.drew.setCell ⟨g2, k + j, none⟩ (.int .u8 (s[j].toNat : Int))) := l3.drew.setCell (p := ⟨g2, k + j, none⟩) (by show w.heap.size ≤ g2; omega) _
      have hw1 := IntWalk.i64_in ((k : Int) + (j : Int)) (by omega)
      have hw2 : ((k : Int) + (j : Int)).toNat = k + j := by omega
      have hw3 : (0 : Int) ≤ (k : Int) + (j : Int) := by omega
      have hw4 : (k : Int) + (j : Int) < (n : Int) := by omega
      clear t3 b3 l3
      go_wp2_with fail
      go_region
      clear hw1 hw2 hw3 hw4
      go_wp2_with fail
      go_roundw
      case rel => exact ⟨j + 1, by omega, by go_num, t4, b4, l4⟩
      case measure => simp [intOf]; omega
    · obtain rfl : j = s.size := by omega
      go_wp2_with fail
      go_ret
      refine ⟨g2, cap2, rfl, ?_, by omega, l3⟩
      have : s.data.toList.take s.size = s.data.toList := List.take_of_length_le (by simp)
      rw [this] at t3
      exact t3
end Go.Proofs.Ytlifaegmidgcnaa
