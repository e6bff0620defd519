/-
  Contract of halves.headRecord. Condition: the disk lies in memory as New lays it; the table of crc holds what its text says; the snapshot has at most 39000 bytes.
-/
import Derived.Test.YtggecdgomgmhmaaDoorHalA
namespace Go.Proofs.YtggecdgomgmhmaaDoor
open Go.RowKit

/-- The record of a head, or nothing. -/
def hrec (h : Nat) (e : Nat) (s : List UInt8) : List UInt8 := if e = 0 ∨ h < (Fr.wrap (Hv.head e s)).length then [] else Fr.wrap (Hv.head e s)
theorem hrec_zero (h : Nat) (s : List UInt8) : hrec h 0 s = [] := by unfold hrec; rw [if_pos (.inl rfl)]
theorem hrec_great {h e : Nat} {s : List UInt8} (hg : h < (Fr.wrap (Hv.head e s)).length) : hrec h e s = [] := by unfold hrec; rw [if_pos (.inr hg)]
theorem hrec_fits {h e : Nat} {s : List UInt8} (h0 : e ≠ 0) (hg : ¬ h < (Fr.wrap (Hv.head e s)).length) : hrec h e s = Fr.wrap (Hv.head e s) := by unfold hrec; rw [if_neg (by omega)]
theorem hrec_le (h e : Nat) (s : List UInt8) : (hrec h e s).length ≤ h := by
  unfold hrec
  split
  · simp
  · omega
theorem head_len (e : Nat) (s : List UInt8) (he : e ≤ 18446744073709551615) (hs : s.length ≤ 39000) : (Hv.head e s).length ≤ s.length + 20 := by
  have h1 := Pk.num_len_le e (by omega)
  have h2 := Pk.num_len_le s.length (by omega)
  unfold Hv.head Pk.text
  simp only [List.length_append]
  omega
theorem text_len (s : List UInt8) (hs : s.length ≤ 39000) : (Pk.text s).length ≤ s.length + 10 := by
  have h2 := Pk.num_len_le s.length (by omega)
  unfold Pk.text
  simp only [List.length_append]
  omega

section
variable {w : World} {F : Foot} {n : Nat} {dur lat : List UInt8} {pend : List (Nat × ByteArray)} {left : Int} {broken : Bool}
set_option maxHeartbeats 1000000 in
theorem headRecord_any (h : Raw w F n dur lat pend left broken) (hT : Tab w) {m : Nat} (hm : n / 2 = m) (k : Nat) (hk : k ≤ 18446744073709551615) (s : ByteArray) (hs : s.size ≤ 39000) :
    Calls Tryd.prog 24 #[.pointer (some ⟨F.d, 0, none⟩), .int .u64 (k : Int), .string s] w fun e w' => e = .returned (.string (ba (hrec m k s.data.toList))) ∧ Below w.heap.size w w' := by
  have hsm := h.small
  by_cases h0 : k = 0
  · subst h0
    rw [hrec_zero]
    go_enter Tryd.func24, Tryd.ntmps24
    go_wp2_with fail
    go_ret
    exact ⟨rfl, Below.refl _ _⟩
  · have h0' : ¬ ((k : Int) = 0) := by omega
    have hW0 : Wr w.heap.size w _ _ _ _ := Wr.new (w := w) (Below.refl _ w) (Nat.le_refl _)
    have HC := Lib.hid (wnum_one hW0 k k rfl (w.heap.size + 1) (by simp) hk (by decide))
    have hl : s.data.toList.length ≤ 39000 := by rw [size_list]; exact hs
    have HLen := Lib.hid (head_len k s.data.toList hk hl)
    have HTx := Lib.hid (text_len s.data.toList hl)
    have hlw := Pk.num_len_le k (by omega)
    have HH := Lib.hid h
    have HT0 := Lib.hid hT
    rw [size_list] at HLen HTx
    clear hW0 h hT
    go_enter Tryd.func24, Tryd.ntmps24
    go_wp2_with fail
    refine HC.out.mono ?_
    rintro e w1 ⟨rfl, v1, h1, _, _⟩
    have HD := Lib.hid (wtext_one h1 s _ rfl (by have := HTx.out; simp; omega))
    clear HC h1
    go_wp2_with fail
    refine HD.out.mono ?_
    rintro e w2 ⟨rfl, v2, h2, _, _⟩
    have HS := Lib.hid (str_on h2)
    have e0 : ([] ++ Pk.num k) ++ Pk.text s.data.toList = Hv.head k s.data.toList := by rw [List.nil_append]; rfl
    rw [e0] at HS
    have HB := Lib.hid h2.bel
    clear HD h2 e0
    go_wp2_with fail
    refine HS.out.mono ?_
    rintro e w3 ⟨rfl, rfl⟩
    have HT2 := Lib.hid (HT0.out.below HB.out HT0.out.lt)
    have HW := Lib.hid (wrap_any (ba (Hv.head k s.data.toList)) w2 HT2.out (by rw [ba_size]; have := HLen.out; omega))
    rw [ba_list] at HW
    clear HS
    go_wp2_with fail
    refine HW.out.mono ?_
    rintro e w4 ⟨rfl, hb4⟩
    have HB4 := Lib.hid (HB.out.trans (hb4.mono HB.out.size))
    have HR4 := Lib.hid (Raw.keep HH.out (S := fun _ => False) (Kept.of_below HB4.out) (fun _ _ hx => hx))
    have HHf := Lib.hid (half_any HR4.out hm)
    have hz : (ba (Fr.wrap (Hv.head k s.data.toList))).size = (Fr.wrap (Hv.head k s.data.toList)).length := ba_size _
    by_cases hg : m < (Fr.wrap (Hv.head k s.data.toList)).length
    · have HE := Lib.hid (hrec_great hg)
      generalize Fr.wrap (Hv.head k s.data.toList) = R at hz hg HW ⊢
      have hgi : (m : Int) < ((ba R).size : Int) := by omega
      clear HW hb4
      go_wp2_with fail
      refine HHf.out.mono ?_
      rintro e w5 ⟨rfl, rfl⟩
      go_wp2_with fail
      go_ret
      rw [HE.out]
      exact ⟨rfl, HB4.out⟩
    · have HE := Lib.hid (hrec_fits h0 hg)
      generalize Fr.wrap (Hv.head k s.data.toList) = R at hz hg HW HE ⊢
      have hgi : ¬ ((m : Int) < ((ba R).size : Int)) := by omega
      clear HW hb4
      go_wp2_with fail
      refine HHf.out.mono ?_
      rintro e w5 ⟨rfl, rfl⟩
      go_wp2_with fail
      go_ret
      rw [HE.out]
      exact ⟨rfl, HB4.out⟩
end
end Go.Proofs.YtggecdgomgmhmaaDoor
