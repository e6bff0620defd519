/-
  Two readers of package pack beside other memory, call by call; what they read of what was written. Condition: the readers lie in memory as their calls lay them.
-/
import Derived.Test.YtkfkaijaenjngaaPackG
import Derived.Test.YtkfkaijaenjngaaPackO
namespace Go.Proofs.Ytkfkaijaenjngaa
open Go.RowKit

/-- Two good readers of the law's own; below w0 nothing has turned. -/
structure Two (w0 w : World) (r q : Nat) (sr sq : ByteArray) : Prop where
  atR : RdAt 62 w r (some sr)
  atQ : RdAt 62 w q (some sq)
  ne : r ≠ q
  bel : Below w0.heap.size w0 w
  lr : w0.heap.size ≤ r
  lq : w0.heap.size ≤ q
section
variable {w0 w w' : World} {r q : Nat} {sr sq s' : ByteArray}
theorem Two.size (h : Two w0 w r q sr sq) : w0.heap.size ≤ w.heap.size := h.bel.size
theorem Two.after (h : Two w0 w r q sr sq) (hb : Below w.heap.size w w') : Two w0 w' r q sr sq :=
  ⟨h.atR.below hb, h.atQ.below hb, h.ne, h.bel.trans (hb.mono h.size), h.lr, h.lq⟩
theorem Two.drew (h : Two w0 w r q sr sq) : Two w0 w.drew r q sr sq := h.after ((Below.refl _ w).drew)
theorem Two.onR (h : Two w0 w r q sr sq) (h1 : RdAt 62 w' r (some s')) (hk : Kept (· = r) w w') : Two w0 w' r q s' sq :=
  ⟨h1, h.atQ.kept hk (fun e => h.ne e.symm), h.ne, Kept.below h.bel hk (fun k hk => by rw [hk]; exact h.lr) h.size, h.lr, h.lq⟩
theorem Two.onQ (h : Two w0 w r q sr sq) (h1 : RdAt 62 w' q (some s')) (hk : Kept (· = q) w w') : Two w0 w' r q sr s' :=
  ⟨h.atR.kept hk h.ne, h1, h.ne, Kept.below h.bel hk (fun k hk => by rw [hk]; exact h.lq) h.size, h.lr, h.lq⟩
theorem two_numR (h : Two w0 w r q sr sq) (most : Nat) (hm : most ≤ 18446744073709551615) (v : Nat) (he : rNum most (some sr) = (v, some s')) :
    Calls Try.prog 25 #[.pointer (some ⟨r, 0, none⟩), .int .u64 (most : Int)] w fun e w' => e = .returned (.int .u64 (v : Int)) ∧ Two w0 w' r q s' sq := by
  refine (rnum_any h.atR most hm).mono ?_
  rintro e w' ⟨rfl, h1, h2⟩
  rw [he] at h1 ⊢
  exact ⟨rfl, h.onR h1 h2⟩
theorem two_numQ (h : Two w0 w r q sr sq) (most : Nat) (z : Int) (hz : z = (most : Int)) (hm : most ≤ 18446744073709551615) (v : Nat) (he : rNum most (some sq) = (v, some s')) :
    Calls Try.prog 25 #[.pointer (some ⟨q, 0, none⟩), .int .u64 z] w fun e w' => e = .returned (.int .u64 (v : Int)) ∧ Two w0 w' r q sr s' := by
  subst hz
  refine (rnum_any h.atQ most hm).mono ?_
  rintro e w' ⟨rfl, h1, h2⟩
  rw [he] at h1 ⊢
  exact ⟨rfl, h.onQ h1 h2⟩
theorem two_textR (h : Two w0 w r q sr sq) (most : Nat) (hm : most ≤ 1000000) (x : ByteArray) (he : rText (most : Int) (some sr) = (x, some s')) :
    Calls Try.prog 20 #[.pointer (some ⟨r, 0, none⟩), .int .i64 (most : Int)] w fun e w' => e = .returned (.string x) ∧ Two w0 w' r q s' sq := by
  refine (rtext_any h.atR (most : Int) (by omega) (by omega)).mono ?_
  rintro e w' ⟨rfl, h1, h2⟩
  rw [he] at h1 ⊢
  exact ⟨rfl, h.onR h1 h2⟩
theorem two_textQ (h : Two w0 w r q sr sq) (most : Int) (hm0 : 0 ≤ most) (hm : most ≤ 1000000) (x : ByteArray) (he : rText most (some sq) = (x, some s')) :
    Calls Try.prog 20 #[.pointer (some ⟨q, 0, none⟩), .int .i64 most] w fun e w' => e = .returned (.string x) ∧ Two w0 w' r q sr s' := by
  refine (rtext_any h.atQ most (by omega) (by omega)).mono ?_
  rintro e w' ⟨rfl, h1, h2⟩
  rw [he] at h1 ⊢
  exact ⟨rfl, h.onQ h1 h2⟩
end

theorem endB_ba (l : List UInt8) : endB (some (ba l)) = l.isEmpty := by
  show (ba l).toList.isEmpty = _
  rw [ByteArray.toList_eq, ba_list]

/-! ### What they read of what was written -/
theorem tx_ba (l : List ByteArray) : (tx l).map ba = l := by
  unfold tx
  rw [List.map_map]
  conv => rhs; rw [← List.map_id l]
  apply List.map_congr_left
  intro s _
  exact ba_back s
theorem read_row (m : List ByteArray) (x : List UInt8) (hm : m.length ≤ 8) (hs : ∀ s ∈ m, s.size ≤ 200) : rRow 8 200 (some (ba (Pk.row (tx m) ++ x))) = (m, some (ba x)) := by
  have hl : (tx m).length = m.length := by simp [tx]
  have h := Pk.rrow_row 8 200 (tx m) x (by omega) (by omega) (fun t ht => by
    obtain ⟨s, hs', rfl⟩ := List.mem_map.1 ht
    have h1 := hs s hs'
    have e : s.data.toList.length = s.size := by simp
    omega)
  unfold rRow
  simp only [ba_list]
  rw [h]
  simp only [tx_ba]
theorem read_num (most n : Nat) (x : List UInt8) (hn : n ≤ 18446744073709551615) (h : n ≤ most) : rNum most (some (ba (Pk.num n ++ x))) = (n, some (ba x)) := by
  rw [rNum_some, ba_list, Pk.dec_num most n x (by omega), if_pos h]
theorem read_text (most : Int) (s : ByteArray) (x : List UInt8) (hs : s.size ≤ 1000) (h : (s.size : Int) ≤ most) : rText most (some (ba (Pk.text s.data.toList ++ x))) = (s, some (ba x)) := by
  have e : s.data.toList.length = s.size := by simp
  have h := Pk.rtext_text most s.data.toList x (by omega) (by omega)
  rw [rText_eq, ba_list, h]
  simp only [ba_back]
theorem nums_drop (ns : List Nat) (i : Nat) (h : i < ns.length) : nums (ns.drop i) = Pk.num ns[i] ++ nums (ns.drop (i + 1)) := by
  have e : ∀ (a : Nat) (r : List Nat), nums (a :: r) = Pk.num a ++ nums r := fun a r => by simp [nums]
  rw [List.drop_eq_getElem_cons h, e]
theorem texts_drop (m : List ByteArray) (i : Nat) (h : i < m.length) : Pk.texts (tx (m.drop i)) = Pk.text m[i].data.toList ++ Pk.texts (tx (m.drop (i + 1))) := by
  have e : ∀ (a : ByteArray) (r : List ByteArray), Pk.texts (tx (a :: r)) = Pk.text a.data.toList ++ Pk.texts (tx r) := fun a r => by simp [tx, Pk.texts]
  rw [List.drop_eq_getElem_cons h, e]

section
open Go.ChangeShapes Go.WideShapes Go.ChangeAt
/-- A slice's length is within its room. -/
theorem open_cap {H : Type} {enc : TypeId × Value → H} {P : Program} {W : World} {base : Nat} {held : Bool} {t e : TypeId} {A : Option Addr} {n c : Nat} {d : DataW H} {ps : List MemPlace}
    (ht : P.underlying t = some (.slice e)) (h : DataW.Trod enc P W base (fun _ => true) held t (.slice A n c) d ps) : n ≤ c := by
  obtain ⟨fuel, hf⟩ := h
  rcases Go.Deep.open_slice ht hf with ⟨hcs, _⟩ | ⟨a, len', cap', m, n', D, Pl, hcs, _, hl, _⟩
  · simp [Value.cells] at hcs
    omega
  · simp [Value.cells] at hcs
    obtain ⟨_, rfl, rfl⟩ := hcs
    exact hl
end
theorem run_cut_head {P : Program} (t e : TypeId) (ht : P.underlying t = some (.slice e)) (hsz : (P.info? e).isSome = true) (a : Addr) (n c : Nat) (hk : 8 ≤ c) :
    ∀ w, (Instr.slice t (.slice (some a) n c) none (some (.int .i64 8)) none).run P w = .ok (.slice (some a) 8 c) w := by
  cases hq : P.info? e with
  | none => simp [hq] at hsz
  | some i =>
    intro w
    simp [Instr.slice, run_underlying ht, Instr.sliceBounds, Instr.sliceBound, asIntOf, sizeOf, typeInfo, hq]
    rw [if_pos (by omega), if_neg (by omega)]
    rfl
theorem u64_some : (Try.prog.info? 33).isSome = true := by kernel_rfl
end Go.Proofs.Ytkfkaijaenjngaa
