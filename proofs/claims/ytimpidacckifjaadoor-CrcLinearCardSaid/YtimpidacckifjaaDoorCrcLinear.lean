/-
  Proves the statement of CrcLinear: for every three texts the law returns true (the sum of three texts turned by one another is their sums turned by one another), and its arguments read as they did. Condition: the package-level table halfBytes holds what its text lays.
-/
import Derived.Test.YtimpidacckifjaaDoorCrcAwake
import Derived.Test.YtimpidacckifjaaDoorCrcSeal
import Derived.Test.YtimpidacckifjaaDoorAnyOrder
import Derived.Test.YtimpidacckifjaaDoorCrcTable
import Derived.Laws.BytesArg
import Derived.Deep.AppendLies
import Derived.Deep.RegionLaw
import Derived.Test.YtimpidacckifjaaDoorCards
import Derived.Test.YtimpidacckifjaaDoorTie
namespace Go.Proofs.YtimpidacckifjaaDoor.crcLinear
open Go.ChangeShapes Go.WideShapes Go.ChangeAt Go.RowKit
open Go.ChangeMaps (open_string shut_string)

theorem run_min4 (P : Program) (x y z : Nat) : ∃ n : Nat, n ≤ x ∧ n ≤ y ∧ n ≤ z ∧ n ≤ 300 ∧ ∀ (ts : Array TypeId) (t : TypeId) (w : World), (Builtin.min_ ts t #[.int .i64 (x : Int), .int .i64 (y : Int), .int .i64 (z : Int), .int .i64 300]).run P w = .ok (.int .i64 (n : Int)) w := by
  refine ⟨min (min (min x y) z) 300, by omega, by omega, by omega, by omega, fun ts t w => ?_⟩
  simp [Builtin.min_, Builtin.min2]
  congr 2
  repeat' split
  all_goals omega

/-- Three texts turned by one another, the first k bytes. -/
def mix (a b c : ByteArray) (k : Nat) : List UInt8 := List.zipWith (· ^^^ ·) (List.zipWith (· ^^^ ·) (a.data.toList.take k) (b.data.toList.take k)) (c.data.toList.take k)
theorem mix_succ (a b c : ByteArray) (k : Nat) (ha : k < a.size) (hb : k < b.size) (hc : k < c.size) : mix a b c (k + 1) = mix a b c k ++ [a[k] ^^^ b[k] ^^^ c[k]] := by
  unfold mix
  rw [take_snoc a k ha, take_snoc b k hb, take_snoc c k hc, List.zipWith_append (by simp; omega), List.zipWith_append (by simp; omega)]
  rfl
theorem mix_length (a b c : ByteArray) (k : Nat) (ha : k ≤ a.size) (hb : k ≤ b.size) (hc : k ≤ c.size) : (mix a b c k).length = k := by
  simp [mix]; omega

def cellsOf (l : List UInt8) : List Value := l.map fun x => .int .u8 (x.toNat : Int)

def LRel (w : World) (a b c : ByteArray) (n : Nat) (t9 t10 : Value) (wr : World) : Prop :=
  ∃ k : Nat, k ≤ n ∧ t10 = .int .i64 (k : Int) ∧ wr.ownsRow w.heap.size 5 1 t9 k (cellsOf (mix a b c k)) ∧ Below w.heap.size w wr

theorem cells_snoc (l : List UInt8) (x y z : UInt8) : cellsOf (l ++ [x ^^^ y ^^^ z]) = cellsOf l ++ [.int .u8 ((x.toNat ^^^ y.toNat ^^^ z.toNat : Nat) : Int)] := by
  simp [cellsOf]
theorem own_ge {w : World} {base : Nat} {e : TypeId} {size : Nat} {v : Value} {n : Nat} {xs : List Value} (h : w.ownsRow base e size v n xs) {g : Nat} (hg : v.ownBlock = some g) : base ≤ g := by
  rcases h.2 with ⟨rfl, _⟩ | ⟨g', cap, cur, rfl, hb, _⟩
  · simp [Value.ownBlock] at hg
  · simp [Value.ownBlock] at hg
    omega

/-- What the appended bytes are as a text, in every later world. -/
theorem own_string {w wr : World} {v : Value} {n : Nat} {l : List UInt8} (h : wr.ownsRow w.heap.size 5 1 v n (cellsOf l)) (hl : l.length = n) (W : World) (hb : Below wr.heap.size wr W) :
    (convert 37 9 v).run Tryd.prog W = .ok (.string ⟨l.toArray⟩) W := by
  rcases h.2 with ⟨rfl, h0⟩ | ⟨g, cap, cur, rfl, hg, hh, _⟩
  · have : l = [] := List.length_eq_zero_iff.1 (by omega)
    subst this
    exact run_convert_bytes_nil (P := Tryd.prog) W 37 5 Tryd.underlying37 Tryd.underlying5 0 0 9 Tryd.underlying9
  · have hlt : g < wr.heap.size := (Array.getElem?_eq_some_iff.1 hh).1
    have e : strOfNums (l.map fun x => (x.toNat : Int)) = ⟨l.toArray⟩ := by
      unfold strOfNums
      rw [List.map_map]
      congr 2
      conv => rhs; rw [← List.map_id l]
      apply List.map_congr_left
      intro x _
      simp
    rw [← e]
    refine run_convert_bytes_arg (P := Tryd.prog) W 37 5 Tryd.underlying37 Tryd.underlying5 g 0 n cap _ (by simpa using hl) ?_ 9 Tryd.underlying9
    intro i hi
    have hc := h.cells (g := g) rfl i (.int .u8 (l[i].toNat : Int)) (by simp [cellsOf, hl, hi])
    have ha : (⟨g, 0, none⟩ : Addr).add i = ⟨g, i, none⟩ := by cases i <;> simp [Addr.add]
    rw [ha] at hc
    rw [Nat.zero_add, hb.cell (p := ⟨g, i, none⟩) hlt, hc, List.getD_eq_getElem?_getD, List.getElem?_map, List.getElem?_eq_getElem (by omega)]
    rfl

theorem mix_sum (a b c : ByteArray) (k : Nat) (ha : k ≤ a.size) (hb : k ≤ b.size) (hc : k ≤ c.size) :
    Crc.sum (mix a b c k) = Crc.sum (a.extract 0 k).data.toList ^^^ Crc.sum (b.extract 0 k).data.toList ^^^ Crc.sum (c.extract 0 k).data.toList := by
  rw [extract_list, extract_list, extract_list, List.drop_zero, List.drop_zero, List.drop_zero, Nat.sub_zero]
  exact Crc.linear _ _ _ (by simp; omega) (by simp; omega)

theorem info8 : (Tryd.prog.info? 5).map (fun i => (i.zero, i.size, i.bytes)) = some (some (.int .u8 0), 1, 1) := by kernel_rfl
theorem news_one (x : Int) : ∀ u ∈ [Value.int .u8 x], u.oneCell' = true := by
  intro u hu
  simp at hu
  subst hu
  rfl

/-- A part that a variadic call has laid. -/
def Laid (s : ByteArray) (v : Value) (w : World) : Prop := ∃ g, v = .slice (some ⟨g, 0, none⟩) 1 1 ∧ g < w.heap.size ∧ w.cell? ⟨g, 0, none⟩ = some (.string s)
theorem Laid.below {s : ByteArray} {v : Value} {w w' : World} (h : Laid s v w) (hb : Below w.heap.size w w') : Laid s v w' := by
  obtain ⟨g, rfl, hg, hc⟩ := h
  exact ⟨g, rfl, Nat.lt_of_lt_of_le hg hb.size, (hb.cell (p := ⟨g, 0, none⟩) hg).trans hc⟩
theorem Laid.new (s : ByteArray) (w : World) : Laid s (.slice (some ⟨w.heap.size, 0, none⟩) 1 1) (w.alloc (.cells #[.string s] 9)) :=
  ⟨w.heap.size, rfl, by simp, World.cell?_alloc_at _ _ _ _ rfl⟩
theorem Laid.sum {s : ByteArray} {v : Value} {w : World} (h : Laid s v w) (ht : Tab w) (hs : s.size ≤ 1000) :
    Calls Tryd.prog 13 #[v] w fun e w' => ∃ u, e = .returned u ∧ (u = .int .u32 (R (Crc.sum s.data.toList)) ∧ Below w.heap.size w w') := by
  obtain ⟨g, rfl, hg, hc⟩ := h
  have hp : Parts w (some ⟨g, 0, none⟩) [s] := by
    refine ⟨.inr ⟨g, rfl, hg, ?_⟩, by simp, ?_⟩
    · intro i hi
      match i, hi with
      | 0, _ => exact hc
    · intro i hi
      match i, hi with
      | 0, _ => show s.size ≤ maxLen; unfold maxLen; omega
  refine (sum_any [s] _ 1 1 w ht hp rfl).mono fun e w' ⟨he, hb⟩ => ⟨_, he, ?_, hb⟩
  rw [all_one]

/-- What each operation of the last statement leaves. -/
def Vs (dv : Value) (D a b c A B C : ByteArray) (n : Nat) : Nat → Value → World → Prop
  | 0, v, _ => v = .bool true
  | 1, v, _ => v = .bool true
  | 2, v, _ => v = dv
  | 3, v, _ => v = .string D
  | 4, v, w => Laid D v w
  | 5, v, _ => v = .int .u32 (R (Crc.sum D.data.toList))
  | 6, v, _ => v = .string a
  | 7, v, _ => v = .int .i64 (n : Int)
  | 8, v, _ => v = .string A
  | 9, v, w => Laid A v w
  | 10, v, _ => v = .int .u32 (R (Crc.sum A.data.toList))
  | 11, v, _ => v = .string b
  | 12, v, _ => v = .int .i64 (n : Int)
  | 13, v, _ => v = .string B
  | 14, v, w => Laid B v w
  | 15, v, _ => v = .int .u32 (R (Crc.sum B.data.toList))
  | 16, v, _ => v = .int .u32 (R (Crc.sum A.data.toList ^^^ Crc.sum B.data.toList))
  | 17, v, _ => v = .string c
  | 18, v, _ => v = .int .i64 (n : Int)
  | 19, v, _ => v = .string C
  | 20, v, w => Laid C v w
  | 21, v, _ => v = .int .u32 (R (Crc.sum C.data.toList))
  | 22, v, _ => v = .int .u32 (R (Crc.sum A.data.toList ^^^ Crc.sum B.data.toList ^^^ Crc.sum C.data.toList))
  | 23, v, _ => v = .bool true
  | 24, v, _ => v = .bool true
  | 25, v, _ => v = .bool true
  | _, _, _ => True
theorem Vs_below {dv : Value} {D a b c A B C : ByteArray} {n : Nat} (i : Nat) (v : Value) (w w' : World) (h : Vs dv D a b c A B C n i v w) (hb : Below w.heap.size w w') : Vs dv D a b c A B C n i v w' := by
  match i, h with
  | 4, h => exact Laid.below h hb
  | 9, h => exact Laid.below h hb
  | 14, h => exact Laid.below h hb
  | 20, h => exact Laid.below h hb
  | 0, h => exact h
  | 1, h => exact h
  | 2, h => exact h
  | 3, h => exact h
  | 5, h => exact h
  | 6, h => exact h
  | 7, h => exact h
  | 8, h => exact h
  | 10, h => exact h
  | 11, h => exact h
  | 12, h => exact h
  | 13, h => exact h
  | 15, h => exact h
  | 16, h => exact h
  | 17, h => exact h
  | 18, h => exact h
  | 19, h => exact h
  | 21, h => exact h
  | 22, h => exact h
  | 23, h => exact h
  | 24, h => exact h
  | 25, h => exact h
  | _ + 26, _ => exact trivial

set_option maxHeartbeats 2000000 in
theorem walk (a b c : ByteArray) (ha : a.size ≤ maxLen) (_hb : b.size ≤ maxLen) (_hc : c.size ≤ maxLen) (w : World) (ht : Tab w) :
    Calls Tryd.prog 7 #[.string a, .string b, .string c] w fun e w' => e = .returned (.bool true) ∧ Below w.heap.size w w' := by
  unfold maxLen at ha _hb _hc
  obtain ⟨n, hna, hnb, hnc, hn, hmin⟩ := run_min4 Tryd.prog a.size b.size c.size
  obtain ⟨i0, hi, hz0, hz1, hz2⟩ := info_parts info8
  go_enter Tryd.func7, Tryd.ntmps7
  go_wp2_with fail
  refine (awake_any _ (by exact ht)).mono ?_
  rintro e w1 ⟨rfl, hb1⟩
  have HT1 := Lib.hid (ht.below hb1 ht.lt)
  have HB1 := Lib.hid hb1
  clear hb1
  go_wp2_with fail
  clear hmin
  go_loopw [9, 10] (LRel w a b c n) (fun _ i _ => n - (intOf i).toNat)
  case atStart => exact ⟨0, by omega, rfl, World.ownsRow_nil _ _ _ _, HB1.out⟩
  case round =>
    obtain ⟨k, hk, rfl, hown, hbel⟩ := hrel
    by_cases hlt : k < n
    · have hka : k < a.size := by omega
      have hkb : k < b.size := by omega
      have hkc : k < c.size := by omega
      have HM := Lib.hid (mix_succ a b c k hka hkb hkc)
      have h1 : bits .xor .u8 (a[k].toNat : Int) (b[k].toNat : Int) = ((a[k].toNat ^^^ b[k].toNat : Nat) : Int) := u8_xor_nat _ _ a[k].toNat_lt b[k].toNat_lt
      have h2 : bits .xor .u8 ((a[k].toNat ^^^ b[k].toNat : Nat) : Int) (c[k].toNat : Int) = ((a[k].toNat ^^^ b[k].toNat ^^^ c[k].toNat : Nat) : Int) := u8_xor_nat _ _ (Nat.xor_lt_two_pow (n := 8) a[k].toNat_lt b[k].toNat_lt) c[k].toNat_lt
      have HO := Lib.hid hown
      have HBl := Lib.hid hbel
      clear hown hbel
      have hsz : w.heap.size ≤ wr.heap.size := HBl.out.size
      have HN := Lib.hid (World.news_of_block (heap_alloc_new wr (.cells #[.int .u8 ((a[k].toNat ^^^ b[k].toNat ^^^ c[k].toNat : Nat) : Int)] 5)))
      go_wp2
      go_region_law ((refine step_append_lies _ (by rfl) _ _ 37 (by rfl) w.heap.size 5 i0 (.int .u8 0) 1 1 Tryd.underlying37 hi hz0 hz1 hz2 rfl (by decide) u9 k (cellsOf (mix a b c k)) (by rfl) (by exact (HO.out.alloc _).drew) ⟨wr.heap.size, 0, none⟩ 1 1 [.int .u8 ((a[k].toNat ^^^ b[k].toNat ^^^ c[k].toNat : Nat) : Int)] (by rfl) (by rfl) (by exact HN.out) (news_one _) (by decide) (by unfold maxLen; omega) (by omega) (by simp; omega) (wr.heap.size + 1) (by simp) ?_; intro g cap w2 hown2 hgrow hat hlt2))
      all_goals go_wp2
      all_goals go_roundw
      all_goals first
        | exact ⟨k + 1, by omega, by go_num, by rw [HM.out, cells_snoc]; exact hown2, ((HBl.out.alloc hsz _).drew).grown hgrow (by simp; omega) (fun j hj => own_ge HO.out hj)⟩
        | (simp [intOf]; omega)
    · obtain rfl : k = n := by omega
      obtain ⟨D, hD, HC⟩ : ∃ D : ByteArray, D.data.toList = mix a b c k ∧ Hid (∀ W, Below wr.heap.size wr W → (convert 37 9 u9).run Tryd.prog W = .ok (.string D) W) :=
        ⟨⟨(mix a b c k).toArray⟩, rfl, fun W hW => own_string hown (mix_length a b c k hna hnb hnc) W hW⟩
      have hDs : D.size = k := by rw [← size_list, hD, mix_length a b c k hna hnb hnc]
      have hsum := congrArg R (mix_sum a b c k hna hnb hnc)
      rw [← hD] at hsum
      generalize hA : a.extract 0 k = A
      generalize hB : b.extract 0 k = B
      generalize hC : c.extract 0 k = C
      have HTr := Lib.hid (ht.below hbel ht.lt)
      have HBl := Lib.hid hbel
      have HX : Hid (R (Crc.sum D.data.toList) = R (Crc.sum A.data.toList ^^^ Crc.sum B.data.toList ^^^ Crc.sum C.data.toList)) := by rw [← hA, ← hB, ← hC]; exact hsum
      have hzA : A.size ≤ 300 := by rw [← hA]; simp; omega
      have hzB : B.size ≤ 300 := by rw [← hB]; simp; omega
      have hzC : C.size ≤ 300 := by rw [← hC]; simp; omega
      have hzD : D.size ≤ 300 := by omega
      clear hown hbel hD hDs hsum
      go_wp2
      refine wp_region_inv (by kernel_rfl) (Vs u9 D a b c A B C k) (fun W => Below wr.heap.size wr W ∧ Tab W) (fun W W' => Below W.heap.size W W') (by kernel_rfl) (by kernel_rfl) 63 rfl (by kernel_rfl) Vs_below ⟨(Below.refl _ _).drew, HTr.out⟩ ?_ ?_
      · intro i o ho x W hk
        match i, ho with
        | 0, ho =>
          cases ho
          have qf : x.tmps[7]?.getD undef = .bool true := hk.fix 7 (by kernel_rfl)
          refine ⟨wanted_plain rfl, ?_⟩
          refine wp_value (v := .bool true) (w' := W) ?_ ⟨_, rfl, rfl, Below.refl _ _, hk.world⟩
          go_simp
        | 1, ho =>
          cases ho
          have q0 : x.tmps[38]?.getD undef = .bool true := hk.dep 0 38 (by kernel_rfl) (by kernel_rfl)
          refine ⟨wanted_plain rfl, ?_⟩
          refine wp_value (v := .bool true) (w' := W) ?_ ⟨_, rfl, rfl, Below.refl _ _, hk.world⟩
          go_simp
        | 2, ho =>
          cases ho
          have qf : x.tmps[9]?.getD undef = u9 := hk.fix 9 (by kernel_rfl)
          refine ⟨wanted_guard (g := 1) (d := 39) (by rfl) (by kernel_rfl) (show x.tmps[39]?.getD undef = .bool true from hk.dep 1 39 (by kernel_rfl) (by kernel_rfl)), ?_⟩
          refine wp_value (v := u9) (w' := W) ?_ ⟨_, rfl, rfl, Below.refl _ _, hk.world⟩
          go_simp
        | 3, ho =>
          cases ho
          have q2 : x.tmps[40]?.getD undef = u9 := hk.dep 2 40 (by kernel_rfl) (by kernel_rfl)
          refine ⟨wanted_guard (g := 1) (d := 39) (by rfl) (by kernel_rfl) (show x.tmps[39]?.getD undef = .bool true from hk.dep 1 39 (by kernel_rfl) (by kernel_rfl)), ?_⟩
          have qc := HC.out W hk.world.1
          refine wp_value (v := .string D) (w' := W) ?_ ⟨_, rfl, rfl, Below.refl _ _, hk.world⟩
          go_simp
        | 4, ho =>
          cases ho
          have q3 : x.tmps[41]?.getD undef = .string D := hk.dep 3 41 (by kernel_rfl) (by kernel_rfl)
          refine ⟨wanted_guard (g := 1) (d := 39) (by rfl) (by kernel_rfl) (show x.tmps[39]?.getD undef = .bool true from hk.dep 1 39 (by kernel_rfl) (by kernel_rfl)), ?_⟩
          refine wp_value (v := .slice (some ⟨W.heap.size, 0, none⟩) 1 1) (w' := W.alloc (.cells #[.string D] 9)) ?_ ⟨_, rfl, Laid.new D W, (Below.refl _ _).alloc (Nat.le_refl _) _, hk.world.1.alloc hk.world.1.size _, hk.world.2.alloc _⟩
          go_simp
        | 5, ho =>
          cases ho
          have q4 : Laid D (x.tmps[42]?.getD undef) W := hk.dep 4 42 (by kernel_rfl) (by kernel_rfl)
          refine ⟨wanted_guard (g := 1) (d := 39) (by rfl) (by kernel_rfl) (show x.tmps[39]?.getD undef = .bool true from hk.dep 1 39 (by kernel_rfl) (by kernel_rfl)), ?_⟩
          refine wp_enter (f := 13) (args := #[x.tmps[42]?.getD undef]) (w' := W) ?_ (q4.sum hk.world.2 (by omega)) ?_
          · go_simp
          · rintro v W' ⟨rfl, hb⟩
            exact ⟨_, rfl, rfl, hb, hk.world.1.trans (hb.mono hk.world.1.size), hk.world.2.below hb hk.world.2.lt⟩
        | 6, ho =>
          cases ho
          have qf : x.tmps[0]?.getD undef = .string a := hk.fix 0 (by kernel_rfl)
          refine ⟨wanted_guard (g := 1) (d := 39) (by rfl) (by kernel_rfl) (show x.tmps[39]?.getD undef = .bool true from hk.dep 1 39 (by kernel_rfl) (by kernel_rfl)), ?_⟩
          refine wp_value (v := .string a) (w' := W) ?_ ⟨_, rfl, rfl, Below.refl _ _, hk.world⟩
          go_simp
        | 7, ho =>
          cases ho
          have qf : x.tmps[8]?.getD undef = .int .i64 (k : Int) := hk.fix 8 (by kernel_rfl)
          refine ⟨wanted_guard (g := 1) (d := 39) (by rfl) (by kernel_rfl) (show x.tmps[39]?.getD undef = .bool true from hk.dep 1 39 (by kernel_rfl) (by kernel_rfl)), ?_⟩
          refine wp_value (v := .int .i64 (k : Int)) (w' := W) ?_ ⟨_, rfl, rfl, Below.refl _ _, hk.world⟩
          go_simp
        | 8, ho =>
          cases ho
          have q6 : x.tmps[44]?.getD undef = .string a := hk.dep 6 44 (by kernel_rfl) (by kernel_rfl)
          have q7 : x.tmps[45]?.getD undef = .int .i64 (k : Int) := hk.dep 7 45 (by kernel_rfl) (by kernel_rfl)
          refine ⟨wanted_guard (g := 1) (d := 39) (by rfl) (by kernel_rfl) (show x.tmps[39]?.getD undef = .bool true from hk.dep 1 39 (by kernel_rfl) (by kernel_rfl)), ?_⟩
          refine wp_value (v := .string A) (w' := W) ?_ ⟨_, rfl, rfl, Below.refl _ _, hk.world⟩
          go_simp
        | 9, ho =>
          cases ho
          have q8 : x.tmps[46]?.getD undef = .string A := hk.dep 8 46 (by kernel_rfl) (by kernel_rfl)
          refine ⟨wanted_guard (g := 1) (d := 39) (by rfl) (by kernel_rfl) (show x.tmps[39]?.getD undef = .bool true from hk.dep 1 39 (by kernel_rfl) (by kernel_rfl)), ?_⟩
          refine wp_value (v := .slice (some ⟨W.heap.size, 0, none⟩) 1 1) (w' := W.alloc (.cells #[.string A] 9)) ?_ ⟨_, rfl, Laid.new A W, (Below.refl _ _).alloc (Nat.le_refl _) _, hk.world.1.alloc hk.world.1.size _, hk.world.2.alloc _⟩
          go_simp
        | 10, ho =>
          cases ho
          have q9 : Laid A (x.tmps[47]?.getD undef) W := hk.dep 9 47 (by kernel_rfl) (by kernel_rfl)
          refine ⟨wanted_guard (g := 1) (d := 39) (by rfl) (by kernel_rfl) (show x.tmps[39]?.getD undef = .bool true from hk.dep 1 39 (by kernel_rfl) (by kernel_rfl)), ?_⟩
          refine wp_enter (f := 13) (args := #[x.tmps[47]?.getD undef]) (w' := W) ?_ (q9.sum hk.world.2 (by omega)) ?_
          · go_simp
          · rintro v W' ⟨rfl, hb⟩
            exact ⟨_, rfl, rfl, hb, hk.world.1.trans (hb.mono hk.world.1.size), hk.world.2.below hb hk.world.2.lt⟩
        | 11, ho =>
          cases ho
          have qf : x.tmps[1]?.getD undef = .string b := hk.fix 1 (by kernel_rfl)
          refine ⟨wanted_guard (g := 1) (d := 39) (by rfl) (by kernel_rfl) (show x.tmps[39]?.getD undef = .bool true from hk.dep 1 39 (by kernel_rfl) (by kernel_rfl)), ?_⟩
          refine wp_value (v := .string b) (w' := W) ?_ ⟨_, rfl, rfl, Below.refl _ _, hk.world⟩
          go_simp
        | 12, ho =>
          cases ho
          have qf : x.tmps[8]?.getD undef = .int .i64 (k : Int) := hk.fix 8 (by kernel_rfl)
          refine ⟨wanted_guard (g := 1) (d := 39) (by rfl) (by kernel_rfl) (show x.tmps[39]?.getD undef = .bool true from hk.dep 1 39 (by kernel_rfl) (by kernel_rfl)), ?_⟩
          refine wp_value (v := .int .i64 (k : Int)) (w' := W) ?_ ⟨_, rfl, rfl, Below.refl _ _, hk.world⟩
          go_simp
        | 13, ho =>
          cases ho
          have q11 : x.tmps[49]?.getD undef = .string b := hk.dep 11 49 (by kernel_rfl) (by kernel_rfl)
          have q12 : x.tmps[50]?.getD undef = .int .i64 (k : Int) := hk.dep 12 50 (by kernel_rfl) (by kernel_rfl)
          refine ⟨wanted_guard (g := 1) (d := 39) (by rfl) (by kernel_rfl) (show x.tmps[39]?.getD undef = .bool true from hk.dep 1 39 (by kernel_rfl) (by kernel_rfl)), ?_⟩
          refine wp_value (v := .string B) (w' := W) ?_ ⟨_, rfl, rfl, Below.refl _ _, hk.world⟩
          go_simp
        | 14, ho =>
          cases ho
          have q13 : x.tmps[51]?.getD undef = .string B := hk.dep 13 51 (by kernel_rfl) (by kernel_rfl)
          refine ⟨wanted_guard (g := 1) (d := 39) (by rfl) (by kernel_rfl) (show x.tmps[39]?.getD undef = .bool true from hk.dep 1 39 (by kernel_rfl) (by kernel_rfl)), ?_⟩
          refine wp_value (v := .slice (some ⟨W.heap.size, 0, none⟩) 1 1) (w' := W.alloc (.cells #[.string B] 9)) ?_ ⟨_, rfl, Laid.new B W, (Below.refl _ _).alloc (Nat.le_refl _) _, hk.world.1.alloc hk.world.1.size _, hk.world.2.alloc _⟩
          go_simp
        | 15, ho =>
          cases ho
          have q14 : Laid B (x.tmps[52]?.getD undef) W := hk.dep 14 52 (by kernel_rfl) (by kernel_rfl)
          refine ⟨wanted_guard (g := 1) (d := 39) (by rfl) (by kernel_rfl) (show x.tmps[39]?.getD undef = .bool true from hk.dep 1 39 (by kernel_rfl) (by kernel_rfl)), ?_⟩
          refine wp_enter (f := 13) (args := #[x.tmps[52]?.getD undef]) (w' := W) ?_ (q14.sum hk.world.2 (by omega)) ?_
          · go_simp
          · rintro v W' ⟨rfl, hb⟩
            exact ⟨_, rfl, rfl, hb, hk.world.1.trans (hb.mono hk.world.1.size), hk.world.2.below hb hk.world.2.lt⟩
        | 16, ho =>
          cases ho
          have q10 : x.tmps[48]?.getD undef = .int .u32 (R (Crc.sum A.data.toList)) := hk.dep 10 48 (by kernel_rfl) (by kernel_rfl)
          have q15 : x.tmps[53]?.getD undef = .int .u32 (R (Crc.sum B.data.toList)) := hk.dep 15 53 (by kernel_rfl) (by kernel_rfl)
          refine ⟨wanted_guard (g := 1) (d := 39) (by rfl) (by kernel_rfl) (show x.tmps[39]?.getD undef = .bool true from hk.dep 1 39 (by kernel_rfl) (by kernel_rfl)), ?_⟩
          have qx := R_xor (Crc.sum A.data.toList) (Crc.sum B.data.toList)
          refine wp_value (v := .int .u32 (R (Crc.sum A.data.toList ^^^ Crc.sum B.data.toList))) (w' := W) ?_ ⟨_, rfl, rfl, Below.refl _ _, hk.world⟩
          go_simp
        | 17, ho =>
          cases ho
          have qf : x.tmps[2]?.getD undef = .string c := hk.fix 2 (by kernel_rfl)
          refine ⟨wanted_guard (g := 1) (d := 39) (by rfl) (by kernel_rfl) (show x.tmps[39]?.getD undef = .bool true from hk.dep 1 39 (by kernel_rfl) (by kernel_rfl)), ?_⟩
          refine wp_value (v := .string c) (w' := W) ?_ ⟨_, rfl, rfl, Below.refl _ _, hk.world⟩
          go_simp
        | 18, ho =>
          cases ho
          have qf : x.tmps[8]?.getD undef = .int .i64 (k : Int) := hk.fix 8 (by kernel_rfl)
          refine ⟨wanted_guard (g := 1) (d := 39) (by rfl) (by kernel_rfl) (show x.tmps[39]?.getD undef = .bool true from hk.dep 1 39 (by kernel_rfl) (by kernel_rfl)), ?_⟩
          refine wp_value (v := .int .i64 (k : Int)) (w' := W) ?_ ⟨_, rfl, rfl, Below.refl _ _, hk.world⟩
          go_simp
        | 19, ho =>
          cases ho
          have q17 : x.tmps[55]?.getD undef = .string c := hk.dep 17 55 (by kernel_rfl) (by kernel_rfl)
          have q18 : x.tmps[56]?.getD undef = .int .i64 (k : Int) := hk.dep 18 56 (by kernel_rfl) (by kernel_rfl)
          refine ⟨wanted_guard (g := 1) (d := 39) (by rfl) (by kernel_rfl) (show x.tmps[39]?.getD undef = .bool true from hk.dep 1 39 (by kernel_rfl) (by kernel_rfl)), ?_⟩
          refine wp_value (v := .string C) (w' := W) ?_ ⟨_, rfl, rfl, Below.refl _ _, hk.world⟩
          go_simp
        | 20, ho =>
          cases ho
          have q19 : x.tmps[57]?.getD undef = .string C := hk.dep 19 57 (by kernel_rfl) (by kernel_rfl)
          refine ⟨wanted_guard (g := 1) (d := 39) (by rfl) (by kernel_rfl) (show x.tmps[39]?.getD undef = .bool true from hk.dep 1 39 (by kernel_rfl) (by kernel_rfl)), ?_⟩
          refine wp_value (v := .slice (some ⟨W.heap.size, 0, none⟩) 1 1) (w' := W.alloc (.cells #[.string C] 9)) ?_ ⟨_, rfl, Laid.new C W, (Below.refl _ _).alloc (Nat.le_refl _) _, hk.world.1.alloc hk.world.1.size _, hk.world.2.alloc _⟩
          go_simp
        | 21, ho =>
          cases ho
          have q20 : Laid C (x.tmps[58]?.getD undef) W := hk.dep 20 58 (by kernel_rfl) (by kernel_rfl)
          refine ⟨wanted_guard (g := 1) (d := 39) (by rfl) (by kernel_rfl) (show x.tmps[39]?.getD undef = .bool true from hk.dep 1 39 (by kernel_rfl) (by kernel_rfl)), ?_⟩
          refine wp_enter (f := 13) (args := #[x.tmps[58]?.getD undef]) (w' := W) ?_ (q20.sum hk.world.2 (by omega)) ?_
          · go_simp
          · rintro v W' ⟨rfl, hb⟩
            exact ⟨_, rfl, rfl, hb, hk.world.1.trans (hb.mono hk.world.1.size), hk.world.2.below hb hk.world.2.lt⟩
        | 22, ho =>
          cases ho
          have q16 : x.tmps[54]?.getD undef = .int .u32 (R (Crc.sum A.data.toList ^^^ Crc.sum B.data.toList)) := hk.dep 16 54 (by kernel_rfl) (by kernel_rfl)
          have q21 : x.tmps[59]?.getD undef = .int .u32 (R (Crc.sum C.data.toList)) := hk.dep 21 59 (by kernel_rfl) (by kernel_rfl)
          refine ⟨wanted_guard (g := 1) (d := 39) (by rfl) (by kernel_rfl) (show x.tmps[39]?.getD undef = .bool true from hk.dep 1 39 (by kernel_rfl) (by kernel_rfl)), ?_⟩
          have qx := R_xor (Crc.sum A.data.toList ^^^ Crc.sum B.data.toList) (Crc.sum C.data.toList)
          refine wp_value (v := .int .u32 (R (Crc.sum A.data.toList ^^^ Crc.sum B.data.toList ^^^ Crc.sum C.data.toList))) (w' := W) ?_ ⟨_, rfl, rfl, Below.refl _ _, hk.world⟩
          go_simp
        | 23, ho =>
          cases ho
          have q5 : x.tmps[43]?.getD undef = .int .u32 (R (Crc.sum D.data.toList)) := hk.dep 5 43 (by kernel_rfl) (by kernel_rfl)
          have q22 : x.tmps[60]?.getD undef = .int .u32 (R (Crc.sum A.data.toList ^^^ Crc.sum B.data.toList ^^^ Crc.sum C.data.toList)) := hk.dep 22 60 (by kernel_rfl) (by kernel_rfl)
          refine ⟨wanted_guard (g := 1) (d := 39) (by rfl) (by kernel_rfl) (show x.tmps[39]?.getD undef = .bool true from hk.dep 1 39 (by kernel_rfl) (by kernel_rfl)), ?_⟩
          have qx := HX.out
          refine wp_value (v := .bool true) (w' := W) ?_ ⟨_, rfl, rfl, Below.refl _ _, hk.world⟩
          go_simp
        | 24, ho =>
          cases ho
          have q1 : x.tmps[39]?.getD undef = .bool true := hk.dep 1 39 (by kernel_rfl) (by kernel_rfl)
          have q23 : x.tmps[61]?.getD undef = .bool true := hk.dep 23 61 (by kernel_rfl) (by kernel_rfl)
          refine ⟨wanted_plain rfl, ?_⟩
          refine wp_value (v := .bool true) (w' := W) ?_ ⟨_, rfl, rfl, Below.refl _ _, hk.world⟩
          go_simp
        | 25, ho =>
          cases ho
          have q24 : x.tmps[62]?.getD undef = .bool true := hk.dep 24 62 (by kernel_rfl) (by kernel_rfl)
          refine ⟨wanted_plain rfl, ?_⟩
          refine wp_value (v := .bool true) (w' := W) ?_ ⟨_, rfl, rfl, Below.refl _ _, hk.world⟩
          go_simp
        | _ + 26, ho => cases ho
      · intro x W hk
        have h25 : x.tmps[6]?.getD undef = .bool true := hk.last 25 6 (by decide) (by kernel_rfl)
        have hd := hk.defers
        have hW := hk.world.1
        clear hk
        go_wp2
        refine bodyPost_ret (v := .bool true) ?_ hd ⟨rfl, HBl.out.trans (hW.mono HBl.out.size)⟩
        rw [results_tmp (t := 6) (by rfl), Array.getD_eq_getD_getElem?, h25]

/-! ### The row -/
theorem contract (H : Type) (enc : TypeId × Value → H) (W : World) (base : Nat) (args : Array Value) (ds gs : List (DataW H)) (before : List MemPlace)
    (hval : ∀ (j : Nat) t v, Tryd.f7.params[j]? = some t → args[j]? = some v → Value.okWide Tryd.prog W .any base t v)
    (hW : DataW.Whole enc Tryd.prog Tryd.f7.params.toList Rows.crcLinearSpec.vars false W args.toList ds gs before) (hL : laidMetH Tryd.prog Rows.crcLinearRow.laid W) :
    Calls Tryd.prog 7 args W fun e W' => ∃ v, e = .returned v ∧ Rows.crcLinearSpec.post enc Tryd.prog Tryd.f7 false true false false W args v W' := by
  have hW' := hW
  obtain ⟨p, q, hA0, hV, rfl, hfz, hnd⟩ := hW
  have hA : DataW.TrodAll enc Tryd.prog W 0 (fun _ => true) true Tryd.f7.params.toList args.toList ds p := hA0
  rw [Tryd.params7] at hA hval
  obtain ⟨v0, vs0, d0, ds0, p0, q0, hargs, rfl, rfl, h0, r0⟩ := trodAll_cons hA
  obtain ⟨v1, vs1, d1, ds1, p1, q1, rfl, rfl, rfl, h1, r1⟩ := trodAll_cons r0
  obtain ⟨v2, vs2, d2, ds2, p2, q2, rfl, rfl, rfl, h2, r2⟩ := trodAll_cons r1
  obtain ⟨rfl, rfl, rfl⟩ := trodAll_nil r2
  obtain rfl : args = #[v0, v1, v2] := by cases args; simp_all
  obtain ⟨rfl, rfl⟩ := trodVars_none hV
  refine law_contract (tb := 4) laidOut (by kernel_rfl) rfl (by kernel_rfl) Tryd.underlying4 rfl hW' ?_
  clear hA0 hW' hA
  obtain ⟨a0, rfl, _, _, w0⟩ := open_string Tryd.underlying9 (hval 0 9 v0 rfl rfl) h0
  obtain ⟨a1, rfl, _, _, w1⟩ := open_string Tryd.underlying9 (hval 1 9 v1 rfl rfl) h1
  obtain ⟨a2, rfl, _, _, w2⟩ := open_string Tryd.underlying9 (hval 2 9 v2 rfl rfl) h2
  exact walk a0 a1 a2 w0 w1 w2 W (tab_of_laid hL)

theorem laid_met (os : Os) : laidMet Tryd.prog Rows.crcLinearRow.laid ((laidWorld os).forCall (fun _ _ => 0) ⟨#[], #[.string ByteArray.empty, .string ByteArray.empty, .string ByteArray.empty], []⟩).memory :=
  laidMet_of_run' 8 (by kernel_rfl) (by kernel_rfl)
theorem reads (os : Os) {H : Type} (enc : TypeId × Value → H) : ∃ places, DataW.whole enc Tryd.prog ((laidWorld os).forCall (fun _ _ => 0) ⟨#[], #[.string ByteArray.empty, .string ByteArray.empty, .string ByteArray.empty], []⟩).memory Tryd.f7.params.toList Rows.crcLinearSpec.vars false (#[.string ByteArray.empty, .string ByteArray.empty, .string ByteArray.empty] : Array Value).toList 8 = some ([.lit (.string []), .lit (.string []), .lit (.string [])], [], places) :=
  ⟨[], by kernel_rfl⟩

set_option maxRecDepth 100000 in
theorem lifted (os : Os) (started : os.Started) (H : Type) (enc : TypeId × Value → H) (F : Stop.Interp) :
    ReturnsInHanded {} Tryd.checked os 7 .any ((OpenSpec.ofChange Rows.crcLinearSpec).preRow enc Tryd.prog Tryd.f7 Rows.crcLinearRow.domain false Rows.crcLinearRow.laid) (((OpenSpec.ofChange Rows.crcLinearSpec).at F).post enc Tryd.prog Tryd.f7 false true false false) := by
  obtain ⟨places, hx⟩ := reads os enc
  refine returnsInHanded_of_row (C := Tryd.checked) (s := OpenSpec.ofChange Rows.crcLinearSpec) own started (by kernel_rfl) Tryd.func7
    (witness_row_at (enc := enc) (C := Tryd.checked) false (laidWorld os) #[.string ByteArray.empty, .string ByteArray.empty, .string ByteArray.empty] rfl (by kernel_rfl) (by kernel_rfl) (by kernel_rfl)
      (OpenSpec.preRow_of_cond 8 hx (by kernel_rfl) (fun k hk => by cases hk) (by kernel_rfl) (laid_met os))) ?_
  intro W base args ds gs before hval hW _ _ _ hL _ _
  exact contract H enc W base args ds gs before hval hW hL

theorem said : Rows.CrcLinearSaid :=
  OpenClaim.holds_of_cond 7 Tryd.f7 rfl rfl rfl rfl rfl rfl rfl ⟨rfl, rfl, rfl, rfl, rfl⟩ rfl rfl rfl rfl rfl (by kernel_rfl) Tryd.func7 (by kernel_rfl)
    (of_decide_eq_true (by kernel_rfl)) (by unfold Func.isWrapper; first | (rw [if_pos (by decide +kernel)]; kernel_rfl) | (rw [if_neg (by decide +kernel)]; exact ⟨rfl, rfl⟩))
    (fun os started H enc _ F => by rw [OpenClaim.pre_eq_preRow]; exact lifted os started H enc F)

theorem plain (f : FuncId) (fn : Func) (hf : Tryd.pinned.checked.prog.funcNamed "homecoming/homecominglaw01.CrcLinear" = some f) (hfn : Tryd.pinned.checked.prog.funcs[f]? = some fn) :
    false = Tryd.pinned.checked.prog.looks [] ∧ ∀ (j : Nat) t, fn.params[j]? = some t → Tryd.pinned.checked.prog.wantsStandIn t = false := by
  obtain rfl : f = 7 := Option.some.inj ((show Tryd.prog.funcNamed "homecoming/homecominglaw01.CrcLinear" = some 7 by kernel_rfl).symm.trans hf) |>.symm
  obtain rfl : fn = Tryd.f7 := (Option.some.inj (Tryd.func7.symm.trans hfn)).symm
  refine ⟨by kernel_rfl, fun j t ht => ?_⟩
  have hall : (Tryd.f7.params.toList.all fun u => !Tryd.prog.wantsStandIn u) = true := by kernel_rfl
  have hm : t ∈ Tryd.f7.params.toList := by simpa using Array.mem_of_getElem? ht
  exact (show Tryd.prog.wantsStandIn t = false by simpa using List.all_eq_true.1 hall t hm)

/-- THE STATEMENT. -/
theorem card : Rows.CrcLinearCardSaid :=
  Claim7.holds_tied_plain_at .later [] _ _ _ _ said (fun _ h => by cases h) (by kernel_rfl) (fun _ h => by cases h) crcLinear_row_tie rfl ⟨rfl, rfl⟩ (by kernel_rfl) rfl plain (by kernel_rfl)
#print axioms card
end Go.Proofs.YtimpidacckifjaaDoor.crcLinear
