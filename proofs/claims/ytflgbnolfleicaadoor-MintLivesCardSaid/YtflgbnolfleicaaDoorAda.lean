/-
  The library's functions that package address calls to look at an address: that they are in this program, and what they do: strings.Cut at one byte, CutPrefix, Contains, Split at one byte, IndexByte. Condition: one variable of the library's holds some number; texts of less than 4 GB.
  Contract of strings.Join at three texts and nothing between them. Condition: at least one byte, at most a thousand.
  Contracts of address.oneOf, of the closure that it returns, of consists, lower, withoutTag, without. Condition: texts of at most 1000000 bytes; one variable of the library's holds some number.
-/
import Derived.Shelf.Strings.Cut
import Derived.Shelf.Strings.Split
import Derived.Shelf.Small.Wraps
import Derived.Shelf.Small.Strs
import Derived.Shelf.Vars
import Derived.Lib.OthersKept
import Derived.Test.YtflgbnolfleicaaDoorBas
import Derived.Test.YtflgbnolfleicaaDoorAdm
import Derived.Test.YtflgbnolfleicaaDoorBgr

namespace Go.Proofs.YtflgbnolfleicaaDoor
open Go.RowKit Go.Shelf

def lib_ren : Go.Shelf.Ren := ⟨fun | 103 => 34 | 137 => 50 | 138 => 92 | 143 => 79 | 144 => 64 | 145 => 44 | 146 => 65 | 195 => 98 | 197 => 99 | 206 => 66 | 210 => 47 | 217 => 70 | 218 => 100 | 219 => 78 | 220 => 63 | 221 => 80 | 224 => 89 | 225 => 88 | 260 => 101 | 266 => 83 | 267 => 90 | 268 => 91 | 314 => 97 | n => n, fun | 0 => 0 | 3 => 3 | 4 => 4 | 5 => 5 | 9 => 9 | 21 => 21 | 24 => 23 | 31 => 65 | 46 => 55 | 51 => 87 | 59 => 59 | 105 => 137 | 119 => 139 | 138 => 141 | 139 => 142 | 146 => 132 | n => n, fun | 1 => 5 | 3 => 6 | 4 => 7 | n => n⟩
theorem cut_lays : Go.Proofs.Lays.n145 Tryd.prog lib_ren := {
  mixed := by kernel_rfl
  f145 := Tryd.func44.trans (congrArg some (by kernel_rfl))
  f217 := Tryd.func70.trans (congrArg some (by kernel_rfl))
  f219 := Tryd.func78.trans (congrArg some (by kernel_rfl))
  f220 := Tryd.func63.trans (congrArg some (by kernel_rfl))
  f224 := Tryd.func89.trans (congrArg some (by kernel_rfl))
  f225 := Tryd.func88.trans (congrArg some (by kernel_rfl))
  f266 := Tryd.func83.trans (congrArg some (by kernel_rfl))
  f267 := Tryd.func90.trans (congrArg some (by kernel_rfl))
  f314 := Tryd.func97.trans (congrArg some (by kernel_rfl))
  t3 := Tryd.underlying3
  a3 := Tryd.isAgg3
  z3 := Tryd.sizeOf3
  v3 := Tryd.zeroValue3
  t4 := Tryd.underlying4
  a4 := Tryd.isAgg4
  z4 := Tryd.sizeOf4
  v4 := Tryd.zeroValue4
  t5 := Tryd.underlying5
  a5 := Tryd.isAgg5
  z5 := Tryd.sizeOf5
  v5 := Tryd.zeroValue5
  t9 := Tryd.underlying9
  a9 := Tryd.isAgg9
  z9 := Tryd.sizeOf9
  v9 := Tryd.zeroValue9
  t46 := Tryd.underlying55
  a46 := Tryd.isAgg55
  z46 := Tryd.sizeOf55
  v46 := Tryd.zeroValue55
  t51 := Tryd.underlying87
  a51 := Tryd.isAgg87
  z51 := Tryd.sizeOf87
  v51 := Tryd.zeroValue87
  t59 := Tryd.underlying59
  a59 := Tryd.isAgg59
  z59 := Tryd.sizeOf59
  v59 := Tryd.zeroValue59
  t146 := Tryd.underlying132
  a146 := Tryd.isAgg132
  z146 := Tryd.sizeOf132
  v146 := Tryd.zeroValue132
  g1 := by kernel_rfl }
theorem cutp_lays : Go.Proofs.Lays.n103 Tryd.prog lib_ren := {
  mixed := by kernel_rfl
  f103 := Tryd.func34.trans (congrArg some (by kernel_rfl))
  f206 := Tryd.func66.trans (congrArg some (by kernel_rfl))
  f210 := Tryd.func47.trans (congrArg some (by kernel_rfl))
  t3 := Tryd.underlying3
  a3 := Tryd.isAgg3
  z3 := Tryd.sizeOf3
  v3 := Tryd.zeroValue3
  t4 := Tryd.underlying4
  a4 := Tryd.isAgg4
  z4 := Tryd.sizeOf4
  v4 := Tryd.zeroValue4
  t9 := Tryd.underlying9
  a9 := Tryd.isAgg9
  z9 := Tryd.sizeOf9
  v9 := Tryd.zeroValue9
  t24 := Tryd.underlying23
  a24 := Tryd.isAgg23
  z24 := Tryd.sizeOf23
  v24 := Tryd.zeroValue23 }
theorem has_lays : Go.Proofs.Lays.n144 Tryd.prog lib_ren := {
  mixed := by kernel_rfl
  f143 := Tryd.func79.trans (congrArg some (by kernel_rfl))
  f144 := Tryd.func64.trans (congrArg some (by kernel_rfl))
  f217 := Tryd.func70.trans (congrArg some (by kernel_rfl))
  f219 := Tryd.func78.trans (congrArg some (by kernel_rfl))
  f224 := Tryd.func89.trans (congrArg some (by kernel_rfl))
  f225 := Tryd.func88.trans (congrArg some (by kernel_rfl))
  f266 := Tryd.func83.trans (congrArg some (by kernel_rfl))
  f267 := Tryd.func90.trans (congrArg some (by kernel_rfl))
  f314 := Tryd.func97.trans (congrArg some (by kernel_rfl))
  t3 := Tryd.underlying3
  a3 := Tryd.isAgg3
  z3 := Tryd.sizeOf3
  v3 := Tryd.zeroValue3
  t4 := Tryd.underlying4
  a4 := Tryd.isAgg4
  z4 := Tryd.sizeOf4
  v4 := Tryd.zeroValue4
  t5 := Tryd.underlying5
  a5 := Tryd.isAgg5
  z5 := Tryd.sizeOf5
  v5 := Tryd.zeroValue5
  t9 := Tryd.underlying9
  a9 := Tryd.isAgg9
  z9 := Tryd.sizeOf9
  v9 := Tryd.zeroValue9
  t46 := Tryd.underlying55
  a46 := Tryd.isAgg55
  z46 := Tryd.sizeOf55
  v46 := Tryd.zeroValue55
  t51 := Tryd.underlying87
  a51 := Tryd.isAgg87
  z51 := Tryd.sizeOf87
  v51 := Tryd.zeroValue87
  t146 := Tryd.underlying132
  a146 := Tryd.isAgg132
  z146 := Tryd.sizeOf132
  v146 := Tryd.zeroValue132
  g1 := by kernel_rfl }
theorem split_lays : Go.Proofs.Lays.n146 Tryd.prog lib_ren := {
  mixed := by kernel_rfl
  f138 := Tryd.func92.trans (congrArg some (by kernel_rfl))
  f143 := Tryd.func79.trans (congrArg some (by kernel_rfl))
  f146 := Tryd.func65.trans (congrArg some (by kernel_rfl))
  f195 := Tryd.func98.trans (congrArg some (by kernel_rfl))
  f197 := Tryd.func99.trans (congrArg some (by kernel_rfl))
  f217 := Tryd.func70.trans (congrArg some (by kernel_rfl))
  f218 := Tryd.func100.trans (congrArg some (by kernel_rfl))
  f219 := Tryd.func78.trans (congrArg some (by kernel_rfl))
  f221 := Tryd.func80.trans (congrArg some (by kernel_rfl))
  f224 := Tryd.func89.trans (congrArg some (by kernel_rfl))
  f225 := Tryd.func88.trans (congrArg some (by kernel_rfl))
  f260 := Tryd.func101.trans (congrArg some (by kernel_rfl))
  f266 := Tryd.func83.trans (congrArg some (by kernel_rfl))
  f267 := Tryd.func90.trans (congrArg some (by kernel_rfl))
  f268 := Tryd.func91.trans (congrArg some (by kernel_rfl))
  f314 := Tryd.func97.trans (congrArg some (by kernel_rfl))
  t0 := Tryd.underlying0
  a0 := Tryd.isAgg0
  z0 := Tryd.sizeOf0
  v0 := Tryd.zeroValue0
  t3 := Tryd.underlying3
  a3 := Tryd.isAgg3
  z3 := Tryd.sizeOf3
  v3 := Tryd.zeroValue3
  t4 := Tryd.underlying4
  a4 := Tryd.isAgg4
  z4 := Tryd.sizeOf4
  v4 := Tryd.zeroValue4
  t5 := Tryd.underlying5
  a5 := Tryd.isAgg5
  z5 := Tryd.sizeOf5
  v5 := Tryd.zeroValue5
  t9 := Tryd.underlying9
  a9 := Tryd.isAgg9
  z9 := Tryd.sizeOf9
  v9 := Tryd.zeroValue9
  t21 := Tryd.underlying21
  a21 := Tryd.isAgg21
  z21 := Tryd.sizeOf21
  v21 := Tryd.zeroValue21
  t31 := Tryd.underlying65
  a31 := Tryd.isAgg65
  z31 := Tryd.sizeOf65
  v31 := Tryd.zeroValue65
  t46 := Tryd.underlying55
  a46 := Tryd.isAgg55
  z46 := Tryd.sizeOf55
  v46 := Tryd.zeroValue55
  t51 := Tryd.underlying87
  a51 := Tryd.isAgg87
  z51 := Tryd.sizeOf87
  v51 := Tryd.zeroValue87
  t105 := Tryd.underlying137
  a105 := Tryd.isAgg137
  z105 := Tryd.sizeOf137
  v105 := Tryd.zeroValue137
  t119 := Tryd.underlying139
  a119 := Tryd.isAgg139
  z119 := Tryd.sizeOf139
  t138 := Tryd.underlying141
  a138 := Tryd.isAgg141
  z138 := Tryd.sizeOf141
  v138 := Tryd.zeroValue141
  t139 := Tryd.underlying142
  a139 := Tryd.isAgg142
  z139 := Tryd.sizeOf142
  v139 := Tryd.zeroValue142
  t146 := Tryd.underlying132
  a146 := Tryd.isAgg132
  z146 := Tryd.sizeOf132
  v146 := Tryd.zeroValue132
  g1 := by kernel_rfl
  g3 := by kernel_rfl
  g4 := by kernel_rfl }
theorem idx_lays : Go.Proofs.Lays.n137 Tryd.prog lib_ren := {
  mixed := by kernel_rfl
  f137 := Tryd.func50.trans (congrArg some (by kernel_rfl))
  f217 := Tryd.func70.trans (congrArg some (by kernel_rfl))
  f266 := Tryd.func83.trans (congrArg some (by kernel_rfl))
  t3 := Tryd.underlying3
  a3 := Tryd.isAgg3
  z3 := Tryd.sizeOf3
  v3 := Tryd.zeroValue3
  t5 := Tryd.underlying5
  a5 := Tryd.isAgg5
  z5 := Tryd.sizeOf5
  v5 := Tryd.zeroValue5
  t9 := Tryd.underlying9
  a9 := Tryd.isAgg9
  z9 := Tryd.sizeOf9
  v9 := Tryd.zeroValue9 }

/-- The library's variable holds some number. -/
def MaxIs (w : World) : Prop := ∃ m, w.cell? ⟨5, 0, none⟩ = some (.int .i64 m)
theorem MaxIs.below {w w' : World} (h : MaxIs w) (hb : Below w.heap.size w w') : MaxIs w' := by
  obtain ⟨m, hm⟩ := h
  exact ⟨m, (hb.cell (p := ⟨5, 0, none⟩) (World.block_lt_of_cell? _ _ hm)).trans hm⟩
theorem max_of_shaped {w : World} (h : w.ShapedOpen Tryd.prog) : MaxIs w :=
  Go.Proofs.cell_of_shapedOpen_int (zero := #[.int .i64 0]) (t := 3) h (of_decide_eq_true (by kernel_rfl)) (by kernel_rfl) rfl (by kernel_rfl) (by kernel_rfl) Tryd.underlying3

theorem cut_any (s : ByteArray) (c : UInt8) (w : World) (hs : s.size < 4294967281) (hm : MaxIs w) :
    Calls Tryd.prog 44 #[.string s, .string ⟨#[c]⟩] w fun e w' => e = .returned (.tuple #[.string (ba (Ad.bef s.data.toList c)), .string (ba (Ad.aft s.data.toList c)), .bool (s.data.toList.contains c)]) ∧ Below w.heap.size w w' := by
  obtain ⟨m, hm⟩ := hm
  have h := Go.Proofs.Any.strings_Cut cut_lays s ⟨#[c]⟩ m w hs hm
  refine h.mono ?_
  rintro e w' ⟨rfl, n, rfl⟩
  refine ⟨?_, below_drewN (Below.refl _ _) n⟩
  have e1 := Ad.cut_eq s.data.toList c
  show Ending.returned (Value.tuple #[.string ⟨(Lib.cut s.data.toList [c]).1.toArray⟩, .string ⟨(Lib.cut s.data.toList [c]).2.1.toArray⟩, .bool (Lib.cut s.data.toList [c]).2.2]) = _
  rw [e1]
  rfl
theorem index_any (s : ByteArray) (c : UInt8) (w : World) :
    Calls Tryd.prog 50 #[.string s, .int .u8 (c.toNat : Int)] w fun e w' => e = .returned (.int .i64 (Lib.indexByte s.data.toList c)) ∧ w' = w :=
  by
  have h := Go.Proofs.Any.strings_IndexByte idx_lays s (c.toNat : Int) w
  have e : ((c.toNat : Int)).toNat.toUInt8 = c := by simp
  rw [e] at h
  exact h
theorem cutp_any (s : ByteArray) (p : ByteArray) (w : World) :
    Calls Tryd.prog 34 #[.string s, .string p] w fun e w' => e = .returned (.tuple #[.string (ba (Lib.trimPrefix s.data.toList p.data.toList)), .bool (Lib.hasPrefix s.data.toList p.data.toList)]) ∧ Below w.heap.size w w' := by
  refine (Go.Proofs.Any.strings_CutPrefix cutp_lays s p w).mono ?_
  rintro e w' ⟨rfl, rfl⟩
  exact ⟨rfl, Below.refl _ _⟩
theorem has_any (s : ByteArray) (w : World) (hs : s.size < 4294967281) (hm : MaxIs w) :
    Calls Tryd.prog 64 #[.string s, .string ⟨#[46, 46]⟩] w fun e w' => e = .returned (.bool (Ad.dd s.data.toList)) ∧ w' = w := by
  obtain ⟨m, hm⟩ := hm
  refine (Go.Proofs.Any.strings_Contains has_lays s ⟨#[46, 46]⟩ m w hs hm).mono ?_
  rintro e w' ⟨rfl, rfl⟩
  refine ⟨?_, rfl⟩
  rw [← Ad.contains_dd]
theorem split_any (s : ByteArray) (w : World) (hs : s.size < 4294967281) (hm : MaxIs w) :
    Calls Tryd.prog 65 #[.string s, .string ⟨#[46]⟩] w fun e w' => e = .returned (.slice (some ⟨w.heap.size, 0, none⟩) (Ad.splits [] s.data.toList).length (Ad.splits [] s.data.toList).length) ∧ w' = w.alloc (.cells (cs ((Ad.splits [] s.data.toList).map ba)).toArray 9) := by
  obtain ⟨m, hm⟩ := hm
  refine (Go.Proofs.Any.strings_Split split_lays (by kernel_rfl) s ⟨#[46]⟩ m w hs hm (by decide)).mono ?_
  rintro e w' ⟨rfl, rfl⟩
  have h1 := Ad.splitB_dots s
  have h2 := congrArg List.length h1
  rw [Lib.splitB_all ⟨#[46]⟩ (by decide) 0 _ s rfl, List.length_map] at h2
  rw [h1, h2]
  exact ⟨rfl, rfl⟩
end Go.Proofs.YtflgbnolfleicaaDoor

namespace Go.Proofs.YtflgbnolfleicaaDoor
open Go.RowKit Go.Shelf

set_option maxRecDepth 100000 in
set_option maxHeartbeats 4000000 in
theorem join3 (x y z : ByteArray) (g : Nat) (w : World) (hg : Blk w g 9 #[.string x, .string y, .string z]) (h1 : 1 ≤ x.size + y.size + z.size) (h2 : x.size + y.size + z.size ≤ 1000) :
    Calls Tryd.prog 48 #[.slice (some ⟨g, 0, none⟩) 3 3, .string ⟨#[]⟩] w fun e w' => e = .returned (.string (x ++ y ++ z)) ∧ Below w.heap.size w w' := by
  have c0 : w.cell? ⟨g, 0, none⟩ = some (.string x) := hg.cell 0
  have c1 : w.cell? ⟨g, 1, none⟩ = some (.string y) := hg.cell 1
  have c2 : w.cell? ⟨g, 2, none⟩ = some (.string z) := hg.cell 2
  obtain ⟨n, hn⟩ : ∃ n : Nat, x.size + y.size + z.size = n := ⟨_, rfl⟩
  have hni : (x.size : Int) + (y.size : Int) + (z.size : Int) = (n : Int) := by omega
  have HNI := Lib.hid hni
  have hblk := Blk.new w 106 #[.pointer none, .slice none 0 0]
  have hsz : (w.alloc (.cells #[.pointer none, .slice none 0 0] 106)).heap.size = w.heap.size + 1 := by simp
  have HG := Lib.hid (bld_Grow w.heap.size w.heap.size n (w.alloc (.cells #[.pointer none, .slice none 0 0] 106)) (Nat.le_refl _) hblk (by omega) (by omega) (by omega))
  have HB0 := Lib.hid ((Below.refl w.heap.size w).alloc (Nat.le_refl _) (.cells #[.pointer none, .slice none 0 0] 106))
  have glt := hg.lt
  have HC1 := Lib.hid c1
  have HC2 := Lib.hid c2
  have hsl : ∀ W, (Instr.slice 65 (.slice (some ⟨g, 0, none⟩) 3 3) (some (.int .i64 1)) none none).run Tryd.prog W = .ok (.slice (some ⟨g, 1, none⟩) 2 2) W := fun W => by
    obtain ⟨A, hA, hr⟩ := run_cut_from (P := Tryd.prog) 65 9 Tryd.underlying65 (by kernel_rfl) g 3 1 (by omega)
    obtain rfl := hA (by omega)
    exact hr W
  clear hni hblk hsz
  go_enter Tryd.func48, Tryd.ntmps48
  go_wp2_with fail
  go_loopw [5, 7, 41] (fun m _ i wr => wr = w ∧ ((i = .int .i64 0 ∧ m = .int .i64 0) ∨ (i = .int .i64 1 ∧ m = .int .i64 (x.size : Int)) ∨ (i = .int .i64 2 ∧ m = .int .i64 ((x.size : Int) + (y.size : Int))) ∨ (i = .int .i64 3 ∧ m = .int .i64 (n : Int)))) (fun _ _ i _ => 3 - (intOf i).toNat)
  case atStart => exact ⟨rfl, .inl ⟨rfl, rfl⟩⟩
  case round =>
    obtain ⟨hwr, h⟩ := hrel
    obtain rfl : w = wr := hwr.symm
    clear hwr
    rcases h with ⟨rfl, rfl⟩ | ⟨rfl, rfl⟩ | ⟨rfl, rfl⟩ | ⟨rfl, rfl⟩
    · go_wp2_with fail
      go_roundw
      case rel => exact ⟨trivial, .inr (.inl ⟨rfl, rfl⟩)⟩
      case measure => simp [intOf]
    · go_wp2_with fail
      go_roundw
      case rel => exact ⟨trivial, .inr (.inr (.inl ⟨rfl, rfl⟩))⟩
      case measure => simp [intOf]
    · go_wp2_with fail
      go_roundw
      case rel => exact ⟨trivial, .inr (.inr (.inr ⟨rfl, by rw [← HNI.out]⟩))⟩
      case measure => simp [intOf]
    · clear c1 c2
      go_wp2_with fail
      refine HG.out.mono ?_
      rintro e w1 ⟨rfl, hd1, hb1⟩
      have HD1 := Lib.hid (show Bld w.heap.size w.heap.size [] w1 from .inr hd1)
      have HB1 := Lib.hid (HB0.out.trans hb1)
      have c0 : w1.cell? ⟨g, 0, none⟩ = some (.string x) := (HB1.out.cell (p := ⟨g, 0, none⟩) glt).trans c0
      have HW1 := Lib.hid (bld_write w.heap.size w.heap.size [] x w1 HD1.out (by simp; omega) HB1.out.size)
      clear hd1 hb1 HG
      go_wp2_with fail
      refine HW1.out.mono ?_
      rintro e w2 ⟨rfl, hd2, hb2⟩
      have HD2 := Lib.hid hd2
      have HB2 := Lib.hid (HB1.out.trans hb2)
      clear hd2 hb2 HW1 c0
      go_wp2_with fail
      go_loopw [10, 65] (fun _ i w' => Below w.heap.size w w' ∧ ((i = .int .i64 0 ∧ Bld w.heap.size w.heap.size x.data.toList w') ∨ (i = .int .i64 1 ∧ Bld w.heap.size w.heap.size (x.data.toList ++ y.data.toList) w') ∨ (i = .int .i64 2 ∧ Bld w.heap.size w.heap.size (x.data.toList ++ y.data.toList ++ z.data.toList) w'))) (fun _ i _ => 2 - (intOf i).toNat)
      case atStart => exact ⟨HB2.out, .inl ⟨rfl, HD2.out⟩⟩
      case round =>
        obtain ⟨hB, h⟩ := hrel
        have HB := Lib.hid hB
        have d1 : wr.cell? ⟨g, 1, none⟩ = some (.string y) := (hB.cell (p := ⟨g, 1, none⟩) glt).trans HC1.out
        have d2 : wr.cell? ⟨g, 2, none⟩ = some (.string z) := (hB.cell (p := ⟨g, 2, none⟩) glt).trans HC2.out
        have hlx : x.data.toList.length = x.size := by simp
        have hly : y.data.toList.length = y.size := by simp
        have hlz : z.data.toList.length = z.size := by simp
        clear hB HD2 HB2
        rcases h with ⟨rfl, hd⟩ | ⟨rfl, hd⟩ | ⟨rfl, hd⟩
        · have HE := Lib.hid (bld_write w.heap.size w.heap.size _ ⟨#[]⟩ wr hd (by rw [hlx, show (⟨#[]⟩ : ByteArray).size = 0 from rfl]; omega) HB.out.size)
          have HL := Lib.hid (show True from trivial)
          clear hd
          go_wp2_with fail
          refine HE.out.mono ?_
          rintro e w3 ⟨rfl, hd, hb⟩
          have HB3 := Lib.hid (HB.out.trans hb)
          have HW := Lib.hid (bld_write w.heap.size w.heap.size _ y w3 hd (by simp only [List.length_append, hlx]; simp; omega) HB3.out.size)
          clear hd hb HE d1 d2 HL
          go_wp2_with fail
          refine HW.out.mono ?_
          rintro e w4 ⟨rfl, hd, hb⟩
          have HD4 := Lib.hid hd
          have HB4 := Lib.hid (HB3.out.trans hb)
          clear hd hb HW
          go_wp2_with fail
          go_roundw
          case rel => exact ⟨HB4.out, .inr (.inl ⟨rfl, by simpa using HD4.out⟩)⟩
          case measure => simp [intOf]
        · have HE := Lib.hid (bld_write w.heap.size w.heap.size _ ⟨#[]⟩ wr hd (by rw [List.length_append, hlx, hly, show (⟨#[]⟩ : ByteArray).size = 0 from rfl]; omega) HB.out.size)
          have HL := Lib.hid (show True from trivial)
          clear hd
          go_wp2_with fail
          refine HE.out.mono ?_
          rintro e w3 ⟨rfl, hd, hb⟩
          have HB3 := Lib.hid (HB.out.trans hb)
          have HW := Lib.hid (bld_write w.heap.size w.heap.size _ z w3 hd (by simp only [List.length_append, hlx, hly]; simp; omega) HB3.out.size)
          clear hd hb HE d1 d2 HL
          go_wp2_with fail
          refine HW.out.mono ?_
          rintro e w4 ⟨rfl, hd, hb⟩
          have HD4 := Lib.hid hd
          have HB4 := Lib.hid (HB3.out.trans hb)
          clear hd hb HW
          go_wp2_with fail
          go_roundw
          case rel => exact ⟨HB4.out, .inr (.inr ⟨rfl, by simpa using HD4.out⟩)⟩
          case measure => simp [intOf]
        · have HS := Lib.hid (bld_string w.heap.size w.heap.size _ wr hd HB.out.size)
          have hba : ba (x.data.toList ++ y.data.toList ++ z.data.toList) = x ++ y ++ z := by rw [← ba_append, ← ba_append, ba_back, ba_back, ba_back]
          rw [hba] at HS
          clear hd d1 d2 hba
          go_wp2_with fail
          refine HS.out.mono ?_
          rintro e w3 ⟨rfl, hb⟩
          have HB3 := Lib.hid (HB.out.trans hb)
          clear hb HS
          go_wp2_with fail
          go_ret
          exact ⟨rfl, HB3.out⟩
end Go.Proofs.YtflgbnolfleicaaDoor

namespace Go.Proofs.YtflgbnolfleicaaDoor
open Go.RowKit

/-- The closure that oneOf returns: the box of its set lies at b. -/
def isIn (b : Nat) : Value := .func (.func 49) #[] #[.pointer (some ⟨b, 0, none⟩)]
theorem in_any (b : Nat) (S : ByteArray) (c : UInt8) (w : World) (hb : w.cell? ⟨b, 0, none⟩ = some (.string S)) :
    Calls Tryd.prog 49 #[.int .u8 (c.toNat : Int), .pointer (some ⟨b, 0, none⟩)] w fun e w' => e = .returned (.bool (S.data.toList.contains c)) ∧ w' = w := by
  have HI := Lib.hid (index_any S c w)
  have hx := Ad.indexByte_eq S.data.toList c
  obtain ⟨v, hv⟩ : ∃ v, Lib.indexByte S.data.toList c = v := ⟨_, rfl⟩
  rw [hv] at HI hx
  have hd : decide (0 ≤ v) = S.data.toList.contains c := by
    rw [hx]
    cases S.data.toList.contains c with
    | true => simp
    | false => rfl
  generalize S.data.toList.contains c = r at hd ⊢
  clear hx hv
  go_enter Tryd.func49, Tryd.ntmps49
  go_wp2_with fail
  refine HI.out.mono ?_
  rintro e w1 ⟨rfl, rfl⟩
  go_wp2_with fail
  go_ret
  exact ⟨rfl, rfl⟩

theorem oneof3 (x y z : ByteArray) (g : Nat) (w : World) (hg : Blk w g 9 #[.string x, .string y, .string z]) (h1 : 1 ≤ x.size + y.size + z.size) (h2 : x.size + y.size + z.size ≤ 1000) :
    Calls Tryd.prog 36 #[.slice (some ⟨g, 0, none⟩) 3 3] w fun e w' => ∃ b, e = .returned (isIn b) ∧ w'.cell? ⟨b, 0, none⟩ = some (.string (x ++ y ++ z)) ∧ Below w.heap.size w w' := by
  have HJ := Lib.hid (join3 x y z g w hg h1 h2)
  generalize x ++ y ++ z = S at HJ ⊢
  clear hg h1 h2
  go_enter Tryd.func36, Tryd.ntmps36
  go_wp2_with fail
  refine HJ.out.mono ?_
  rintro e w1 ⟨rfl, hb⟩
  have HB := Lib.hid hb
  clear hb HJ
  go_wp2_with fail
  go_ret
  exact ⟨_, rfl, (Blk.new w1 _ _).cell 0, HB.out.alloc HB.out.size _⟩

set_option maxRecDepth 100000 in
theorem join1 (x : ByteArray) (g : Nat) (w : World) (hg : w.cell? ⟨g, 0, none⟩ = some (.string x)) :
    Calls Tryd.prog 48 #[.slice (some ⟨g, 0, none⟩) 1 1, .string ⟨#[]⟩] w fun e w' => e = .returned (.string x) ∧ w' = w := by
  go_enter Tryd.func48, Tryd.ntmps48
  go_wp2_with fail
  go_ret
  exact ⟨rfl, rfl⟩
theorem oneof1 (x : ByteArray) (g : Nat) (w : World) (hg : w.cell? ⟨g, 0, none⟩ = some (.string x)) :
    Calls Tryd.prog 36 #[.slice (some ⟨g, 0, none⟩) 1 1] w fun e w' => ∃ b, e = .returned (isIn b) ∧ w'.cell? ⟨b, 0, none⟩ = some (.string x) ∧ Below w.heap.size w w' := by
  have HJ := Lib.hid (join1 x g w hg)
  clear hg
  go_enter Tryd.func36, Tryd.ntmps36
  go_wp2_with fail
  refine HJ.out.mono ?_
  rintro e w1 ⟨rfl, rfl⟩
  clear HJ
  go_wp2_with fail
  go_ret
  exact ⟨_, rfl, (Blk.new w1 _ _).cell 0, (Below.refl _ _).alloc (Nat.le_refl _) _⟩

set_option maxRecDepth 100000 in
theorem consists_any (s : ByteArray) (b : Nat) (S : ByteArray) (p : UInt8 → Bool) (w : World) (hs : s.size ≤ 1000000) (hb : w.cell? ⟨b, 0, none⟩ = some (.string S)) (hp : ∀ c, S.data.toList.contains c = p c) :
    Calls Tryd.prog 35 #[.string s, isIn b] w fun e w' => e = .returned (.bool (s.data.toList.all p)) ∧ w' = w := by
  unfold isIn
  have HI := Lib.hid (fun c => in_any b S c w hb)
  simp only [hp] at HI
  obtain ⟨L, hL⟩ : ∃ L, s.data.toList = L := ⟨_, rfl⟩
  have hLl : L.length = s.size := by rw [← hL]; simp
  have HL := Lib.hid hL
  have HP := Lib.hid hp
  rw [hL]
  clear hL hb hp
  go_enter Tryd.func35, Tryd.ntmps35
  go_wp2_with fail
  go_loopw [5, 8] (fun _ i wr => wr = w ∧ ∃ k : Nat, i = .int .i64 (k : Int) ∧ k ≤ s.size ∧ (L.take k).all p = true) (fun _ i _ => s.size - (intOf i).toNat)
  case atStart => exact ⟨rfl, 0, rfl, by omega, rfl⟩
  case round =>
    obtain ⟨hwr, k, rfl, hk, hall⟩ := hrel
    obtain rfl : w = wr := hwr.symm
    clear hwr
    by_cases hlt : k < s.size
    · have hki : (k : Int) < (s.size : Int) := by omega
      have hkL : k < L.length := by omega
      have hsx : L[k] = s[k] := by
        have h1 := HL.out
        subst h1
        simp
        rfl
      obtain ⟨x, hx⟩ : ∃ x, s[k] = x := ⟨_, rfl⟩
      rw [hx] at hsx
      have HA := Lib.hid (all_take_more p L k hkL)
      have HF := Lib.hid (all_false p L k hkL)
      rw [hsx] at HA HF
      have HC := Lib.hid (HI.out x)
      clear hsx HI
      obtain ⟨r, hr⟩ : ∃ r, p x = r := ⟨_, rfl⟩
      rw [hr] at HA HF HC
      have HALL := Lib.hid hall
      clear hall
      go_wp2_with fail
      refine HC.out.mono ?_
      rintro e w1 ⟨rfl, rfl⟩
      clear HC
      cases r with
      | true =>
        go_wp2_with fail
        go_roundw
        case rel => exact ⟨trivial, k + 1, by go_num, by omega, by rw [HA.out, HALL.out]; rfl⟩
        case measure => simp [intOf]; omega
      | false =>
        go_wp2_with fail
        go_ret
        exact ⟨by rw [HF.out trivial]; rfl, rfl⟩
    · obtain rfl : k = s.size := by omega
      rw [List.take_of_length_le (by omega)] at hall
      go_wp2_with fail
      go_ret
      exact ⟨by rw [hall]; rfl, rfl⟩
end Go.Proofs.YtflgbnolfleicaaDoor
