/-
  The library's functions that package address calls to look at an address: that they are in this program, and what they do: strings.Cut at one byte, CutPrefix, Contains, Split at one byte, IndexByte. Condition: one variable of the library's holds some number; texts of less than 4 GB.
  Contract of strings.Join at three texts and nothing between them. Condition: at least one byte, at most a thousand.
  Contracts of address.oneOf, of the closure that it returns, of consists, lower, withoutTag, without. Condition: texts of at most 1000000 bytes; one variable of the library's holds some number.
-/
import Derived.Shelf.Strings.Cut
import Derived.Shelf.Strings.Split
import Derived.Shelf.Small.Wraps
import Derived.Shelf.Small.Strs
import Derived.Shelf.Vars
import Derived.Lib.OthersKept
import Derived.Test.YtflgbnolfleicaaGreatDoorBas
import Derived.Test.YtflgbnolfleicaaGreatDoorAdm
import Derived.Test.YtflgbnolfleicaaGreatDoorBgr

namespace Go.Proofs.YtflgbnolfleicaaGreatDoor
open Go.RowKit Go.Shelf

def lib_ren : Go.Shelf.Ren := ⟨fun | 103 => 67 | 137 => 93 | 138 => 127 | 143 => 118 | 144 => 107 | 145 => 87 | 146 => 108 | 195 => 129 | 197 => 130 | 206 => 96 | 210 => 90 | 217 => 109 | 218 => 131 | 219 => 117 | 220 => 106 | 221 => 119 | 224 => 124 | 225 => 123 | 260 => 132 | 266 => 120 | 267 => 125 | 268 => 126 | 314 => 128 | n => n, fun | 0 => 0 | 3 => 3 | 4 => 4 | 5 => 5 | 9 => 9 | 21 => 21 | 24 => 50 | 31 => 67 | 46 => 92 | 51 => 68 | 59 => 103 | 105 => 156 | 119 => 158 | 138 => 160 | 139 => 161 | 146 => 131 | n => n, fun | 1 => 3 | 3 => 6 | 4 => 7 | n => n⟩
theorem cut_lays : Go.Proofs.Lays.n145 Tryz.prog lib_ren := {
  mixed := by kernel_rfl
  f145 := Tryz.func87.trans (congrArg some (by kernel_rfl))
  f217 := Tryz.func109.trans (congrArg some (by kernel_rfl))
  f219 := Tryz.func117.trans (congrArg some (by kernel_rfl))
  f220 := Tryz.func106.trans (congrArg some (by kernel_rfl))
  f224 := Tryz.func124.trans (congrArg some (by kernel_rfl))
  f225 := Tryz.func123.trans (congrArg some (by kernel_rfl))
  f266 := Tryz.func120.trans (congrArg some (by kernel_rfl))
  f267 := Tryz.func125.trans (congrArg some (by kernel_rfl))
  f314 := Tryz.func128.trans (congrArg some (by kernel_rfl))
  t3 := Tryz.underlying3
  a3 := Tryz.isAgg3
  z3 := Tryz.sizeOf3
  v3 := Tryz.zeroValue3
  t4 := Tryz.underlying4
  a4 := Tryz.isAgg4
  z4 := Tryz.sizeOf4
  v4 := Tryz.zeroValue4
  t5 := Tryz.underlying5
  a5 := Tryz.isAgg5
  z5 := Tryz.sizeOf5
  v5 := Tryz.zeroValue5
  t9 := Tryz.underlying9
  a9 := Tryz.isAgg9
  z9 := Tryz.sizeOf9
  v9 := Tryz.zeroValue9
  t46 := Tryz.underlying92
  a46 := Tryz.isAgg92
  z46 := Tryz.sizeOf92
  v46 := Tryz.zeroValue92
  t51 := Tryz.underlying68
  a51 := Tryz.isAgg68
  z51 := Tryz.sizeOf68
  v51 := Tryz.zeroValue68
  t59 := Tryz.underlying103
  a59 := Tryz.isAgg103
  z59 := Tryz.sizeOf103
  v59 := Tryz.zeroValue103
  t146 := Tryz.underlying131
  a146 := Tryz.isAgg131
  z146 := Tryz.sizeOf131
  v146 := Tryz.zeroValue131
  g1 := by kernel_rfl }
theorem cutp_lays : Go.Proofs.Lays.n103 Tryz.prog lib_ren := {
  mixed := by kernel_rfl
  f103 := Tryz.func67.trans (congrArg some (by kernel_rfl))
  f206 := Tryz.func96.trans (congrArg some (by kernel_rfl))
  f210 := Tryz.func90.trans (congrArg some (by kernel_rfl))
  t3 := Tryz.underlying3
  a3 := Tryz.isAgg3
  z3 := Tryz.sizeOf3
  v3 := Tryz.zeroValue3
  t4 := Tryz.underlying4
  a4 := Tryz.isAgg4
  z4 := Tryz.sizeOf4
  v4 := Tryz.zeroValue4
  t9 := Tryz.underlying9
  a9 := Tryz.isAgg9
  z9 := Tryz.sizeOf9
  v9 := Tryz.zeroValue9
  t24 := Tryz.underlying50
  a24 := Tryz.isAgg50
  z24 := Tryz.sizeOf50
  v24 := Tryz.zeroValue50 }
theorem has_lays : Go.Proofs.Lays.n144 Tryz.prog lib_ren := {
  mixed := by kernel_rfl
  f143 := Tryz.func118.trans (congrArg some (by kernel_rfl))
  f144 := Tryz.func107.trans (congrArg some (by kernel_rfl))
  f217 := Tryz.func109.trans (congrArg some (by kernel_rfl))
  f219 := Tryz.func117.trans (congrArg some (by kernel_rfl))
  f224 := Tryz.func124.trans (congrArg some (by kernel_rfl))
  f225 := Tryz.func123.trans (congrArg some (by kernel_rfl))
  f266 := Tryz.func120.trans (congrArg some (by kernel_rfl))
  f267 := Tryz.func125.trans (congrArg some (by kernel_rfl))
  f314 := Tryz.func128.trans (congrArg some (by kernel_rfl))
  t3 := Tryz.underlying3
  a3 := Tryz.isAgg3
  z3 := Tryz.sizeOf3
  v3 := Tryz.zeroValue3
  t4 := Tryz.underlying4
  a4 := Tryz.isAgg4
  z4 := Tryz.sizeOf4
  v4 := Tryz.zeroValue4
  t5 := Tryz.underlying5
  a5 := Tryz.isAgg5
  z5 := Tryz.sizeOf5
  v5 := Tryz.zeroValue5
  t9 := Tryz.underlying9
  a9 := Tryz.isAgg9
  z9 := Tryz.sizeOf9
  v9 := Tryz.zeroValue9
  t46 := Tryz.underlying92
  a46 := Tryz.isAgg92
  z46 := Tryz.sizeOf92
  v46 := Tryz.zeroValue92
  t51 := Tryz.underlying68
  a51 := Tryz.isAgg68
  z51 := Tryz.sizeOf68
  v51 := Tryz.zeroValue68
  t146 := Tryz.underlying131
  a146 := Tryz.isAgg131
  z146 := Tryz.sizeOf131
  v146 := Tryz.zeroValue131
  g1 := by kernel_rfl }
theorem split_lays : Go.Proofs.Lays.n146 Tryz.prog lib_ren := {
  mixed := by kernel_rfl
  f138 := Tryz.func127.trans (congrArg some (by kernel_rfl))
  f143 := Tryz.func118.trans (congrArg some (by kernel_rfl))
  f146 := Tryz.func108.trans (congrArg some (by kernel_rfl))
  f195 := Tryz.func129.trans (congrArg some (by kernel_rfl))
  f197 := Tryz.func130.trans (congrArg some (by kernel_rfl))
  f217 := Tryz.func109.trans (congrArg some (by kernel_rfl))
  f218 := Tryz.func131.trans (congrArg some (by kernel_rfl))
  f219 := Tryz.func117.trans (congrArg some (by kernel_rfl))
  f221 := Tryz.func119.trans (congrArg some (by kernel_rfl))
  f224 := Tryz.func124.trans (congrArg some (by kernel_rfl))
  f225 := Tryz.func123.trans (congrArg some (by kernel_rfl))
  f260 := Tryz.func132.trans (congrArg some (by kernel_rfl))
  f266 := Tryz.func120.trans (congrArg some (by kernel_rfl))
  f267 := Tryz.func125.trans (congrArg some (by kernel_rfl))
  f268 := Tryz.func126.trans (congrArg some (by kernel_rfl))
  f314 := Tryz.func128.trans (congrArg some (by kernel_rfl))
  t0 := Tryz.underlying0
  a0 := Tryz.isAgg0
  z0 := Tryz.sizeOf0
  v0 := Tryz.zeroValue0
  t3 := Tryz.underlying3
  a3 := Tryz.isAgg3
  z3 := Tryz.sizeOf3
  v3 := Tryz.zeroValue3
  t4 := Tryz.underlying4
  a4 := Tryz.isAgg4
  z4 := Tryz.sizeOf4
  v4 := Tryz.zeroValue4
  t5 := Tryz.underlying5
  a5 := Tryz.isAgg5
  z5 := Tryz.sizeOf5
  v5 := Tryz.zeroValue5
  t9 := Tryz.underlying9
  a9 := Tryz.isAgg9
  z9 := Tryz.sizeOf9
  v9 := Tryz.zeroValue9
  t21 := Tryz.underlying21
  a21 := Tryz.isAgg21
  z21 := Tryz.sizeOf21
  v21 := Tryz.zeroValue21
  t31 := Tryz.underlying67
  a31 := Tryz.isAgg67
  z31 := Tryz.sizeOf67
  v31 := Tryz.zeroValue67
  t46 := Tryz.underlying92
  a46 := Tryz.isAgg92
  z46 := Tryz.sizeOf92
  v46 := Tryz.zeroValue92
  t51 := Tryz.underlying68
  a51 := Tryz.isAgg68
  z51 := Tryz.sizeOf68
  v51 := Tryz.zeroValue68
  t105 := Tryz.underlying156
  a105 := Tryz.isAgg156
  z105 := Tryz.sizeOf156
  v105 := Tryz.zeroValue156
  t119 := Tryz.underlying158
  a119 := Tryz.isAgg158
  z119 := Tryz.sizeOf158
  t138 := Tryz.underlying160
  a138 := Tryz.isAgg160
  z138 := Tryz.sizeOf160
  v138 := Tryz.zeroValue160
  t139 := Tryz.underlying161
  a139 := Tryz.isAgg161
  z139 := Tryz.sizeOf161
  v139 := Tryz.zeroValue161
  t146 := Tryz.underlying131
  a146 := Tryz.isAgg131
  z146 := Tryz.sizeOf131
  v146 := Tryz.zeroValue131
  g1 := by kernel_rfl
  g3 := by kernel_rfl
  g4 := by kernel_rfl }
theorem idx_lays : Go.Proofs.Lays.n137 Tryz.prog lib_ren := {
  mixed := by kernel_rfl
  f137 := Tryz.func93.trans (congrArg some (by kernel_rfl))
  f217 := Tryz.func109.trans (congrArg some (by kernel_rfl))
  f266 := Tryz.func120.trans (congrArg some (by kernel_rfl))
  t3 := Tryz.underlying3
  a3 := Tryz.isAgg3
  z3 := Tryz.sizeOf3
  v3 := Tryz.zeroValue3
  t5 := Tryz.underlying5
  a5 := Tryz.isAgg5
  z5 := Tryz.sizeOf5
  v5 := Tryz.zeroValue5
  t9 := Tryz.underlying9
  a9 := Tryz.isAgg9
  z9 := Tryz.sizeOf9
  v9 := Tryz.zeroValue9 }

/-- The library's variable holds some number. -/
def MaxIs (w : World) : Prop := ∃ m, w.cell? ⟨3, 0, none⟩ = some (.int .i64 m)
theorem MaxIs.below {w w' : World} (h : MaxIs w) (hb : Below w.heap.size w w') : MaxIs w' := by
  obtain ⟨m, hm⟩ := h
  exact ⟨m, (hb.cell (p := ⟨3, 0, none⟩) (World.block_lt_of_cell? _ _ hm)).trans hm⟩
theorem max_of_shaped {w : World} (h : w.ShapedOpen Tryz.prog) : MaxIs w :=
  Go.Proofs.cell_of_shapedOpen_int (zero := #[.int .i64 0]) (t := 3) h (of_decide_eq_true (by kernel_rfl)) (by kernel_rfl) rfl (by kernel_rfl) (by kernel_rfl) Tryz.underlying3

theorem cut_any (s : ByteArray) (c : UInt8) (w : World) (hs : s.size < 4294967281) (hm : MaxIs w) :
    Calls Tryz.prog 87 #[.string s, .string ⟨#[c]⟩] w fun e w' => e = .returned (.tuple #[.string (ba (Ad.bef s.data.toList c)), .string (ba (Ad.aft s.data.toList c)), .bool (s.data.toList.contains c)]) ∧ Below w.heap.size w w' := by
  obtain ⟨m, hm⟩ := hm
  have h := Go.Proofs.Any.strings_Cut cut_lays s ⟨#[c]⟩ m w hs hm
  refine h.mono ?_
  rintro e w' ⟨rfl, n, rfl⟩
  refine ⟨?_, below_drewN (Below.refl _ _) n⟩
  have e1 := Ad.cut_eq s.data.toList c
  show Ending.returned (Value.tuple #[.string ⟨(Lib.cut s.data.toList [c]).1.toArray⟩, .string ⟨(Lib.cut s.data.toList [c]).2.1.toArray⟩, .bool (Lib.cut s.data.toList [c]).2.2]) = _
  rw [e1]
  rfl
theorem index_any (s : ByteArray) (c : UInt8) (w : World) :
    Calls Tryz.prog 93 #[.string s, .int .u8 (c.toNat : Int)] w fun e w' => e = .returned (.int .i64 (Lib.indexByte s.data.toList c)) ∧ w' = w :=
  by
  have h := Go.Proofs.Any.strings_IndexByte idx_lays s (c.toNat : Int) w
  have e : ((c.toNat : Int)).toNat.toUInt8 = c := by simp
  rw [e] at h
  exact h
theorem cutp_any (s : ByteArray) (p : ByteArray) (w : World) :
    Calls Tryz.prog 67 #[.string s, .string p] w fun e w' => e = .returned (.tuple #[.string (ba (Lib.trimPrefix s.data.toList p.data.toList)), .bool (Lib.hasPrefix s.data.toList p.data.toList)]) ∧ Below w.heap.size w w' := by
  refine (Go.Proofs.Any.strings_CutPrefix cutp_lays s p w).mono ?_
  rintro e w' ⟨rfl, rfl⟩
  exact ⟨rfl, Below.refl _ _⟩
theorem has_any (s : ByteArray) (w : World) (hs : s.size < 4294967281) (hm : MaxIs w) :
    Calls Tryz.prog 107 #[.string s, .string ⟨#[46, 46]⟩] w fun e w' => e = .returned (.bool (Ad.dd s.data.toList)) ∧ w' = w := by
  obtain ⟨m, hm⟩ := hm
  refine (Go.Proofs.Any.strings_Contains has_lays s ⟨#[46, 46]⟩ m w hs hm).mono ?_
  rintro e w' ⟨rfl, rfl⟩
  refine ⟨?_, rfl⟩
  rw [← Ad.contains_dd]
theorem split_any (s : ByteArray) (w : World) (hs : s.size < 4294967281) (hm : MaxIs w) :
    Calls Tryz.prog 108 #[.string s, .string ⟨#[46]⟩] w fun e w' => e = .returned (.slice (some ⟨w.heap.size, 0, none⟩) (Ad.splits [] s.data.toList).length (Ad.splits [] s.data.toList).length) ∧ w' = w.alloc (.cells (cs ((Ad.splits [] s.data.toList).map ba)).toArray 9) := by
  obtain ⟨m, hm⟩ := hm
  refine (Go.Proofs.Any.strings_Split split_lays (by kernel_rfl) s ⟨#[46]⟩ m w hs hm (by decide)).mono ?_
  rintro e w' ⟨rfl, rfl⟩
  have h1 := Ad.splitB_dots s
  have h2 := congrArg List.length h1
  rw [Lib.splitB_all ⟨#[46]⟩ (by decide) 0 _ s rfl, List.length_map] at h2
  rw [h1, h2]
  exact ⟨rfl, rfl⟩
end Go.Proofs.YtflgbnolfleicaaGreatDoor

namespace Go.Proofs.YtflgbnolfleicaaGreatDoor
open Go.RowKit Go.Shelf

set_option maxRecDepth 100000 in
set_option maxHeartbeats 4000000 in
theorem join3 (x y z : ByteArray) (g : Nat) (w : World) (hg : Blk w g 9 #[.string x, .string y, .string z]) (h1 : 1 ≤ x.size + y.size + z.size) (h2 : x.size + y.size + z.size ≤ 1000) :
    Calls Tryz.prog 91 #[.slice (some ⟨g, 0, none⟩) 3 3, .string ⟨#[]⟩] w fun e w' => e = .returned (.string (x ++ y ++ z)) ∧ Below w.heap.size w w' := by
  have c0 : w.cell? ⟨g, 0, none⟩ = some (.string x) := hg.cell 0
  have c1 : w.cell? ⟨g, 1, none⟩ = some (.string y) := hg.cell 1
  have c2 : w.cell? ⟨g, 2, none⟩ = some (.string z) := hg.cell 2
  obtain ⟨n, hn⟩ : ∃ n : Nat, x.size + y.size + z.size = n := ⟨_, rfl⟩
  have hni : (x.size : Int) + (y.size : Int) + (z.size : Int) = (n : Int) := by omega
  have HNI := Lib.hid hni
  have hblk := Blk.new w 115 #[.pointer none, .slice none 0 0]
  have hsz : (w.alloc (.cells #[.pointer none, .slice none 0 0] 115)).heap.size = w.heap.size + 1 := by simp
  have HG := Lib.hid (bld_Grow w.heap.size w.heap.size n (w.alloc (.cells #[.pointer none, .slice none 0 0] 115)) (Nat.le_refl _) hblk (by omega) (by omega) (by omega))
  have HB0 := Lib.hid ((Below.refl w.heap.size w).alloc (Nat.le_refl _) (.cells #[.pointer none, .slice none 0 0] 115))
  have glt := hg.lt
  have HC1 := Lib.hid c1
  have HC2 := Lib.hid c2
  have hsl : ∀ W, (Instr.slice 67 (.slice (some ⟨g, 0, none⟩) 3 3) (some (.int .i64 1)) none none).run Tryz.prog W = .ok (.slice (some ⟨g, 1, none⟩) 2 2) W := fun W => by
    obtain ⟨A, hA, hr⟩ := run_cut_from (P := Tryz.prog) 67 9 Tryz.underlying67 (by kernel_rfl) g 3 1 (by omega)
    obtain rfl := hA (by omega)
    exact hr W
  clear hni hblk hsz
  go_enter Tryz.func91, Tryz.ntmps91
  go_wp2_with fail
  go_loopw [5, 7, 41] (fun m _ i wr => wr = w ∧ ((i = .int .i64 0 ∧ m = .int .i64 0) ∨ (i = .int .i64 1 ∧ m = .int .i64 (x.size : Int)) ∨ (i = .int .i64 2 ∧ m = .int .i64 ((x.size : Int) + (y.size : Int))) ∨ (i = .int .i64 3 ∧ m = .int .i64 (n : Int)))) (fun _ _ i _ => 3 - (intOf i).toNat)
  case atStart => exact ⟨rfl, .inl ⟨rfl, rfl⟩⟩
  case round =>
    obtain ⟨hwr, h⟩ := hrel
    obtain rfl : w = wr := hwr.symm
    clear hwr
    rcases h with ⟨rfl, rfl⟩ | ⟨rfl, rfl⟩ | ⟨rfl, rfl⟩ | ⟨rfl, rfl⟩
    · go_wp2_with fail
      go_roundw
      case rel => exact ⟨trivial, .inr (.inl ⟨rfl, rfl⟩)⟩
      case measure => simp [intOf]
    · go_wp2_with fail
      go_roundw
      case rel => exact ⟨trivial, .inr (.inr (.inl ⟨rfl, rfl⟩))⟩
      case measure => simp [intOf]
    · go_wp2_with fail
      go_roundw
      case rel => exact ⟨trivial, .inr (.inr (.inr ⟨rfl, by rw [← HNI.out]⟩))⟩
      case measure => simp [intOf]
    · clear c1 c2
      go_wp2_with fail
      refine HG.out.mono ?_
      rintro e w1 ⟨rfl, hd1, hb1⟩
      have HD1 := Lib.hid (show Bld w.heap.size w.heap.size [] w1 from .inr hd1)
      have HB1 := Lib.hid (HB0.out.trans hb1)
      have c0 : w1.cell? ⟨g, 0, none⟩ = some (.string x) := (HB1.out.cell (p := ⟨g, 0, none⟩) glt).trans c0
      have HW1 := Lib.hid (bld_write w.heap.size w.heap.size [] x w1 HD1.out (by simp; omega) HB1.out.size)
      clear hd1 hb1 HG
      go_wp2_with fail
      refine HW1.out.mono ?_
      rintro e w2 ⟨rfl, hd2, hb2⟩
      have HD2 := Lib.hid hd2
      have HB2 := Lib.hid (HB1.out.trans hb2)
      clear hd2 hb2 HW1 c0
      go_wp2_with fail
      go_loopw [10, 65] (fun _ i w' => Below w.heap.size w w' ∧ ((i = .int .i64 0 ∧ Bld w.heap.size w.heap.size x.data.toList w') ∨ (i = .int .i64 1 ∧ Bld w.heap.size w.heap.size (x.data.toList ++ y.data.toList) w') ∨ (i = .int .i64 2 ∧ Bld w.heap.size w.heap.size (x.data.toList ++ y.data.toList ++ z.data.toList) w'))) (fun _ i _ => 2 - (intOf i).toNat)
      case atStart => exact ⟨HB2.out, .inl ⟨rfl, HD2.out⟩⟩
      case round =>
        obtain ⟨hB, h⟩ := hrel
        have HB := Lib.hid hB
        have d1 : wr.cell? ⟨g, 1, none⟩ = some (.string y) := (hB.cell (p := ⟨g, 1, none⟩) glt).trans HC1.out
        have d2 : wr.cell? ⟨g, 2, none⟩ = some (.string z) := (hB.cell (p := ⟨g, 2, none⟩) glt).trans HC2.out
        have hlx : x.data.toList.length = x.size := by simp
        have hly : y.data.toList.length = y.size := by simp
        have hlz : z.data.toList.length = z.size := by simp
        clear hB HD2 HB2
        rcases h with ⟨rfl, hd⟩ | ⟨rfl, hd⟩ | ⟨rfl, hd⟩
        · have HE := Lib.hid (bld_write w.heap.size w.heap.size _ ⟨#[]⟩ wr hd (by rw [hlx, show (⟨#[]⟩ : ByteArray).size = 0 from rfl]; omega) HB.out.size)
          have HL := Lib.hid (show True from trivial)
          clear hd
          go_wp2_with fail
          refine HE.out.mono ?_
          rintro e w3 ⟨rfl, hd, hb⟩
          have HB3 := Lib.hid (HB.out.trans hb)
          have HW := Lib.hid (bld_write w.heap.size w.heap.size _ y w3 hd (by simp only [List.length_append, hlx]; simp; omega) HB3.out.size)
          clear hd hb HE d1 d2 HL
          go_wp2_with fail
          refine HW.out.mono ?_
          rintro e w4 ⟨rfl, hd, hb⟩
          have HD4 := Lib.hid hd
          have HB4 := Lib.hid (HB3.out.trans hb)
          clear hd hb HW
          go_wp2_with fail
          go_roundw
          case rel => exact ⟨HB4.out, .inr (.inl ⟨rfl, by simpa using HD4.out⟩)⟩
          case measure => simp [intOf]
        · have HE := Lib.hid (bld_write w.heap.size w.heap.size _ ⟨#[]⟩ wr hd (by rw [List.length_append, hlx, hly, show (⟨#[]⟩ : ByteArray).size = 0 from rfl]; omega) HB.out.size)
          have HL := Lib.hid (show True from trivial)
          clear hd
          go_wp2_with fail
          refine HE.out.mono ?_
          rintro e w3 ⟨rfl, hd, hb⟩
          have HB3 := Lib.hid (HB.out.trans hb)
          have HW := Lib.hid (bld_write w.heap.size w.heap.size _ z w3 hd (by simp only [List.length_append, hlx, hly]; simp; omega) HB3.out.size)
          clear hd hb HE d1 d2 HL
          go_wp2_with fail
          refine HW.out.mono ?_
          rintro e w4 ⟨rfl, hd, hb⟩
          have HD4 := Lib.hid hd
          have HB4 := Lib.hid (HB3.out.trans hb)
          clear hd hb HW
          go_wp2_with fail
          go_roundw
          case rel => exact ⟨HB4.out, .inr (.inr ⟨rfl, by simpa using HD4.out⟩)⟩
          case measure => simp [intOf]
        · have HS := Lib.hid (bld_string w.heap.size w.heap.size _ wr hd HB.out.size)
          have hba : ba (x.data.toList ++ y.data.toList ++ z.data.toList) = x ++ y ++ z := by rw [← ba_append, ← ba_append, ba_back, ba_back, ba_back]
          rw [hba] at HS
          clear hd d1 d2 hba
          go_wp2_with fail
          refine HS.out.mono ?_
          rintro e w3 ⟨rfl, hb⟩
          have HB3 := Lib.hid (HB.out.trans hb)
          clear hb HS
          go_wp2_with fail
          go_ret
          exact ⟨rfl, HB3.out⟩
end Go.Proofs.YtflgbnolfleicaaGreatDoor

namespace Go.Proofs.YtflgbnolfleicaaGreatDoor
open Go.RowKit

/-- The closure that oneOf returns: the box of its set lies at b. -/
def isIn (b : Nat) : Value := .func (.func 92) #[] #[.pointer (some ⟨b, 0, none⟩)]
theorem in_any (b : Nat) (S : ByteArray) (c : UInt8) (w : World) (hb : w.cell? ⟨b, 0, none⟩ = some (.string S)) :
    Calls Tryz.prog 92 #[.int .u8 (c.toNat : Int), .pointer (some ⟨b, 0, none⟩)] w fun e w' => e = .returned (.bool (S.data.toList.contains c)) ∧ w' = w := by
  have HI := Lib.hid (index_any S c w)
  have hx := Ad.indexByte_eq S.data.toList c
  obtain ⟨v, hv⟩ : ∃ v, Lib.indexByte S.data.toList c = v := ⟨_, rfl⟩
  rw [hv] at HI hx
  have hd : decide (0 ≤ v) = S.data.toList.contains c := by
    rw [hx]
    cases S.data.toList.contains c with
    | true => simp
    | false => rfl
  generalize S.data.toList.contains c = r at hd ⊢
  clear hx hv
  go_enter Tryz.func92, Tryz.ntmps92
  go_wp2_with fail
  refine HI.out.mono ?_
  rintro e w1 ⟨rfl, rfl⟩
  go_wp2_with fail
  go_ret
  exact ⟨rfl, rfl⟩

theorem oneof3 (x y z : ByteArray) (g : Nat) (w : World) (hg : Blk w g 9 #[.string x, .string y, .string z]) (h1 : 1 ≤ x.size + y.size + z.size) (h2 : x.size + y.size + z.size ≤ 1000) :
    Calls Tryz.prog 69 #[.slice (some ⟨g, 0, none⟩) 3 3] w fun e w' => ∃ b, e = .returned (isIn b) ∧ w'.cell? ⟨b, 0, none⟩ = some (.string (x ++ y ++ z)) ∧ Below w.heap.size w w' := by
  have HJ := Lib.hid (join3 x y z g w hg h1 h2)
  generalize x ++ y ++ z = S at HJ ⊢
  clear hg h1 h2
  go_enter Tryz.func69, Tryz.ntmps69
  go_wp2_with fail
  refine HJ.out.mono ?_
  rintro e w1 ⟨rfl, hb⟩
  have HB := Lib.hid hb
  clear hb HJ
  go_wp2_with fail
  go_ret
  exact ⟨_, rfl, (Blk.new w1 _ _).cell 0, HB.out.alloc HB.out.size _⟩

set_option maxRecDepth 100000 in
theorem join1 (x : ByteArray) (g : Nat) (w : World) (hg : w.cell? ⟨g, 0, none⟩ = some (.string x)) :
    Calls Tryz.prog 91 #[.slice (some ⟨g, 0, none⟩) 1 1, .string ⟨#[]⟩] w fun e w' => e = .returned (.string x) ∧ w' = w := by
  go_enter Tryz.func91, Tryz.ntmps91
  go_wp2_with fail
  go_ret
  exact ⟨rfl, rfl⟩
theorem oneof1 (x : ByteArray) (g : Nat) (w : World) (hg : w.cell? ⟨g, 0, none⟩ = some (.string x)) :
    Calls Tryz.prog 69 #[.slice (some ⟨g, 0, none⟩) 1 1] w fun e w' => ∃ b, e = .returned (isIn b) ∧ w'.cell? ⟨b, 0, none⟩ = some (.string x) ∧ Below w.heap.size w w' := by
  have HJ := Lib.hid (join1 x g w hg)
  clear hg
  go_enter Tryz.func69, Tryz.ntmps69
  go_wp2_with fail
  refine HJ.out.mono ?_
  rintro e w1 ⟨rfl, rfl⟩
  clear HJ
  go_wp2_with fail
  go_ret
  exact ⟨_, rfl, (Blk.new w1 _ _).cell 0, (Below.refl _ _).alloc (Nat.le_refl _) _⟩

set_option maxRecDepth 100000 in
theorem consists_any (s : ByteArray) (b : Nat) (S : ByteArray) (p : UInt8 → Bool) (w : World) (hs : s.size ≤ 1000000) (hb : w.cell? ⟨b, 0, none⟩ = some (.string S)) (hp : ∀ c, S.data.toList.contains c = p c) :
    Calls Tryz.prog 68 #[.string s, isIn b] w fun e w' => e = .returned (.bool (s.data.toList.all p)) ∧ w' = w := by
  unfold isIn
  have HI := Lib.hid (fun c => in_any b S c w hb)
  simp only [hp] at HI
  obtain ⟨L, hL⟩ : ∃ L, s.data.toList = L := ⟨_, rfl⟩
  have hLl : L.length = s.size := by rw [← hL]; simp
  have HL := Lib.hid hL
  have HP := Lib.hid hp
  rw [hL]
  clear hL hb hp
  go_enter Tryz.func68, Tryz.ntmps68
  go_wp2_with fail
  go_loopw [5, 8] (fun _ i wr => wr = w ∧ ∃ k : Nat, i = .int .i64 (k : Int) ∧ k ≤ s.size ∧ (L.take k).all p = true) (fun _ i _ => s.size - (intOf i).toNat)
  case atStart => exact ⟨rfl, 0, rfl, by omega, rfl⟩
  case round =>
    obtain ⟨hwr, k, rfl, hk, hall⟩ := hrel
    obtain rfl : w = wr := hwr.symm
    clear hwr
    by_cases hlt : k < s.size
    · have hki : (k : Int) < (s.size : Int) := by omega
      have hkL : k < L.length := by omega
      have hsx : L[k] = s[k] := by
        have h1 := HL.out
        subst h1
        simp
        rfl
      obtain ⟨x, hx⟩ : ∃ x, s[k] = x := ⟨_, rfl⟩
      rw [hx] at hsx
      have HA := Lib.hid (all_take_more p L k hkL)
      have HF := Lib.hid (all_false p L k hkL)
      rw [hsx] at HA HF
      have HC := Lib.hid (HI.out x)
      clear hsx HI
      obtain ⟨r, hr⟩ : ∃ r, p x = r := ⟨_, rfl⟩
      rw [hr] at HA HF HC
      have HALL := Lib.hid hall
      clear hall
      go_wp2_with fail
      refine HC.out.mono ?_
      rintro e w1 ⟨rfl, rfl⟩
      clear HC
      cases r with
      | true =>
        go_wp2_with fail
        go_roundw
        case rel => exact ⟨trivial, k + 1, by go_num, by omega, by rw [HA.out, HALL.out]; rfl⟩
        case measure => simp [intOf]; omega
      | false =>
        go_wp2_with fail
        go_ret
        exact ⟨by rw [HF.out trivial]; rfl, rfl⟩
    · obtain rfl : k = s.size := by omega
      rw [List.take_of_length_le (by omega)] at hall
      go_wp2_with fail
      go_ret
      exact ⟨by rw [hall]; rfl, rfl⟩
end Go.Proofs.YtflgbnolfleicaaGreatDoor
