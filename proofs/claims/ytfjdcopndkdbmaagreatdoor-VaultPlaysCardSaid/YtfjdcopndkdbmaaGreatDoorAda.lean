/-
  The library's functions that package address calls to look at an address: that they are in this program, and what they do: strings.Cut at one byte, CutPrefix, Contains, Split at one byte, IndexByte. Condition: one variable of the library's holds some number; texts of less than 4 GB.
  Contract of strings.Join at three texts and nothing between them. Condition: at least one byte, at most a thousand.
  Contracts of address.oneOf, of the closure that it returns, of consists, lower, withoutTag, without. Condition: texts of at most 1000000 bytes; one variable of the library's holds some number.
-/
import Derived.Shelf.Strings.Cut
import Derived.Shelf.Strings.Split
import Derived.Shelf.Small.Wraps
import Derived.Shelf.Small.Strs
import Derived.Shelf.Vars
import Derived.Lib.OthersKept
import Derived.Test.YtfjdcopndkdbmaaGreatDoorBas
import Derived.Test.YtfjdcopndkdbmaaGreatDoorAdm
import Derived.Test.YtfjdcopndkdbmaaGreatDoorBgr

namespace Go.Proofs.YtfjdcopndkdbmaaGreatDoor
open Go.RowKit Go.Shelf

def lib_ren : Go.Shelf.Ren := ⟨fun | 103 => 88 | 137 => 107 | 138 => 139 | 143 => 128 | 144 => 116 | 145 => 101 | 146 => 117 | 195 => 143 | 197 => 144 | 206 => 118 | 210 => 104 | 217 => 122 | 218 => 145 | 219 => 127 | 220 => 115 | 221 => 129 | 224 => 136 | 225 => 135 | 260 => 146 | 266 => 132 | 267 => 137 | 268 => 138 | 314 => 142 | n => n, fun | 0 => 0 | 3 => 3 | 4 => 4 | 5 => 5 | 9 => 9 | 21 => 21 | 24 => 134 | 31 => 50 | 46 => 119 | 51 => 115 | 59 => 132 | 105 => 183 | 119 => 185 | 138 => 187 | 139 => 188 | 146 => 174 | n => n, fun | 1 => 2 | 3 => 3 | 4 => 4 | n => n⟩
theorem cut_lays : Go.Proofs.Lays.n145 Tryz.prog lib_ren := {
  mixed := by kernel_rfl
  f145 := Tryz.func101.trans (congrArg some (by kernel_rfl))
  f217 := Tryz.func122.trans (congrArg some (by kernel_rfl))
  f219 := Tryz.func127.trans (congrArg some (by kernel_rfl))
  f220 := Tryz.func115.trans (congrArg some (by kernel_rfl))
  f224 := Tryz.func136.trans (congrArg some (by kernel_rfl))
  f225 := Tryz.func135.trans (congrArg some (by kernel_rfl))
  f266 := Tryz.func132.trans (congrArg some (by kernel_rfl))
  f267 := Tryz.func137.trans (congrArg some (by kernel_rfl))
  f314 := Tryz.func142.trans (congrArg some (by kernel_rfl))
  t3 := Tryz.underlying3
  a3 := Tryz.isAgg3
  z3 := Tryz.sizeOf3
  v3 := Tryz.zeroValue3
  t4 := Tryz.underlying4
  a4 := Tryz.isAgg4
  z4 := Tryz.sizeOf4
  v4 := Tryz.zeroValue4
  t5 := Tryz.underlying5
  a5 := Tryz.isAgg5
  z5 := Tryz.sizeOf5
  v5 := Tryz.zeroValue5
  t9 := Tryz.underlying9
  a9 := Tryz.isAgg9
  z9 := Tryz.sizeOf9
  v9 := Tryz.zeroValue9
  t46 := Tryz.underlying119
  a46 := Tryz.isAgg119
  z46 := Tryz.sizeOf119
  v46 := Tryz.zeroValue119
  t51 := Tryz.underlying115
  a51 := Tryz.isAgg115
  z51 := Tryz.sizeOf115
  v51 := Tryz.zeroValue115
  t59 := Tryz.underlying132
  a59 := Tryz.isAgg132
  z59 := Tryz.sizeOf132
  v59 := Tryz.zeroValue132
  t146 := Tryz.underlying174
  a146 := Tryz.isAgg174
  z146 := Tryz.sizeOf174
  v146 := Tryz.zeroValue174
  g1 := by kernel_rfl }
theorem cutp_lays : Go.Proofs.Lays.n103 Tryz.prog lib_ren := {
  mixed := by kernel_rfl
  f103 := Tryz.func88.trans (congrArg some (by kernel_rfl))
  f206 := Tryz.func118.trans (congrArg some (by kernel_rfl))
  f210 := Tryz.func104.trans (congrArg some (by kernel_rfl))
  t3 := Tryz.underlying3
  a3 := Tryz.isAgg3
  z3 := Tryz.sizeOf3
  v3 := Tryz.zeroValue3
  t4 := Tryz.underlying4
  a4 := Tryz.isAgg4
  z4 := Tryz.sizeOf4
  v4 := Tryz.zeroValue4
  t9 := Tryz.underlying9
  a9 := Tryz.isAgg9
  z9 := Tryz.sizeOf9
  v9 := Tryz.zeroValue9
  t24 := Tryz.underlying134
  a24 := Tryz.isAgg134
  z24 := Tryz.sizeOf134
  v24 := Tryz.zeroValue134 }
theorem has_lays : Go.Proofs.Lays.n144 Tryz.prog lib_ren := {
  mixed := by kernel_rfl
  f143 := Tryz.func128.trans (congrArg some (by kernel_rfl))
  f144 := Tryz.func116.trans (congrArg some (by kernel_rfl))
  f217 := Tryz.func122.trans (congrArg some (by kernel_rfl))
  f219 := Tryz.func127.trans (congrArg some (by kernel_rfl))
  f224 := Tryz.func136.trans (congrArg some (by kernel_rfl))
  f225 := Tryz.func135.trans (congrArg some (by kernel_rfl))
  f266 := Tryz.func132.trans (congrArg some (by kernel_rfl))
  f267 := Tryz.func137.trans (congrArg some (by kernel_rfl))
  f314 := Tryz.func142.trans (congrArg some (by kernel_rfl))
  t3 := Tryz.underlying3
  a3 := Tryz.isAgg3
  z3 := Tryz.sizeOf3
  v3 := Tryz.zeroValue3
  t4 := Tryz.underlying4
  a4 := Tryz.isAgg4
  z4 := Tryz.sizeOf4
  v4 := Tryz.zeroValue4
  t5 := Tryz.underlying5
  a5 := Tryz.isAgg5
  z5 := Tryz.sizeOf5
  v5 := Tryz.zeroValue5
  t9 := Tryz.underlying9
  a9 := Tryz.isAgg9
  z9 := Tryz.sizeOf9
  v9 := Tryz.zeroValue9
  t46 := Tryz.underlying119
  a46 := Tryz.isAgg119
  z46 := Tryz.sizeOf119
  v46 := Tryz.zeroValue119
  t51 := Tryz.underlying115
  a51 := Tryz.isAgg115
  z51 := Tryz.sizeOf115
  v51 := Tryz.zeroValue115
  t146 := Tryz.underlying174
  a146 := Tryz.isAgg174
  z146 := Tryz.sizeOf174
  v146 := Tryz.zeroValue174
  g1 := by kernel_rfl }
theorem split_lays : Go.Proofs.Lays.n146 Tryz.prog lib_ren := {
  mixed := by kernel_rfl
  f138 := Tryz.func139.trans (congrArg some (by kernel_rfl))
  f143 := Tryz.func128.trans (congrArg some (by kernel_rfl))
  f146 := Tryz.func117.trans (congrArg some (by kernel_rfl))
  f195 := Tryz.func143.trans (congrArg some (by kernel_rfl))
  f197 := Tryz.func144.trans (congrArg some (by kernel_rfl))
  f217 := Tryz.func122.trans (congrArg some (by kernel_rfl))
  f218 := Tryz.func145.trans (congrArg some (by kernel_rfl))
  f219 := Tryz.func127.trans (congrArg some (by kernel_rfl))
  f221 := Tryz.func129.trans (congrArg some (by kernel_rfl))
  f224 := Tryz.func136.trans (congrArg some (by kernel_rfl))
  f225 := Tryz.func135.trans (congrArg some (by kernel_rfl))
  f260 := Tryz.func146.trans (congrArg some (by kernel_rfl))
  f266 := Tryz.func132.trans (congrArg some (by kernel_rfl))
  f267 := Tryz.func137.trans (congrArg some (by kernel_rfl))
  f268 := Tryz.func138.trans (congrArg some (by kernel_rfl))
  f314 := Tryz.func142.trans (congrArg some (by kernel_rfl))
  t0 := Tryz.underlying0
  a0 := Tryz.isAgg0
  z0 := Tryz.sizeOf0
  v0 := Tryz.zeroValue0
  t3 := Tryz.underlying3
  a3 := Tryz.isAgg3
  z3 := Tryz.sizeOf3
  v3 := Tryz.zeroValue3
  t4 := Tryz.underlying4
  a4 := Tryz.isAgg4
  z4 := Tryz.sizeOf4
  v4 := Tryz.zeroValue4
  t5 := Tryz.underlying5
  a5 := Tryz.isAgg5
  z5 := Tryz.sizeOf5
  v5 := Tryz.zeroValue5
  t9 := Tryz.underlying9
  a9 := Tryz.isAgg9
  z9 := Tryz.sizeOf9
  v9 := Tryz.zeroValue9
  t21 := Tryz.underlying21
  a21 := Tryz.isAgg21
  z21 := Tryz.sizeOf21
  v21 := Tryz.zeroValue21
  t31 := Tryz.underlying50
  a31 := Tryz.isAgg50
  z31 := Tryz.sizeOf50
  v31 := Tryz.zeroValue50
  t46 := Tryz.underlying119
  a46 := Tryz.isAgg119
  z46 := Tryz.sizeOf119
  v46 := Tryz.zeroValue119
  t51 := Tryz.underlying115
  a51 := Tryz.isAgg115
  z51 := Tryz.sizeOf115
  v51 := Tryz.zeroValue115
  t105 := Tryz.underlying183
  a105 := Tryz.isAgg183
  z105 := Tryz.sizeOf183
  v105 := Tryz.zeroValue183
  t119 := Tryz.underlying185
  a119 := Tryz.isAgg185
  z119 := Tryz.sizeOf185
  t138 := Tryz.underlying187
  a138 := Tryz.isAgg187
  z138 := Tryz.sizeOf187
  v138 := Tryz.zeroValue187
  t139 := Tryz.underlying188
  a139 := Tryz.isAgg188
  z139 := Tryz.sizeOf188
  v139 := Tryz.zeroValue188
  t146 := Tryz.underlying174
  a146 := Tryz.isAgg174
  z146 := Tryz.sizeOf174
  v146 := Tryz.zeroValue174
  g1 := by kernel_rfl
  g3 := by kernel_rfl
  g4 := by kernel_rfl }
theorem idx_lays : Go.Proofs.Lays.n137 Tryz.prog lib_ren := {
  mixed := by kernel_rfl
  f137 := Tryz.func107.trans (congrArg some (by kernel_rfl))
  f217 := Tryz.func122.trans (congrArg some (by kernel_rfl))
  f266 := Tryz.func132.trans (congrArg some (by kernel_rfl))
  t3 := Tryz.underlying3
  a3 := Tryz.isAgg3
  z3 := Tryz.sizeOf3
  v3 := Tryz.zeroValue3
  t5 := Tryz.underlying5
  a5 := Tryz.isAgg5
  z5 := Tryz.sizeOf5
  v5 := Tryz.zeroValue5
  t9 := Tryz.underlying9
  a9 := Tryz.isAgg9
  z9 := Tryz.sizeOf9
  v9 := Tryz.zeroValue9 }

/-- The library's variable holds some number. -/
def MaxIs (w : World) : Prop := ∃ m, w.cell? ⟨2, 0, none⟩ = some (.int .i64 m)
theorem MaxIs.below {w w' : World} (h : MaxIs w) (hb : Below w.heap.size w w') : MaxIs w' := by
  obtain ⟨m, hm⟩ := h
  exact ⟨m, (hb.cell (p := ⟨2, 0, none⟩) (World.block_lt_of_cell? _ _ hm)).trans hm⟩
theorem max_of_shaped {w : World} (h : w.ShapedOpen Tryz.prog) : MaxIs w :=
  Go.Proofs.cell_of_shapedOpen_int (zero := #[.int .i64 0]) (t := 3) h (of_decide_eq_true (by kernel_rfl)) (by kernel_rfl) rfl (by kernel_rfl) (by kernel_rfl) Tryz.underlying3

theorem cut_any (s : ByteArray) (c : UInt8) (w : World) (hs : s.size < 4294967281) (hm : MaxIs w) :
    Calls Tryz.prog 101 #[.string s, .string ⟨#[c]⟩] w fun e w' => e = .returned (.tuple #[.string (ba (Ad.bef s.data.toList c)), .string (ba (Ad.aft s.data.toList c)), .bool (s.data.toList.contains c)]) ∧ Below w.heap.size w w' := by
  obtain ⟨m, hm⟩ := hm
  have h := Go.Proofs.Any.strings_Cut cut_lays s ⟨#[c]⟩ m w hs hm
  refine h.mono ?_
  rintro e w' ⟨rfl, n, rfl⟩
  refine ⟨?_, below_drewN (Below.refl _ _) n⟩
  have e1 := Ad.cut_eq s.data.toList c
  show Ending.returned (Value.tuple #[.string ⟨(Lib.cut s.data.toList [c]).1.toArray⟩, .string ⟨(Lib.cut s.data.toList [c]).2.1.toArray⟩, .bool (Lib.cut s.data.toList [c]).2.2]) = _
  rw [e1]
  rfl
theorem index_any (s : ByteArray) (c : UInt8) (w : World) :
    Calls Tryz.prog 107 #[.string s, .int .u8 (c.toNat : Int)] w fun e w' => e = .returned (.int .i64 (Lib.indexByte s.data.toList c)) ∧ w' = w :=
  by
  have h := Go.Proofs.Any.strings_IndexByte idx_lays s (c.toNat : Int) w
  have e : ((c.toNat : Int)).toNat.toUInt8 = c := by simp
  rw [e] at h
  exact h
theorem cutp_any (s : ByteArray) (p : ByteArray) (w : World) :
    Calls Tryz.prog 88 #[.string s, .string p] w fun e w' => e = .returned (.tuple #[.string (ba (Lib.trimPrefix s.data.toList p.data.toList)), .bool (Lib.hasPrefix s.data.toList p.data.toList)]) ∧ Below w.heap.size w w' := by
  refine (Go.Proofs.Any.strings_CutPrefix cutp_lays s p w).mono ?_
  rintro e w' ⟨rfl, rfl⟩
  exact ⟨rfl, Below.refl _ _⟩
theorem has_any (s : ByteArray) (w : World) (hs : s.size < 4294967281) (hm : MaxIs w) :
    Calls Tryz.prog 116 #[.string s, .string ⟨#[46, 46]⟩] w fun e w' => e = .returned (.bool (Ad.dd s.data.toList)) ∧ w' = w := by
  obtain ⟨m, hm⟩ := hm
  refine (Go.Proofs.Any.strings_Contains has_lays s ⟨#[46, 46]⟩ m w hs hm).mono ?_
  rintro e w' ⟨rfl, rfl⟩
  refine ⟨?_, rfl⟩
  rw [← Ad.contains_dd]
theorem split_any (s : ByteArray) (w : World) (hs : s.size < 4294967281) (hm : MaxIs w) :
    Calls Tryz.prog 117 #[.string s, .string ⟨#[46]⟩] w fun e w' => e = .returned (.slice (some ⟨w.heap.size, 0, none⟩) (Ad.splits [] s.data.toList).length (Ad.splits [] s.data.toList).length) ∧ w' = w.alloc (.cells (cs ((Ad.splits [] s.data.toList).map ba)).toArray 9) := by
  obtain ⟨m, hm⟩ := hm
  refine (Go.Proofs.Any.strings_Split split_lays (by kernel_rfl) s ⟨#[46]⟩ m w hs hm (by decide)).mono ?_
  rintro e w' ⟨rfl, rfl⟩
  have h1 := Ad.splitB_dots s
  have h2 := congrArg List.length h1
  rw [Lib.splitB_all ⟨#[46]⟩ (by decide) 0 _ s rfl, List.length_map] at h2
  rw [h1, h2]
  exact ⟨rfl, rfl⟩
end Go.Proofs.YtfjdcopndkdbmaaGreatDoor

namespace Go.Proofs.YtfjdcopndkdbmaaGreatDoor
open Go.RowKit Go.Shelf

set_option maxRecDepth 100000 in
set_option maxHeartbeats 4000000 in
theorem join3 (x y z : ByteArray) (g : Nat) (w : World) (hg : Blk w g 9 #[.string x, .string y, .string z]) (h1 : 1 ≤ x.size + y.size + z.size) (h2 : x.size + y.size + z.size ≤ 1000) :
    Calls Tryz.prog 105 #[.slice (some ⟨g, 0, none⟩) 3 3, .string ⟨#[]⟩] w fun e w' => e = .returned (.string (x ++ y ++ z)) ∧ Below w.heap.size w w' := by
  have c0 : w.cell? ⟨g, 0, none⟩ = some (.string x) := hg.cell 0
  have c1 : w.cell? ⟨g, 1, none⟩ = some (.string y) := hg.cell 1
  have c2 : w.cell? ⟨g, 2, none⟩ = some (.string z) := hg.cell 2
  obtain ⟨n, hn⟩ : ∃ n : Nat, x.size + y.size + z.size = n := ⟨_, rfl⟩
  have hni : (x.size : Int) + (y.size : Int) + (z.size : Int) = (n : Int) := by omega
  have HNI := Lib.hid hni
  have hblk := Blk.new w 162 #[.pointer none, .slice none 0 0]
  have hsz : (w.alloc (.cells #[.pointer none, .slice none 0 0] 162)).heap.size = w.heap.size + 1 := by simp
  have HG := Lib.hid (bld_Grow w.heap.size w.heap.size n (w.alloc (.cells #[.pointer none, .slice none 0 0] 162)) (Nat.le_refl _) hblk (by omega) (by omega) (by omega))
  have HB0 := Lib.hid ((Below.refl w.heap.size w).alloc (Nat.le_refl _) (.cells #[.pointer none, .slice none 0 0] 162))
  have glt := hg.lt
  have HC1 := Lib.hid c1
  have HC2 := Lib.hid c2
  have hsl : ∀ W, (Instr.slice 50 (.slice (some ⟨g, 0, none⟩) 3 3) (some (.int .i64 1)) none none).run Tryz.prog W = .ok (.slice (some ⟨g, 1, none⟩) 2 2) W := fun W => by
    obtain ⟨A, hA, hr⟩ := run_cut_from (P := Tryz.prog) 50 9 Tryz.underlying50 (by kernel_rfl) g 3 1 (by omega)
    obtain rfl := hA (by omega)
    exact hr W
  clear hni hblk hsz
  go_enter Tryz.func105, Tryz.ntmps105
  go_wp2_with fail
  go_loopw [5, 7, 41] (fun m _ i wr => wr = w ∧ ((i = .int .i64 0 ∧ m = .int .i64 0) ∨ (i = .int .i64 1 ∧ m = .int .i64 (x.size : Int)) ∨ (i = .int .i64 2 ∧ m = .int .i64 ((x.size : Int) + (y.size : Int))) ∨ (i = .int .i64 3 ∧ m = .int .i64 (n : Int)))) (fun _ _ i _ => 3 - (intOf i).toNat)
  case atStart => exact ⟨rfl, .inl ⟨rfl, rfl⟩⟩
  case round =>
    obtain ⟨hwr, h⟩ := hrel
    obtain rfl : w = wr := hwr.symm
    clear hwr
    rcases h with ⟨rfl, rfl⟩ | ⟨rfl, rfl⟩ | ⟨rfl, rfl⟩ | ⟨rfl, rfl⟩
    · go_wp2_with fail
      go_roundw
      case rel => exact ⟨trivial, .inr (.inl ⟨rfl, rfl⟩)⟩
      case measure => simp [intOf]
    · go_wp2_with fail
      go_roundw
      case rel => exact ⟨trivial, .inr (.inr (.inl ⟨rfl, rfl⟩))⟩
      case measure => simp [intOf]
    · go_wp2_with fail
      go_roundw
      case rel => exact ⟨trivial, .inr (.inr (.inr ⟨rfl, by rw [← HNI.out]⟩))⟩
      case measure => simp [intOf]
    · clear c1 c2
      go_wp2_with fail
      refine HG.out.mono ?_
      rintro e w1 ⟨rfl, hd1, hb1⟩
      have HD1 := Lib.hid (show Bld w.heap.size w.heap.size [] w1 from .inr hd1)
      have HB1 := Lib.hid (HB0.out.trans hb1)
      have c0 : w1.cell? ⟨g, 0, none⟩ = some (.string x) := (HB1.out.cell (p := ⟨g, 0, none⟩) glt).trans c0
      have HW1 := Lib.hid (bld_write w.heap.size w.heap.size [] x w1 HD1.out (by simp; omega) HB1.out.size)
      clear hd1 hb1 HG
      go_wp2_with fail
      refine HW1.out.mono ?_
      rintro e w2 ⟨rfl, hd2, hb2⟩
      have HD2 := Lib.hid hd2
      have HB2 := Lib.hid (HB1.out.trans hb2)
      clear hd2 hb2 HW1 c0
      go_wp2_with fail
      go_loopw [10, 65] (fun _ i w' => Below w.heap.size w w' ∧ ((i = .int .i64 0 ∧ Bld w.heap.size w.heap.size x.data.toList w') ∨ (i = .int .i64 1 ∧ Bld w.heap.size w.heap.size (x.data.toList ++ y.data.toList) w') ∨ (i = .int .i64 2 ∧ Bld w.heap.size w.heap.size (x.data.toList ++ y.data.toList ++ z.data.toList) w'))) (fun _ i _ => 2 - (intOf i).toNat)
      case atStart => exact ⟨HB2.out, .inl ⟨rfl, HD2.out⟩⟩
      case round =>
        obtain ⟨hB, h⟩ := hrel
        have HB := Lib.hid hB
        have d1 : wr.cell? ⟨g, 1, none⟩ = some (.string y) := (hB.cell (p := ⟨g, 1, none⟩) glt).trans HC1.out
        have d2 : wr.cell? ⟨g, 2, none⟩ = some (.string z) := (hB.cell (p := ⟨g, 2, none⟩) glt).trans HC2.out
        have hlx : x.data.toList.length = x.size := by simp
        have hly : y.data.toList.length = y.size := by simp
        have hlz : z.data.toList.length = z.size := by simp
        clear hB HD2 HB2
        rcases h with ⟨rfl, hd⟩ | ⟨rfl, hd⟩ | ⟨rfl, hd⟩
        · have HE := Lib.hid (bld_write w.heap.size w.heap.size _ ⟨#[]⟩ wr hd (by rw [hlx, show (⟨#[]⟩ : ByteArray).size = 0 from rfl]; omega) HB.out.size)
          have HL := Lib.hid (show True from trivial)
          clear hd
          go_wp2_with fail
          refine HE.out.mono ?_
          rintro e w3 ⟨rfl, hd, hb⟩
          have HB3 := Lib.hid (HB.out.trans hb)
          have HW := Lib.hid (bld_write w.heap.size w.heap.size _ y w3 hd (by simp only [List.length_append, hlx]; simp; omega) HB3.out.size)
          clear hd hb HE d1 d2 HL
          go_wp2_with fail
          refine HW.out.mono ?_
          rintro e w4 ⟨rfl, hd, hb⟩
          have HD4 := Lib.hid hd
          have HB4 := Lib.hid (HB3.out.trans hb)
          clear hd hb HW
          go_wp2_with fail
          go_roundw
          case rel => exact ⟨HB4.out, .inr (.inl ⟨rfl, by simpa using HD4.out⟩)⟩
          case measure => simp [intOf]
        · have HE := Lib.hid (bld_write w.heap.size w.heap.size _ ⟨#[]⟩ wr hd (by rw [List.length_append, hlx, hly, show (⟨#[]⟩ : ByteArray).size = 0 from rfl]; omega) HB.out.size)
          have HL := Lib.hid (show True from trivial)
          clear hd
          go_wp2_with fail
          refine HE.out.mono ?_
          rintro e w3 ⟨rfl, hd, hb⟩
          have HB3 := Lib.hid (HB.out.trans hb)
          have HW := Lib.hid (bld_write w.heap.size w.heap.size _ z w3 hd (by simp only [List.length_append, hlx, hly]; simp; omega) HB3.out.size)
          clear hd hb HE d1 d2 HL
          go_wp2_with fail
          refine HW.out.mono ?_
          rintro e w4 ⟨rfl, hd, hb⟩
          have HD4 := Lib.hid hd
          have HB4 := Lib.hid (HB3.out.trans hb)
          clear hd hb HW
          go_wp2_with fail
          go_roundw
          case rel => exact ⟨HB4.out, .inr (.inr ⟨rfl, by simpa using HD4.out⟩)⟩
          case measure => simp [intOf]
        · have HS := Lib.hid (bld_string w.heap.size w.heap.size _ wr hd HB.out.size)
          have hba : ba (x.data.toList ++ y.data.toList ++ z.data.toList) = x ++ y ++ z := by rw [← ba_append, ← ba_append, ba_back, ba_back, ba_back]
          rw [hba] at HS
          clear hd d1 d2 hba
          go_wp2_with fail
          refine HS.out.mono ?_
          rintro e w3 ⟨rfl, hb⟩
          have HB3 := Lib.hid (HB.out.trans hb)
          clear hb HS
          go_wp2_with fail
          go_ret
          exact ⟨rfl, HB3.out⟩
end Go.Proofs.YtfjdcopndkdbmaaGreatDoor

namespace Go.Proofs.YtfjdcopndkdbmaaGreatDoor
open Go.RowKit

/-- The closure that oneOf returns: the box of its set lies at b. -/
def isIn (b : Nat) : Value := .func (.func 106) #[] #[.pointer (some ⟨b, 0, none⟩)]
theorem in_any (b : Nat) (S : ByteArray) (c : UInt8) (w : World) (hb : w.cell? ⟨b, 0, none⟩ = some (.string S)) :
    Calls Tryz.prog 106 #[.int .u8 (c.toNat : Int), .pointer (some ⟨b, 0, none⟩)] w fun e w' => e = .returned (.bool (S.data.toList.contains c)) ∧ w' = w := by
  have HI := Lib.hid (index_any S c w)
  have hx := Ad.indexByte_eq S.data.toList c
  obtain ⟨v, hv⟩ : ∃ v, Lib.indexByte S.data.toList c = v := ⟨_, rfl⟩
  rw [hv] at HI hx
  have hd : decide (0 ≤ v) = S.data.toList.contains c := by
    rw [hx]
    cases S.data.toList.contains c with
    | true => simp
    | false => rfl
  generalize S.data.toList.contains c = r at hd ⊢
  clear hx hv
  go_enter Tryz.func106, Tryz.ntmps106
  go_wp2_with fail
  refine HI.out.mono ?_
  rintro e w1 ⟨rfl, rfl⟩
  go_wp2_with fail
  go_ret
  exact ⟨rfl, rfl⟩

theorem oneof3 (x y z : ByteArray) (g : Nat) (w : World) (hg : Blk w g 9 #[.string x, .string y, .string z]) (h1 : 1 ≤ x.size + y.size + z.size) (h2 : x.size + y.size + z.size ≤ 1000) :
    Calls Tryz.prog 90 #[.slice (some ⟨g, 0, none⟩) 3 3] w fun e w' => ∃ b, e = .returned (isIn b) ∧ w'.cell? ⟨b, 0, none⟩ = some (.string (x ++ y ++ z)) ∧ Below w.heap.size w w' := by
  have HJ := Lib.hid (join3 x y z g w hg h1 h2)
  generalize x ++ y ++ z = S at HJ ⊢
  clear hg h1 h2
  go_enter Tryz.func90, Tryz.ntmps90
  go_wp2_with fail
  refine HJ.out.mono ?_
  rintro e w1 ⟨rfl, hb⟩
  have HB := Lib.hid hb
  clear hb HJ
  go_wp2_with fail
  go_ret
  exact ⟨_, rfl, (Blk.new w1 _ _).cell 0, HB.out.alloc HB.out.size _⟩

set_option maxRecDepth 100000 in
theorem join1 (x : ByteArray) (g : Nat) (w : World) (hg : w.cell? ⟨g, 0, none⟩ = some (.string x)) :
    Calls Tryz.prog 105 #[.slice (some ⟨g, 0, none⟩) 1 1, .string ⟨#[]⟩] w fun e w' => e = .returned (.string x) ∧ w' = w := by
  go_enter Tryz.func105, Tryz.ntmps105
  go_wp2_with fail
  go_ret
  exact ⟨rfl, rfl⟩
theorem oneof1 (x : ByteArray) (g : Nat) (w : World) (hg : w.cell? ⟨g, 0, none⟩ = some (.string x)) :
    Calls Tryz.prog 90 #[.slice (some ⟨g, 0, none⟩) 1 1] w fun e w' => ∃ b, e = .returned (isIn b) ∧ w'.cell? ⟨b, 0, none⟩ = some (.string x) ∧ Below w.heap.size w w' := by
  have HJ := Lib.hid (join1 x g w hg)
  clear hg
  go_enter Tryz.func90, Tryz.ntmps90
  go_wp2_with fail
  refine HJ.out.mono ?_
  rintro e w1 ⟨rfl, rfl⟩
  clear HJ
  go_wp2_with fail
  go_ret
  exact ⟨_, rfl, (Blk.new w1 _ _).cell 0, (Below.refl _ _).alloc (Nat.le_refl _) _⟩

set_option maxRecDepth 100000 in
theorem consists_any (s : ByteArray) (b : Nat) (S : ByteArray) (p : UInt8 → Bool) (w : World) (hs : s.size ≤ 1000000) (hb : w.cell? ⟨b, 0, none⟩ = some (.string S)) (hp : ∀ c, S.data.toList.contains c = p c) :
    Calls Tryz.prog 89 #[.string s, isIn b] w fun e w' => e = .returned (.bool (s.data.toList.all p)) ∧ w' = w := by
  unfold isIn
  have HI := Lib.hid (fun c => in_any b S c w hb)
  simp only [hp] at HI
  obtain ⟨L, hL⟩ : ∃ L, s.data.toList = L := ⟨_, rfl⟩
  have hLl : L.length = s.size := by rw [← hL]; simp
  have HL := Lib.hid hL
  have HP := Lib.hid hp
  rw [hL]
  clear hL hb hp
  go_enter Tryz.func89, Tryz.ntmps89
  go_wp2_with fail
  go_loopw [5, 8] (fun _ i wr => wr = w ∧ ∃ k : Nat, i = .int .i64 (k : Int) ∧ k ≤ s.size ∧ (L.take k).all p = true) (fun _ i _ => s.size - (intOf i).toNat)
  case atStart => exact ⟨rfl, 0, rfl, by omega, rfl⟩
  case round =>
    obtain ⟨hwr, k, rfl, hk, hall⟩ := hrel
    obtain rfl : w = wr := hwr.symm
    clear hwr
    by_cases hlt : k < s.size
    · have hki : (k : Int) < (s.size : Int) := by omega
      have hkL : k < L.length := by omega
      have hsx : L[k] = s[k] := by
        have h1 := HL.out
        subst h1
        simp
        rfl
      obtain ⟨x, hx⟩ : ∃ x, s[k] = x := ⟨_, rfl⟩
      rw [hx] at hsx
      have HA := Lib.hid (all_take_more p L k hkL)
      have HF := Lib.hid (all_false p L k hkL)
      rw [hsx] at HA HF
      have HC := Lib.hid (HI.out x)
      clear hsx HI
      obtain ⟨r, hr⟩ : ∃ r, p x = r := ⟨_, rfl⟩
      rw [hr] at HA HF HC
      have HALL := Lib.hid hall
      clear hall
      go_wp2_with fail
      refine HC.out.mono ?_
      rintro e w1 ⟨rfl, rfl⟩
      clear HC
      cases r with
      | true =>
        go_wp2_with fail
        go_roundw
        case rel => exact ⟨trivial, k + 1, by go_num, by omega, by rw [HA.out, HALL.out]; rfl⟩
        case measure => simp [intOf]; omega
      | false =>
        go_wp2_with fail
        go_ret
        exact ⟨by rw [HF.out trivial]; rfl, rfl⟩
    · obtain rfl : k = s.size := by omega
      rw [List.take_of_length_le (by omega)] at hall
      go_wp2_with fail
      go_ret
      exact ⟨by rw [hall]; rfl, rfl⟩
end Go.Proofs.YtfjdcopndkdbmaaGreatDoor
