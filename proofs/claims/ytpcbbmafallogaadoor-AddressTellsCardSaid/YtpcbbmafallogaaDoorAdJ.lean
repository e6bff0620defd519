/-
  Contract of strings.Join at three texts and nothing between them; and of the calls of strings.Builder that it makes. Condition: at least one byte, at most a thousand.
-/
import Derived.Shelf.Strings.Builder2
import Derived.Test.YtpcbbmafallogaaDoorBld
namespace Go.Proofs.YtpcbbmafallogaaDoor
open Go.RowKit Go.Shelf

def grow_ren : Go.Shelf.Ren := ⟨fun | 241 => 80 | 277 => 85 | n => n, fun | 70 => 63 | 9 => 9 | 0 => 0 | 72 => 65 | 37 => 31 | 127 => 79 | 3 => 3 | 5 => 5 | n => n, fun | n => n⟩
theorem grow_lays : Go.Proofs.Lays.n241 Tryd.prog grow_ren := {
  mixed := by kernel_rfl
  f241 := Tryd.func80.trans (congrArg some (by kernel_rfl))
  f277 := Tryd.func85.trans (congrArg some (by kernel_rfl))
  t0 := Tryd.underlying0
  a0 := Tryd.isAgg0
  z0 := Tryd.sizeOf0
  v0 := Tryd.zeroValue0
  t3 := Tryd.underlying3
  a3 := Tryd.isAgg3
  z3 := Tryd.sizeOf3
  v3 := Tryd.zeroValue3
  t37 := Tryd.underlying31
  a37 := Tryd.isAgg31
  z37 := Tryd.sizeOf31
  v37 := Tryd.zeroValue31
  t70 := Tryd.underlying63
  a70 := Tryd.isAgg63
  z70 := Tryd.sizeOf63
  v70 := Tryd.zeroValue63
  t72 := Tryd.underlying65
  a72 := Tryd.isAgg65
  z72 := Tryd.sizeOf65
  v72 := Tryd.zeroValue65 }
theorem grow_extra : Go.Proofs.Builder.Extra Tryd.prog grow_ren := {
  sizeBuilder := by kernel_rfl
  liesBuilder := by kernel_rfl
  t5 := Tryd.underlying5
  a5 := Tryd.isAgg5
  z5 := Tryd.sizeOf5
  v5 := Tryd.zeroValue5
  infoByte := by kernel_rfl
  cellsByte := by kernel_rfl
  sizeByte := by kernel_rfl
  neB5 := by decide }
theorem bld_grow0 (B b n : Nat) (w : World) (hB : B ≤ b) (hbk : w.heap[b]? = some (.cells #[.pointer (some ⟨b, 0, none⟩), .slice none 0 0] 65 (0, 0))) (hBw : B ≤ w.heap.size) (hn : n ≤ 1000000) :
    Calls Tryd.prog 80 #[.pointer (some ⟨b, 0, none⟩), .int .i64 n] w fun e w' => e = .returned (.tuple #[]) ∧ (Lib.BuilderAt 65 5 B b (.pointer (some ⟨b, 0, none⟩)) [] w' ∧ Below B w w') :=
  Go.Proofs.Any.Builder_grow_fresh grow_lays grow_extra B b n w hB hbk hBw (by omega)
set_option maxRecDepth 100000 in
set_option maxHeartbeats 2000000 in
theorem bld_Grow (B b n : Nat) (w : World) (hB : B ≤ b) (hbk : w.heap[b]? = some (.cells #[.pointer none, .slice none 0 0] 65 (0, 0))) (hBw : B ≤ w.heap.size) (hn : n ≤ 1000000) (hn1 : 1 ≤ n) :
    Calls Tryd.prog 70 #[.pointer (some ⟨b, 0, none⟩), .int .i64 n] w fun e w' => e = .returned (.tuple #[]) ∧ (Lib.BuilderAt 65 5 B b (.pointer (some ⟨b, 0, none⟩)) [] w' ∧ Below B w w') := by
  have hbk1 : (w.setCell ⟨b, 0, none⟩ (.pointer (some ⟨b, 0, none⟩))).heap[b]? = some (.cells #[.pointer (some ⟨b, 0, none⟩), .slice none 0 0] 65 (0, 0)) := by
    simp [World.setCell, Array.getElem?_modify, hbk]
  have c1 : (w.setCell ⟨b, 0, none⟩ (.pointer (some ⟨b, 0, none⟩))).drew.cell? ⟨b, 1, none⟩ = some (.slice none 0 0) := by
    have : (w.setCell ⟨b, 0, none⟩ (.pointer (some ⟨b, 0, none⟩))).drew.heap[b]? = _ := hbk1
    rw [Lib.cell_of_heap this]; rfl
  have hb1 : Below B w (w.setCell ⟨b, 0, none⟩ (.pointer (some ⟨b, 0, none⟩))).drew := ((Below.refl B w).setCell (p := ⟨b, 0, none⟩) hB _).drew
  have hG := Lib.hid (bld_grow0 B b n (w.setCell ⟨b, 0, none⟩ (.pointer (some ⟨b, 0, none⟩))).drew hB hbk1 (by simpa [World.setCell, World.drew, -World.drew_eq] using hBw) hn)
  have hF := Lib.hid (bld_fresh b w (by rw [Lib.cell_of_heap hbk]; rfl) (by simp [World.shape?, hbk]) (Lib.frozen_of_heap hbk 0))
  have hneg : ¬ ((n : Int) < 0) := by omega
  have hpos : (0 : Int) < (n : Int) := by omega
  go_enter Tryd.func70, Tryd.ntmps70
  go_wp2_with (go_at_call 79; refine hF.out.mono ?_; rintro e w' ⟨rfl, rfl⟩)
  go_region
  go_wp2_with (go_at_call 80; refine hG.out.mono ?_; rintro e w' ⟨rfl, h1, h2⟩)
  go_end0
  exact ⟨rfl, h1, hb1.trans h2⟩

set_option maxRecDepth 100000 in
set_option maxHeartbeats 4000000 in
theorem join3 (x y z : ByteArray) (g : Nat) (w : World) (hg : Blk w g 9 #[.string x, .string y, .string z]) (h1 : 1 ≤ x.size + y.size + z.size) (h2 : x.size + y.size + z.size ≤ 1000) :
    Calls Tryd.prog 58 #[.slice (some ⟨g, 0, none⟩) 3 3, .string ⟨#[]⟩] w fun e w' => e = .returned (.string (x ++ y ++ z)) ∧ Below w.heap.size w w' := by
  have c0 : w.cell? ⟨g, 0, none⟩ = some (.string x) := hg.cell 0
  have c1 : w.cell? ⟨g, 1, none⟩ = some (.string y) := hg.cell 1
  have c2 : w.cell? ⟨g, 2, none⟩ = some (.string z) := hg.cell 2
  obtain ⟨n, hn⟩ : ∃ n : Nat, x.size + y.size + z.size = n := ⟨_, rfl⟩
  have hni : (x.size : Int) + (y.size : Int) + (z.size : Int) = (n : Int) := by omega
  have HNI := Lib.hid hni
  have hblk := Blk.new w 65 #[.pointer none, .slice none 0 0]
  have hsz : (w.alloc (.cells #[.pointer none, .slice none 0 0] 65)).heap.size = w.heap.size + 1 := by simp
  have HG := Lib.hid (bld_Grow w.heap.size w.heap.size n (w.alloc (.cells #[.pointer none, .slice none 0 0] 65)) (Nat.le_refl _) hblk (by omega) (by omega) (by omega))
  have HB0 := Lib.hid ((Below.refl w.heap.size w).alloc (Nat.le_refl _) (.cells #[.pointer none, .slice none 0 0] 65))
  have glt := hg.lt
  have HC1 := Lib.hid c1
  have HC2 := Lib.hid c2
  have hsl : ∀ W, (Instr.slice 57 (.slice (some ⟨g, 0, none⟩) 3 3) (some (.int .i64 1)) none none).run Tryd.prog W = .ok (.slice (some ⟨g, 1, none⟩) 2 2) W := fun W => by
    obtain ⟨A, hA, hr⟩ := run_cut_from (P := Tryd.prog) 57 9 Tryd.underlying57 (by kernel_rfl) g 3 1 (by omega)
    obtain rfl := hA (by omega)
    exact hr W
  clear hni hblk hsz
  go_enter Tryd.func58, Tryd.ntmps58
  go_wp2_with fail
  go_loopw [5, 7, 41] (fun m _ i wr => wr = w ∧ ((i = .int .i64 0 ∧ m = .int .i64 0) ∨ (i = .int .i64 1 ∧ m = .int .i64 (x.size : Int)) ∨ (i = .int .i64 2 ∧ m = .int .i64 ((x.size : Int) + (y.size : Int))) ∨ (i = .int .i64 3 ∧ m = .int .i64 (n : Int)))) (fun _ _ i _ => 3 - (intOf i).toNat)
  case atStart => exact ⟨rfl, .inl ⟨rfl, rfl⟩⟩
  case round =>
    obtain ⟨hwr, h⟩ := hrel
    obtain rfl : w = wr := hwr.symm
    clear hwr
    rcases h with ⟨rfl, rfl⟩ | ⟨rfl, rfl⟩ | ⟨rfl, rfl⟩ | ⟨rfl, rfl⟩
    · go_wp2_with fail
      go_roundw
      case rel => exact ⟨trivial, .inr (.inl ⟨rfl, rfl⟩)⟩
      case measure => simp [intOf]
    · go_wp2_with fail
      go_roundw
      case rel => exact ⟨trivial, .inr (.inr (.inl ⟨rfl, rfl⟩))⟩
      case measure => simp [intOf]
    · go_wp2_with fail
      go_roundw
      case rel => exact ⟨trivial, .inr (.inr (.inr ⟨rfl, by rw [← HNI.out]⟩))⟩
      case measure => simp [intOf]
    · clear c1 c2
      go_wp2_with fail
      refine HG.out.mono ?_
      rintro e w1 ⟨rfl, hd1, hb1⟩
      have HD1 := Lib.hid (show Bld w.heap.size w.heap.size [] w1 from .inr hd1)
      have HB1 := Lib.hid (HB0.out.trans hb1)
      have c0 : w1.cell? ⟨g, 0, none⟩ = some (.string x) := (HB1.out.cell (p := ⟨g, 0, none⟩) glt).trans c0
      have HW1 := Lib.hid (bld_write w.heap.size w.heap.size [] x w1 HD1.out (by simp; omega) HB1.out.size)
      clear hd1 hb1 HG
      go_wp2_with fail
      refine HW1.out.mono ?_
      rintro e w2 ⟨rfl, hd2, hb2⟩
      have HD2 := Lib.hid hd2
      have HB2 := Lib.hid (HB1.out.trans hb2)
      clear hd2 hb2 HW1 c0
      go_wp2_with fail
      go_loopw [10, 65] (fun _ i w' => Below w.heap.size w w' ∧ ((i = .int .i64 0 ∧ Bld w.heap.size w.heap.size x.data.toList w') ∨ (i = .int .i64 1 ∧ Bld w.heap.size w.heap.size (x.data.toList ++ y.data.toList) w') ∨ (i = .int .i64 2 ∧ Bld w.heap.size w.heap.size (x.data.toList ++ y.data.toList ++ z.data.toList) w'))) (fun _ i _ => 2 - (intOf i).toNat)
      case atStart => exact ⟨HB2.out, .inl ⟨rfl, HD2.out⟩⟩
      case round =>
        obtain ⟨hB, h⟩ := hrel
        have HB := Lib.hid hB
        have d1 : wr.cell? ⟨g, 1, none⟩ = some (.string y) := (hB.cell (p := ⟨g, 1, none⟩) glt).trans HC1.out
        have d2 : wr.cell? ⟨g, 2, none⟩ = some (.string z) := (hB.cell (p := ⟨g, 2, none⟩) glt).trans HC2.out
        have hlx : x.data.toList.length = x.size := by simp
        have hly : y.data.toList.length = y.size := by simp
        have hlz : z.data.toList.length = z.size := by simp
        clear hB HD2 HB2
        rcases h with ⟨rfl, hd⟩ | ⟨rfl, hd⟩ | ⟨rfl, hd⟩
        · have HE := Lib.hid (bld_write w.heap.size w.heap.size _ ⟨#[]⟩ wr hd (by rw [hlx, show (⟨#[]⟩ : ByteArray).size = 0 from rfl]; omega) HB.out.size)
          have HL := Lib.hid (show True from trivial)
          clear hd
          go_wp2_with fail
          refine HE.out.mono ?_
          rintro e w3 ⟨rfl, hd, hb⟩
          have HB3 := Lib.hid (HB.out.trans hb)
          have HW := Lib.hid (bld_write w.heap.size w.heap.size _ y w3 hd (by simp only [List.length_append, hlx]; simp; omega) HB3.out.size)
          clear hd hb HE d1 d2 HL
          go_wp2_with fail
          refine HW.out.mono ?_
          rintro e w4 ⟨rfl, hd, hb⟩
          have HD4 := Lib.hid hd
          have HB4 := Lib.hid (HB3.out.trans hb)
          clear hd hb HW
          go_wp2_with fail
          go_roundw
          case rel => exact ⟨HB4.out, .inr (.inl ⟨rfl, by simpa using HD4.out⟩)⟩
          case measure => simp [intOf]
        · have HE := Lib.hid (bld_write w.heap.size w.heap.size _ ⟨#[]⟩ wr hd (by rw [List.length_append, hlx, hly, show (⟨#[]⟩ : ByteArray).size = 0 from rfl]; omega) HB.out.size)
          have HL := Lib.hid (show True from trivial)
          clear hd
          go_wp2_with fail
          refine HE.out.mono ?_
          rintro e w3 ⟨rfl, hd, hb⟩
          have HB3 := Lib.hid (HB.out.trans hb)
          have HW := Lib.hid (bld_write w.heap.size w.heap.size _ z w3 hd (by simp only [List.length_append, hlx, hly]; simp; omega) HB3.out.size)
          clear hd hb HE d1 d2 HL
          go_wp2_with fail
          refine HW.out.mono ?_
          rintro e w4 ⟨rfl, hd, hb⟩
          have HD4 := Lib.hid hd
          have HB4 := Lib.hid (HB3.out.trans hb)
          clear hd hb HW
          go_wp2_with fail
          go_roundw
          case rel => exact ⟨HB4.out, .inr (.inr ⟨rfl, by simpa using HD4.out⟩)⟩
          case measure => simp [intOf]
        · have HS := Lib.hid (bld_string w.heap.size w.heap.size _ wr hd HB.out.size)
          have hba : ba (x.data.toList ++ y.data.toList ++ z.data.toList) = x ++ y ++ z := by rw [← ba_append, ← ba_append, ba_back, ba_back, ba_back]
          rw [hba] at HS
          clear hd d1 d2 hba
          go_wp2_with fail
          refine HS.out.mono ?_
          rintro e w3 ⟨rfl, hb⟩
          have HB3 := Lib.hid (HB.out.trans hb)
          clear hb HS
          go_wp2_with fail
          go_ret
          exact ⟨rfl, HB3.out⟩
end Go.Proofs.YtpcbbmafallogaaDoor
