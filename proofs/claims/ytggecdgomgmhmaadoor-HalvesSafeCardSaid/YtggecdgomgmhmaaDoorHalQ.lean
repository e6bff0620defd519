/-
  Contract of the law's helper awake: the chapter's example. Condition: the table of crc holds what its text says.
-/
import Derived.Test.YtggecdgomgmhmaaDoorHalP
namespace Go.Proofs.YtggecdgomgmhmaaDoor
open Go.RowKit

theorem cellsStr : Tryd.prog.cellsOf 9 = 1 := by kernel_rfl
theorem eOf_fresh (n hf : Nat) : eOf (newestOf (zb n) hf) + 1 = 1 := by rw [newest_zb]; rfl
def tS : ByteArray := ⟨#[115]⟩
def tA : ByteArray := ⟨#[97]⟩
def tB : ByteArray := ⟨#[98]⟩
def tT : ByteArray := ⟨#[116]⟩
def tC : ByteArray := ⟨#[99]⟩
theorem one_texts : tS.size = 1 ∧ tA.size = 1 ∧ tB.size = 1 ∧ tT.size = 1 ∧ tC.size = 1 := ⟨rfl, rfl, rfl, rfl, rfl⟩
set_option maxRecDepth 100000 in
set_option maxHeartbeats 4000000 in
theorem awake_any (w : World) (hT : Tab w) :
    Calls Tryd.prog 7 #[] w fun e w' => e = .returned (.bool true) ∧ Below w.heap.size w w' := by
  have hN := Lib.hid (new_any 80 w (by omega) (by omega))
  have HT := Lib.hid hT
  clear hT
  go_enter Tryd.func7, Tryd.ntmps7
  go_wp2_with fail
  refine hN.out.mono ?_
  rintro x w1 ⟨F, rfl, hD, hb1, hF⟩
  have hT1 := HT.out.below hb1 HT.out.lt
  have HFm := Lib.hid (fmt0 hT1 (fresh_cr hD (hf := 40) rfl (by omega)) (by rw [zb_len]) (eOf_fresh 80 40) (by omega) tS (by decide) (by decide))
  have HB1 := Lib.hid hb1
  have HFo := Lib.hid hF
  clear hD hT1 hb1 hF hN
  go_wp2_with fail
  refine HFm.out.mono ?_
  rintro x w2 ⟨g, F2, D2, rfl, q1, q2, q3, q4, l2, r2⟩
  rw [head_small 1 _ (by omega) (by decide)] at r2
  have b2 := base_fmt (g' := g) HB1.out HB1.out.size HFo.out HT.out HT.out.lt q3 q4 q1
  have HA1 := Lib.hid (app0 b2 r2 l2 tA (by decide))
  have HQ2 := Lib.hid q2
  clear q1 q2 q3 q4 HFm r2 l2 HFo
  go_wp2_with fail
  refine HA1.out.mono ?_
  rintro x w3 ⟨F3, D3, m3, l3, h3⟩
  rcases h3 with ⟨rfl, _, _, r3⟩ | ⟨_, hc, _⟩
  case inr => exact absurd ⟨by decide, by decide⟩ hc
  have b3 := b2.mv m3
  have HA2 := Lib.hid (app0 b3 r3 l3 tB (by decide))
  have HM3 := Lib.hid m3
  clear HA1 r3 l3 m3 b2
  go_wp2_with fail
  refine HA2.out.mono ?_
  rintro x w4 ⟨F4, D4, m4, l4, h4⟩
  rcases h4 with ⟨rfl, _, _, r4⟩ | ⟨_, hc, _⟩
  case inr => exact absurd ⟨by decide, by decide⟩ hc
  have b4 := b3.mv m4
  have HS := Lib.hid (snap0 b4 r4 l4 (by omega) tT (by decide) (by decide))
  have HM4 := Lib.hid (HM3.out.trans m4)
  clear HA2 r4 l4 m4 b3
  go_wp2_with fail
  refine HS.out.mono ?_
  rintro x w5 ⟨rfl, F5, D5, m5, l5, r5⟩
  rw [head_small 2 _ (by omega) (by decide)] at r5
  have b5 := b4.mv m5
  have HA3 := Lib.hid (app0 b5 r5 l5 tC (by decide))
  have HM5 := Lib.hid (HM4.out.trans m5)
  clear HS r5 l5 m5 b4
  go_wp2_with fail
  refine HA3.out.mono ?_
  rintro x w6 ⟨F6, D6, m6, l6, h6⟩
  rcases h6 with ⟨rfl, _, _, r6⟩ | ⟨_, hc, _⟩
  case inr => exact absurd ⟨by decide, by decide⟩ hc
  have b6 := b5.mv m6
  have HM6 := Lib.hid (HM5.out.trans m6)
  have HO := Lib.hid (run_open b6 (r6.cr l6) r6.ld.open_)
  have hd6 : F6.d = F.d := HM6.out.1.trans HQ2.out
  rw [hd6] at HO
  clear HA3 r6 l6 m6 b5
  go_wp2_with fail
  refine HO.out.mono ?_
  rintro x w7 ⟨g7, A, c, F7, D7, rfl, m7, q7, r7, l7, hl, _, _⟩
  obtain ⟨a, rfl, _, _, hc0⟩ := hl 0 (.string tC) rfl
  have hc0' : w7.cell? a = some (.string tC) := hc0
  have HB7 := Lib.hid (b6.mv m7).bel
  have hlo := (b6.mv m7).lo
  have hac : (w7.alloc (.cells #[.int .u64 2, .string (ba tT.data.toList), .slice (some a) 1 c] 39)).cell? a = some (.string tC) := by
    have hlt : a.block < w7.heap.size := block_lt_of_cell hc0'
    rw [← hc0']
    exact ((Below.refl w7.heap.size w7).alloc (Nat.le_refl _) _).cell hlt
  clear m7 q7 r7 l7 hl hc0 HO b6
  have ht1 : ((ba tT.data.toList).toList == [116]) = true := by decide +kernel
  have ht2 : (tC.toList == [99]) = true := by decide +kernel
  go_wp2_with fail
  go_ret
  exact ⟨rfl, HB7.out.alloc hlo _⟩
end Go.Proofs.YtggecdgomgmhmaaDoor
