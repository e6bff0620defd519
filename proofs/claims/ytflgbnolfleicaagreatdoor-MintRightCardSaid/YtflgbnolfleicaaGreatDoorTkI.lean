/-
  Contracts of strconv.FormatUint at numbers of seven digits, by the library's contracts of what it calls. Condition: the table of powers of ten holds what its text lays.
-/
import Derived.Shelf.Strconv.Itoa1
import Derived.Shelf.Strconv.Itoa2
import Derived.Lib.AppendIntMem
import Derived.Lib.OwnBridge
import Derived.Test.YtflgbnolfleicaaGreatDoorBas
import Derived.Test.YtflgbnolfleicaaGreatDoorTkm
namespace Go.Proofs.YtflgbnolfleicaaGreatDoor
open Go.RowKit Go.Shelf

def fmt_ren : Go.Shelf.Ren := ⟨fun | 129 => 113 | 284 => 100 | 317 => 112 | 318 => 114 | 285 => 101 | n => n, fun | 0 => 0 | 3 => 3 | 4 => 4 | 5 => 5 | 9 => 9 | 37 => 46 | 46 => 92 | 51 => 68 | 53 => 81 | 212 => 147 | n => n, fun | 17 => 2 | n => n⟩
theorem base10_lays : Go.Proofs.Lays.n285 Tryz.prog fmt_ren := {
  mixed := by kernel_rfl
  f285 := Tryz.func101.trans (congrArg some (by kernel_rfl))
  t0 := Tryz.underlying0
  a0 := Tryz.isAgg0
  z0 := Tryz.sizeOf0
  v0 := Tryz.zeroValue0
  t3 := Tryz.underlying3
  a3 := Tryz.isAgg3
  z3 := Tryz.sizeOf3
  v3 := Tryz.zeroValue3
  t4 := Tryz.underlying4
  a4 := Tryz.isAgg4
  z4 := Tryz.sizeOf4
  v4 := Tryz.zeroValue4
  t5 := Tryz.underlying5
  a5 := Tryz.isAgg5
  z5 := Tryz.sizeOf5
  v5 := Tryz.zeroValue5
  t9 := Tryz.underlying9
  a9 := Tryz.isAgg9
  z9 := Tryz.sizeOf9
  v9 := Tryz.zeroValue9
  t37 := Tryz.underlying46
  a37 := Tryz.isAgg46
  z37 := Tryz.sizeOf46
  v37 := Tryz.zeroValue46
  t51 := Tryz.underlying68
  a51 := Tryz.isAgg68
  z51 := Tryz.sizeOf68
  v51 := Tryz.zeroValue68
  t53 := Tryz.underlying81
  a53 := Tryz.isAgg81
  z53 := Tryz.sizeOf81
  v53 := Tryz.zeroValue81 }
theorem digits_lays : Go.Proofs.LaysM.n284 Tryz.prog fmt_ren := {
  mixed := by kernel_rfl
  f129 := Tryz.func113.trans (congrArg some (by kernel_rfl))
  f284 := Tryz.func100.trans (congrArg some (by kernel_rfl))
  f317 := Tryz.func112.trans (congrArg some (by kernel_rfl))
  f318 := Tryz.func114.trans (congrArg some (by kernel_rfl))
  t0 := Tryz.underlying0
  a0 := Tryz.isAgg0
  z0 := Tryz.sizeOf0
  v0 := Tryz.zeroValue0
  t3 := Tryz.underlying3
  a3 := Tryz.isAgg3
  z3 := Tryz.sizeOf3
  v3 := Tryz.zeroValue3
  t4 := Tryz.underlying4
  a4 := Tryz.isAgg4
  z4 := Tryz.sizeOf4
  v4 := Tryz.zeroValue4
  t5 := Tryz.underlying5
  a5 := Tryz.isAgg5
  z5 := Tryz.sizeOf5
  v5 := Tryz.zeroValue5
  t9 := Tryz.underlying9
  a9 := Tryz.isAgg9
  z9 := Tryz.sizeOf9
  v9 := Tryz.zeroValue9
  t46 := Tryz.underlying92
  a46 := Tryz.isAgg92
  z46 := Tryz.sizeOf92
  v46 := Tryz.zeroValue92
  t53 := Tryz.underlying81
  a53 := Tryz.isAgg81
  z53 := Tryz.sizeOf81
  v53 := Tryz.zeroValue81
  t212 := Tryz.underlying147
  a212 := Tryz.isAgg147
  z212 := Tryz.sizeOf147
  v212 := Tryz.zeroValue147
  g17 := by kernel_rfl
  i0 := by kernel_rfl
  i3 := by kernel_rfl
  i4 := by kernel_rfl
  i5 := by kernel_rfl
  i9 := by kernel_rfl
  i46 := by kernel_rfl
  i53 := by kernel_rfl
  i212 := by kernel_rfl
  m17 := by kernel_rfl }
theorem ndigits7 (n : Nat) (h : n < 1000000) : Lib.nDigits (1000000 + n) = 7 := Lib.nDigits_unique 6 _ (by omega) (by omega)
theorem numeral7 (n : Nat) (h : n < 1000000) (dk : Array UInt8) (v : Nat) (hF : Lib.FmtInv 7 (1000000 + n) 0 v dk) : ∀ j (hj : j < (49 :: Tk.code n).length), dk[j]! = (49 :: Tk.code n)[j] := by
  intro j hj
  have hj7 : j < 7 := hj
  rw [hF.done j (by omega) hj7]
  unfold Lib.dg
  match j, hj7 with
  | 0, _ =>
    show UInt8.ofNat (48 + (1000000 + n) / 1000000 % 10) = 49
    rw [show (1000000 + n) / 1000000 = 1 by omega]
    rfl
  | 1, _ =>
    show UInt8.ofNat (48 + (1000000 + n) / 100000 % 10) = UInt8.ofNat (48 + n / 100000 % 10)
    rw [show (1000000 + n) / 100000 % 10 = n / 100000 % 10 by omega]
  | 2, _ =>
    show UInt8.ofNat (48 + (1000000 + n) / 10000 % 10) = UInt8.ofNat (48 + n / 10000 % 10)
    rw [show (1000000 + n) / 10000 % 10 = n / 10000 % 10 by omega]
  | 3, _ =>
    show UInt8.ofNat (48 + (1000000 + n) / 1000 % 10) = UInt8.ofNat (48 + n / 1000 % 10)
    rw [show (1000000 + n) / 1000 % 10 = n / 1000 % 10 by omega]
  | 4, _ =>
    show UInt8.ofNat (48 + (1000000 + n) / 100 % 10) = UInt8.ofNat (48 + n / 100 % 10)
    rw [show (1000000 + n) / 100 % 10 = n / 100 % 10 by omega]
  | 5, _ =>
    show UInt8.ofNat (48 + (1000000 + n) / 10 % 10) = UInt8.ofNat (48 + n / 10 % 10)
    rw [show (1000000 + n) / 10 % 10 = n / 10 % 10 by omega]
  | 6, _ =>
    show UInt8.ofNat (48 + (1000000 + n) / 1 % 10) = UInt8.ofNat (48 + n / 1 % 10)
    rw [show (1000000 + n) / 1 % 10 = n / 1 % 10 by omega]

set_option maxHeartbeats 4000000 in
set_option maxRecDepth 100000 in
theorem fmt7 (n : Nat) (hn : n < 1000000) (w : World) (htab : Lib.TabIs Tryz.prog w "internal/strconv.uint64pow10" .u64 Lib.pow10Tab) :
    Calls Tryz.prog 78 #[.int .u64 ((1000000 + n : Nat) : Int), .int .i64 10] w fun e w' => e = .returned (.string (ba (49 :: Tk.code n))) ∧ Below w.heap.size w w' := by
  have hal : Tryz.prog.arrayLen 136 = 24 := by simp [Program.arrayLen, Tryz.underlying136]
  have hnd := Any.internal_strconv_numDigits digits_lays (1000000 + n) (by omega) (by omega) (w.alloc (.cells Lib.zeros24 136)) (Lib.tabIs_alloc htab _)
  rw [ndigits7 n hn] at hnd
  have hH0 := Lib.holds_zero0 w 136 7 (by omega)
  have hfmt := Any.internal_strconv_formatBase10 base10_lays w.heap.size 0 24 (1000000 + n) (Array.replicate 7 0) (w.alloc (.cells Lib.zeros24 136)) hH0 (by rw [Array.size_replicate]; omega) (by omega) (by rw [Array.size_replicate]; omega)
  rw [Array.size_replicate] at hfmt
  have HND := Lib.hid hnd
  have HF := Lib.hid hfmt
  have HH0 := Lib.hid hH0
  have HNUM := Lib.hid (numeral7 n hn)
  have hsl : ∀ W, (Instr.sliceAt 136 (.pointer (some ⟨w.heap.size, 0, none⟩)) none (some (.int .i64 7)) none).run Tryz.prog W = .ok (.slice (some ⟨w.heap.size, 0, none⟩) 7 24) W := fun W => by
    rw [run_sliceAt_array_h W 136 ⟨w.heap.size, 0, none⟩ (by simp [Program.arrayLen, Program.elem, Tryz.underlying136]) .i64 7 (by omega) (by rw [hal]; omega)]
    go_simp
  have hge : ¬ (((1000000 + n : Nat) : Int) < 100) := by omega
  obtain ⟨u, hu⟩ : ∃ u : Nat, 1000000 + n = u := ⟨_, rfl⟩
  rw [hu] at HND HF HNUM hge ⊢
  clear hH0 hfmt hnd hal htab
  go_enter Tryz.func78, Tryz.ntmps78
  go_wp2_with fail
  refine HND.out.mono ?_
  rintro e w' ⟨rfl, rfl⟩
  go_wp2_with fail
  refine HF.out.mono ?_
  rintro e w' ⟨rfl, k, v', dk, rfl, hF⟩
  have hcv : (convert 46 9 (.slice (some ⟨w.heap.size, 0, none⟩) 7 24)).run Tryz.prog ((Go.Sort.putRow (fun (b : UInt8) => Value.int .u8 (b.toNat : Int)) (w.alloc (.cells Lib.zeros24 136)) w.heap.size 0 dk).drewN k) = .ok (.string (ba (49 :: Tk.code n))) ((Go.Sort.putRow (fun (b : UInt8) => Value.int .u8 (b.toNat : Int)) (w.alloc (.cells Lib.zeros24 136)) w.heap.size 0 dk).drewN k) := by
    exact run_convert_bytes_back (P := Tryz.prog) _ 46 9 5 ⟨w.heap.size, 0, none⟩ 24 (49 :: Tk.code n) Tryz.underlying46 Tryz.underlying5 Tryz.underlying9 (fun j hj => by
      have hj7 : j < 7 := hj
      rw [Lib.add_plain, World.cell?_drewN]
      refine (Go.Sort.cell?_putRow (fun (b : UInt8) => Value.int .u8 (b.toNat : Int)) _ w.heap.size 0 _ dk HH0.out (by rw [hF.size, Array.size_replicate]) j (by rw [hF.size]; exact hj7)).trans ?_
      rw [HNUM.out dk v' hF j hj])
  have hbl : Below w.heap.size w (Go.Sort.putRow (fun (b : UInt8) => Value.int .u8 (b.toNat : Int)) (w.alloc (.cells Lib.zeros24 136)) w.heap.size 0 dk) := by
    have := Lib.below_putRow (enc := fun (b : UInt8) => Value.int .u8 (b.toNat : Int)) (q := 0) (d := dk) (g := w.heap.size) ((Below.refl w.heap.size w).alloc (Nat.le_refl _) (.cells Lib.zeros24 136)) (Nat.le_refl _)
    rwa [Go.Sort.ahead_zero] at this
  have HB := Lib.hid (below_drewN hbl k)
  clear hF hbl HNUM HND HF HH0
  go_wp2_with fail
  go_ret
  exact ⟨rfl, HB.out⟩
theorem fmt_public (n : Nat) (hn : n < 1000000) (w : World) (htab : Lib.TabIs Tryz.prog w "internal/strconv.uint64pow10" .u64 Lib.pow10Tab) :
    Calls Tryz.prog 57 #[.int .u64 ((1000000 + n : Nat) : Int), .int .i64 10] w fun e w' => e = .returned (.string (ba (49 :: Tk.code n))) ∧ Below w.heap.size w w' := by
  have HF := Lib.hid (fmt7 n hn w htab)
  obtain ⟨u, hu⟩ : ∃ u : Nat, 1000000 + n = u := ⟨_, rfl⟩
  rw [hu] at HF ⊢
  clear htab
  go_enter Tryz.func57, Tryz.ntmps57
  go_wp2_with fail
  refine HF.out.mono ?_
  rintro e w' ⟨rfl, hb⟩
  have HB := Lib.hid hb
  clear hb
  go_wp2_with fail
  go_ret
  exact ⟨rfl, HB.out⟩
theorem run_rest (C : List UInt8) (hC : C.length = 6) (W : World) : (Instr.slice 9 (.string (ba (49 :: C))) (some (.int .i64 1)) none none).run Tryz.prog W = .ok (.string (ba C)) W := by
  rw [run_slice_string_from_if _ _ _ _ _ Tryz.underlying9, if_pos (by rw [ba_size]; simp; omega)]
  have := ext_drop (ba (49 :: C)) 1
  rw [ba_list] at this
  simp only [List.drop_succ_cons, List.drop_zero] at this
  rw [← this]
  simp
theorem code_any (d : Nat) (hd : d ≤ 18446744073709551615) (w : World) (htab : Lib.TabIs Tryz.prog w "internal/strconv.uint64pow10" .u64 Lib.pow10Tab) :
    Calls Tryz.prog 40 #[.int .u64 (d : Int)] w fun e w' => e = .returned (.string (ba (Tk.code (d % 1000000)))) ∧ Below w.heap.size w w' := by
  have HF := Lib.hid (fmt_public (d % 1000000) (Nat.mod_lt _ (by decide)) w htab)
  have hrest := run_rest (Tk.code (d % 1000000)) (Tk.code_length _)
  generalize Tk.code (d % 1000000) = C at HF hrest
  obtain ⟨u, hu⟩ : ∃ u : Nat, 1000000 + d % 1000000 = u := ⟨_, rfl⟩
  have hw : 1000000 + (d : Int) % 1000000 = (u : Int) := by omega
  rw [hu] at HF
  clear htab
  go_enter Tryz.func40, Tryz.ntmps40
  go_wp2_with fail
  refine HF.out.mono ?_
  rintro e w' ⟨rfl, hb⟩
  have HB := Lib.hid hb
  clear hb
  go_wp2_with fail
  go_ret
  exact ⟨rfl, HB.out⟩
end Go.Proofs.YtflgbnolfleicaaGreatDoor
