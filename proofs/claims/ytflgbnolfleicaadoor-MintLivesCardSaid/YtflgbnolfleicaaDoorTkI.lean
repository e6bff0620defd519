/-
  Contracts of strconv.FormatUint at numbers of seven digits, by the library's contracts of what it calls. Condition: the table of powers of ten holds what its text lays.
-/
import Derived.Shelf.Strconv.Itoa1
import Derived.Shelf.Strconv.Itoa2
import Derived.Lib.AppendIntMem
import Derived.Lib.OwnBridge
import Derived.Test.YtflgbnolfleicaaDoorBas
import Derived.Test.YtflgbnolfleicaaDoorTkm
namespace Go.Proofs.YtflgbnolfleicaaDoor
open Go.RowKit Go.Shelf

def fmt_ren : Go.Shelf.Ren := ⟨fun | 129 => 59 | 284 => 40 | 317 => 58 | 318 => 60 | 285 => 41 | n => n, fun | 0 => 0 | 3 => 3 | 4 => 4 | 5 => 5 | 9 => 9 | 37 => 36 | 46 => 55 | 51 => 87 | 53 => 39 | 212 => 99 | n => n, fun | 17 => 1 | n => n⟩
theorem base10_lays : Go.Proofs.Lays.n285 Tryd.prog fmt_ren := {
  mixed := by kernel_rfl
  f285 := Tryd.func41.trans (congrArg some (by kernel_rfl))
  t0 := Tryd.underlying0
  a0 := Tryd.isAgg0
  z0 := Tryd.sizeOf0
  v0 := Tryd.zeroValue0
  t3 := Tryd.underlying3
  a3 := Tryd.isAgg3
  z3 := Tryd.sizeOf3
  v3 := Tryd.zeroValue3
  t4 := Tryd.underlying4
  a4 := Tryd.isAgg4
  z4 := Tryd.sizeOf4
  v4 := Tryd.zeroValue4
  t5 := Tryd.underlying5
  a5 := Tryd.isAgg5
  z5 := Tryd.sizeOf5
  v5 := Tryd.zeroValue5
  t9 := Tryd.underlying9
  a9 := Tryd.isAgg9
  z9 := Tryd.sizeOf9
  v9 := Tryd.zeroValue9
  t37 := Tryd.underlying36
  a37 := Tryd.isAgg36
  z37 := Tryd.sizeOf36
  v37 := Tryd.zeroValue36
  t51 := Tryd.underlying87
  a51 := Tryd.isAgg87
  z51 := Tryd.sizeOf87
  v51 := Tryd.zeroValue87
  t53 := Tryd.underlying39
  a53 := Tryd.isAgg39
  z53 := Tryd.sizeOf39
  v53 := Tryd.zeroValue39 }
theorem digits_lays : Go.Proofs.LaysM.n284 Tryd.prog fmt_ren := {
  mixed := by kernel_rfl
  f129 := Tryd.func59.trans (congrArg some (by kernel_rfl))
  f284 := Tryd.func40.trans (congrArg some (by kernel_rfl))
  f317 := Tryd.func58.trans (congrArg some (by kernel_rfl))
  f318 := Tryd.func60.trans (congrArg some (by kernel_rfl))
  t0 := Tryd.underlying0
  a0 := Tryd.isAgg0
  z0 := Tryd.sizeOf0
  v0 := Tryd.zeroValue0
  t3 := Tryd.underlying3
  a3 := Tryd.isAgg3
  z3 := Tryd.sizeOf3
  v3 := Tryd.zeroValue3
  t4 := Tryd.underlying4
  a4 := Tryd.isAgg4
  z4 := Tryd.sizeOf4
  v4 := Tryd.zeroValue4
  t5 := Tryd.underlying5
  a5 := Tryd.isAgg5
  z5 := Tryd.sizeOf5
  v5 := Tryd.zeroValue5
  t9 := Tryd.underlying9
  a9 := Tryd.isAgg9
  z9 := Tryd.sizeOf9
  v9 := Tryd.zeroValue9
  t46 := Tryd.underlying55
  a46 := Tryd.isAgg55
  z46 := Tryd.sizeOf55
  v46 := Tryd.zeroValue55
  t53 := Tryd.underlying39
  a53 := Tryd.isAgg39
  z53 := Tryd.sizeOf39
  v53 := Tryd.zeroValue39
  t212 := Tryd.underlying99
  a212 := Tryd.isAgg99
  z212 := Tryd.sizeOf99
  v212 := Tryd.zeroValue99
  g17 := by kernel_rfl
  i0 := by kernel_rfl
  i3 := by kernel_rfl
  i4 := by kernel_rfl
  i5 := by kernel_rfl
  i9 := by kernel_rfl
  i46 := by kernel_rfl
  i53 := by kernel_rfl
  i212 := by kernel_rfl
  m17 := by kernel_rfl }
theorem ndigits7 (n : Nat) (h : n < 1000000) : Lib.nDigits (1000000 + n) = 7 := Lib.nDigits_unique 6 _ (by omega) (by omega)
theorem numeral7 (n : Nat) (h : n < 1000000) (dk : Array UInt8) (v : Nat) (hF : Lib.FmtInv 7 (1000000 + n) 0 v dk) : ∀ j (hj : j < (49 :: Tk.code n).length), dk[j]! = (49 :: Tk.code n)[j] := by
  intro j hj
  have hj7 : j < 7 := hj
  rw [hF.done j (by omega) hj7]
  unfold Lib.dg
  match j, hj7 with
  | 0, _ =>
    show UInt8.ofNat (48 + (1000000 + n) / 1000000 % 10) = 49
    rw [show (1000000 + n) / 1000000 = 1 by omega]
    rfl
  | 1, _ =>
    show UInt8.ofNat (48 + (1000000 + n) / 100000 % 10) = UInt8.ofNat (48 + n / 100000 % 10)
    rw [show (1000000 + n) / 100000 % 10 = n / 100000 % 10 by omega]
  | 2, _ =>
    show UInt8.ofNat (48 + (1000000 + n) / 10000 % 10) = UInt8.ofNat (48 + n / 10000 % 10)
    rw [show (1000000 + n) / 10000 % 10 = n / 10000 % 10 by omega]
  | 3, _ =>
    show UInt8.ofNat (48 + (1000000 + n) / 1000 % 10) = UInt8.ofNat (48 + n / 1000 % 10)
    rw [show (1000000 + n) / 1000 % 10 = n / 1000 % 10 by omega]
  | 4, _ =>
    show UInt8.ofNat (48 + (1000000 + n) / 100 % 10) = UInt8.ofNat (48 + n / 100 % 10)
    rw [show (1000000 + n) / 100 % 10 = n / 100 % 10 by omega]
  | 5, _ =>
    show UInt8.ofNat (48 + (1000000 + n) / 10 % 10) = UInt8.ofNat (48 + n / 10 % 10)
    rw [show (1000000 + n) / 10 % 10 = n / 10 % 10 by omega]
  | 6, _ =>
    show UInt8.ofNat (48 + (1000000 + n) / 1 % 10) = UInt8.ofNat (48 + n / 1 % 10)
    rw [show (1000000 + n) / 1 % 10 = n / 1 % 10 by omega]

set_option maxHeartbeats 4000000 in
set_option maxRecDepth 100000 in
theorem fmt7 (n : Nat) (hn : n < 1000000) (w : World) (htab : Lib.TabIs Tryd.prog w "internal/strconv.uint64pow10" .u64 Lib.pow10Tab) :
    Calls Tryd.prog 29 #[.int .u64 ((1000000 + n : Nat) : Int), .int .i64 10] w fun e w' => e = .returned (.string (ba (49 :: Tk.code n))) ∧ Below w.heap.size w w' := by
  have hal : Tryd.prog.arrayLen 76 = 24 := by simp [Program.arrayLen, Tryd.underlying76]
  have hnd := Any.internal_strconv_numDigits digits_lays (1000000 + n) (by omega) (by omega) (w.alloc (.cells Lib.zeros24 76)) (Lib.tabIs_alloc htab _)
  rw [ndigits7 n hn] at hnd
  have hH0 := Lib.holds_zero0 w 76 7 (by omega)
  have hfmt := Any.internal_strconv_formatBase10 base10_lays w.heap.size 0 24 (1000000 + n) (Array.replicate 7 0) (w.alloc (.cells Lib.zeros24 76)) hH0 (by rw [Array.size_replicate]; omega) (by omega) (by rw [Array.size_replicate]; omega)
  rw [Array.size_replicate] at hfmt
  have HND := Lib.hid hnd
  have HF := Lib.hid hfmt
  have HH0 := Lib.hid hH0
  have HNUM := Lib.hid (numeral7 n hn)
  have hsl : ∀ W, (Instr.sliceAt 76 (.pointer (some ⟨w.heap.size, 0, none⟩)) none (some (.int .i64 7)) none).run Tryd.prog W = .ok (.slice (some ⟨w.heap.size, 0, none⟩) 7 24) W := fun W => by
    rw [run_sliceAt_array_h W 76 ⟨w.heap.size, 0, none⟩ (by simp [Program.arrayLen, Program.elem, Tryd.underlying76]) .i64 7 (by omega) (by rw [hal]; omega)]
    go_simp
  have hge : ¬ (((1000000 + n : Nat) : Int) < 100) := by omega
  obtain ⟨u, hu⟩ : ∃ u : Nat, 1000000 + n = u := ⟨_, rfl⟩
  rw [hu] at HND HF HNUM hge ⊢
  clear hH0 hfmt hnd hal htab
  go_enter Tryd.func29, Tryd.ntmps29
  go_wp2_with fail
  refine HND.out.mono ?_
  rintro e w' ⟨rfl, rfl⟩
  go_wp2_with fail
  refine HF.out.mono ?_
  rintro e w' ⟨rfl, k, v', dk, rfl, hF⟩
  have hcv : (convert 36 9 (.slice (some ⟨w.heap.size, 0, none⟩) 7 24)).run Tryd.prog ((Go.Sort.putRow (fun (b : UInt8) => Value.int .u8 (b.toNat : Int)) (w.alloc (.cells Lib.zeros24 76)) w.heap.size 0 dk).drewN k) = .ok (.string (ba (49 :: Tk.code n))) ((Go.Sort.putRow (fun (b : UInt8) => Value.int .u8 (b.toNat : Int)) (w.alloc (.cells Lib.zeros24 76)) w.heap.size 0 dk).drewN k) := by
    exact run_convert_bytes_back (P := Tryd.prog) _ 36 9 5 ⟨w.heap.size, 0, none⟩ 24 (49 :: Tk.code n) Tryd.underlying36 Tryd.underlying5 Tryd.underlying9 (fun j hj => by
      have hj7 : j < 7 := hj
      rw [Lib.add_plain, World.cell?_drewN]
      refine (Go.Sort.cell?_putRow (fun (b : UInt8) => Value.int .u8 (b.toNat : Int)) _ w.heap.size 0 _ dk HH0.out (by rw [hF.size, Array.size_replicate]) j (by rw [hF.size]; exact hj7)).trans ?_
      rw [HNUM.out dk v' hF j hj])
  have hbl : Below w.heap.size w (Go.Sort.putRow (fun (b : UInt8) => Value.int .u8 (b.toNat : Int)) (w.alloc (.cells Lib.zeros24 76)) w.heap.size 0 dk) := by
    have := Lib.below_putRow (enc := fun (b : UInt8) => Value.int .u8 (b.toNat : Int)) (q := 0) (d := dk) (g := w.heap.size) ((Below.refl w.heap.size w).alloc (Nat.le_refl _) (.cells Lib.zeros24 76)) (Nat.le_refl _)
    rwa [Go.Sort.ahead_zero] at this
  have HB := Lib.hid (below_drewN hbl k)
  clear hF hbl HNUM HND HF HH0
  go_wp2_with fail
  go_ret
  exact ⟨rfl, HB.out⟩
theorem fmt_public (n : Nat) (hn : n < 1000000) (w : World) (htab : Lib.TabIs Tryd.prog w "internal/strconv.uint64pow10" .u64 Lib.pow10Tab) :
    Calls Tryd.prog 21 #[.int .u64 ((1000000 + n : Nat) : Int), .int .i64 10] w fun e w' => e = .returned (.string (ba (49 :: Tk.code n))) ∧ Below w.heap.size w w' := by
  have HF := Lib.hid (fmt7 n hn w htab)
  obtain ⟨u, hu⟩ : ∃ u : Nat, 1000000 + n = u := ⟨_, rfl⟩
  rw [hu] at HF ⊢
  clear htab
  go_enter Tryd.func21, Tryd.ntmps21
  go_wp2_with fail
  refine HF.out.mono ?_
  rintro e w' ⟨rfl, hb⟩
  have HB := Lib.hid hb
  clear hb
  go_wp2_with fail
  go_ret
  exact ⟨rfl, HB.out⟩
theorem run_rest (C : List UInt8) (hC : C.length = 6) (W : World) : (Instr.slice 9 (.string (ba (49 :: C))) (some (.int .i64 1)) none none).run Tryd.prog W = .ok (.string (ba C)) W := by
  rw [run_slice_string_from_if _ _ _ _ _ Tryd.underlying9, if_pos (by rw [ba_size]; simp; omega)]
  have := ext_drop (ba (49 :: C)) 1
  rw [ba_list] at this
  simp only [List.drop_succ_cons, List.drop_zero] at this
  rw [← this]
  simp
theorem code_any (d : Nat) (hd : d ≤ 18446744073709551615) (w : World) (htab : Lib.TabIs Tryd.prog w "internal/strconv.uint64pow10" .u64 Lib.pow10Tab) :
    Calls Tryd.prog 12 #[.int .u64 (d : Int)] w fun e w' => e = .returned (.string (ba (Tk.code (d % 1000000)))) ∧ Below w.heap.size w w' := by
  have HF := Lib.hid (fmt_public (d % 1000000) (Nat.mod_lt _ (by decide)) w htab)
  have hrest := run_rest (Tk.code (d % 1000000)) (Tk.code_length _)
  generalize Tk.code (d % 1000000) = C at HF hrest
  obtain ⟨u, hu⟩ : ∃ u : Nat, 1000000 + d % 1000000 = u := ⟨_, rfl⟩
  have hw : 1000000 + (d : Int) % 1000000 = (u : Int) := by omega
  rw [hu] at HF
  clear htab
  go_enter Tryd.func12, Tryd.ntmps12
  go_wp2_with fail
  refine HF.out.mono ?_
  rintro e w' ⟨rfl, hb⟩
  have HB := Lib.hid hb
  clear hb
  go_wp2_with fail
  go_ret
  exact ⟨rfl, HB.out⟩
end Go.Proofs.YtflgbnolfleicaaDoor
