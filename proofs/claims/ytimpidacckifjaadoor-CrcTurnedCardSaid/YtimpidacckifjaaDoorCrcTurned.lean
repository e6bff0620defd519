/-
  Proves the statement of CrcTurned: for every text, place and four bytes the law returns true (a sealed text of which up to four neighbouring bytes are turned is opened just if they are turned into themselves), and its arguments read as they did. Condition: the package-level table halfBytes holds what its text lays.
-/
import Derived.Test.YtimpidacckifjaaDoorCrcAwake
import Derived.Test.YtimpidacckifjaaDoorCrcSeal
import Derived.Test.YtimpidacckifjaaDoorCrcTable
import Derived.Lib.ConvBytes
import Derived.Laws.BytesArg
import Derived.Test.YtimpidacckifjaaDoorCards
import Derived.Test.YtimpidacckifjaaDoorTie
namespace Go.Proofs.YtimpidacckifjaaDoor.crcTurned
open Go.ChangeShapes Go.WideShapes Go.ChangeAt Go.RowKit
open Go.ChangeMaps (open_string shut_string)

theorem byte_of {z : Int} (h : (Lit.int .u8 z).wf = true) : ∃ b : UInt8, z = (b.toNat : Int) := by
  have hb := bounds_u8 h
  refine ⟨UInt8.ofNat z.toNat, ?_⟩
  rw [UInt8.toNat_ofNat']
  omega

/-- The bytes l lie in block b. -/
def Lies (w : World) (b : Nat) (l : List UInt8) : Prop := ∀ j (h : j < l.length), w.cell? ⟨b, j, none⟩ = some (.int .u8 (l[j].toNat : Int)) ∧ w.frozen? ⟨b, j, none⟩ = false

theorem Lies.set {w : World} {b : Nat} {l : List UInt8} (h : Lies w b l) (k : Nat) (hk : k < l.length) (x : UInt8) : Lies (w.setCell ⟨b, k, none⟩ (.int .u8 (x.toNat : Int))) b (l.set k x) := by
  intro j hj
  have hj' : j < l.length := by simpa using hj
  refine ⟨?_, (World.frozen?_setCell _ _ _ _).trans (h j hj').2⟩
  by_cases e : j = k
  · subst e
    rw [World.cell?_setCell_same _ _ _ (h j hj').1]
    simp
  · have hne : (⟨b, k, none⟩ : Addr) ≠ ⟨b, j, none⟩ := by intro he; exact e (congrArg Addr.off he).symm
    rw [World.cell?_setCell_other _ _ _ _ hne, (h j hj').1, List.getElem_set_ne (by omega)]

/-- The bytes from place k on, i of them, turned. -/
def turnN (l : List UInt8) (k : Nat) (d : Nat → UInt8) : Nat → List UInt8
  | 0 => l
  | i + 1 => (turnN l k d i).set (k + i) ((turnN l k d i).getD (k + i) 0 ^^^ d i)
theorem turnN_length (l : List UInt8) (k : Nat) (d : Nat → UInt8) (i : Nat) : (turnN l k d i).length = l.length := by
  induction i with
  | zero => rfl
  | succ i ih => simp [turnN, ih]
theorem turn4 (p q : List UInt8) (c0 c1 c2 c3 : UInt8) (d : Nat → UInt8) :
    turnN (p ++ ([c0, c1, c2, c3] ++ q)) p.length d 4 = p ++ ([c0 ^^^ d 0, c1 ^^^ d 1, c2 ^^^ d 2, c3 ^^^ d 3] ++ q) := by
  simp [turnN, List.getD]
def sameN (d : Nat → UInt8) : Nat → Bool
  | 0 => true
  | i + 1 => sameN d i && (d i == 0)

/-- A text of at least four bytes is sealed just if the residue is left. -/
theorem okL_iff (l : List UInt8) (h : 4 ≤ l.length) : okL l = true ↔ Crc.fold Crc.ones l = Crc.residue := by
  obtain ⟨x0, x1, x2, x3, hx⟩ : ∃ x0 x1 x2 x3, l.drop (l.length - 4) = [x0, x1, x2, x3] := by
    have hl : (l.drop (l.length - 4)).length = 4 := by simp; omega
    match l.drop (l.length - 4), hl with
    | [x0, x1, x2, x3], _ => exact ⟨_, _, _, _, rfl⟩
  unfold okL
  rw [hx, beq_iff_eq, eq_comm, Crc.sealed_iff, ← hx, List.take_append_drop]

theorem sealed_ok (l : List UInt8) : Crc.fold Crc.ones (l ++ Crc.le4 (Crc.sum l)) = Crc.residue := Crc.sealed_sum l

/-- THE MATHEMATICS OF THE LAW. -/
theorem turned_ok (l : List UInt8) (k : Nat) (d : Nat → UInt8) (hl : Crc.fold Crc.ones l = Crc.residue) (hk : k + 4 ≤ l.length) : okL (turnN l k d 4) = sameN d 4 := by
  obtain ⟨p, c0, c1, c2, c3, q, rfl, rfl⟩ : ∃ p c0 c1 c2 c3 q, l = p ++ ([c0, c1, c2, c3] ++ q) ∧ p.length = k := by
    have e1 : l = l.take k ++ ((l.drop k).take 4 ++ (l.drop k).drop 4) := by rw [List.take_append_drop, List.take_append_drop]
    have h4 : ((l.drop k).take 4).length = 4 := by simp; omega
    match hm : (l.drop k).take 4, h4 with
    | [c0, c1, c2, c3], _ => exact ⟨l.take k, c0, c1, c2, c3, (l.drop k).drop 4, by rw [← hm]; exact e1, by simp; omega⟩
  have h1 : okL (turnN (p ++ ([c0, c1, c2, c3] ++ q)) p.length d 4) = true ↔ d 0 = 0 ∧ d 1 = 0 ∧ d 2 = 0 ∧ d 3 = 0 := by
    rw [okL_iff _ (by rw [turnN_length]; simp; omega), turn4, ← List.append_assoc]
    exact Crc.turned p q c0 c1 c2 c3 _ _ _ _ (by rw [List.append_assoc]; exact hl)
  have h2 : sameN d 4 = true ↔ d 0 = 0 ∧ d 1 = 0 ∧ d 2 = 0 ∧ d 3 = 0 := by
    simp [sameN, and_assoc]
  rw [Bool.eq_iff_iff, h1, h2]

theorem place (x : Int) (n : Nat) (h4 : 4 ≤ n) (hn : n ≤ 304) : ∃ k : Nat, k + 4 ≤ n ∧ (wrap64 (wrap64 (x.tmod ((n : Int) - 3) + (n : Int)) - 3)).tmod ((n : Int) - 3) = (k : Int) := by
  have h1 := Int.tmod_lt_of_pos x (show (0 : Int) < (n : Int) - 3 by omega)
  have h2 : -((n : Int) - 3) < x.tmod ((n : Int) - 3) := by
    have := Int.tmod_lt_of_pos (-x) (show (0 : Int) < (n : Int) - 3 by omega)
    rw [Int.neg_tmod] at this
    omega
  generalize x.tmod ((n : Int) - 3) = t at h1 h2
  have h3 : wrap64 (wrap64 (t + (n : Int)) - 3) = t + (n : Int) - 3 := by
    simp [wrap64]
    omega
  rw [h3, Int.tmod_eq_emod_of_nonneg (by omega)]
  have h5 := Int.emod_nonneg (t + (n : Int) - 3) (show (n : Int) - 3 ≠ 0 by omega)
  have h6 := Int.emod_lt_of_pos (t + (n : Int) - 3) (show (0 : Int) < (n : Int) - 3 by omega)
  exact ⟨((t + (n : Int) - 3) % ((n : Int) - 3)).toNat, by omega, by omega⟩

theorem byte_eq (x : UInt8) : (((x.toNat : Nat) : Int) == 0) = (x == 0) := by
  rw [Bool.eq_iff_iff, beq_iff_eq, beq_iff_eq]
  constructor
  · intro h; exact UInt8.toNat_inj.1 (by simpa using h)
  · rintro rfl; rfl

theorem xor_byte (x y : UInt8) : bits .xor .u8 (x.toNat : Int) (y.toNat : Int) = ((x ^^^ y).toNat : Int) := by
  rw [u8_xor_nat _ _ x.toNat_lt y.toNat_lt, UInt8.toNat_xor]

theorem lies_new (w : World) (s : ByteArray) : Lies (Lib.bytesWorld w 5 s) w.heap.size s.data.toList := by
  intro j hj
  have hj' : j < s.size := by simpa using hj
  constructor
  · rw [Lib.bytesWorld_cell w 5 s j hj', List.getD_eq_getElem?_getD, List.getElem?_eq_getElem hj]
    rfl
  · have h1 : j < (Lib.bytesCells w 5 s).size := by simp [Lib.bytesCells]; omega
    simp [World.frozen?, Lib.bytesWorld_at_new]
    omega
theorem below_bytes (w : World) (s : ByteArray) : Below w.heap.size w (Lib.bytesWorld w 5 s) :=
  ⟨rfl, rfl, rfl, by rw [Lib.bytesWorld_size]; omega, fun k hk => Lib.bytesWorld_at_old w _ s k hk⟩

theorem run_string {w : World} {b : Nat} {l : List UInt8} (h : Lies w b l) (n cap : Nat) (hn : l.length = n) :
    (convert 37 9 (.slice (some ⟨b, 0, none⟩) n cap)).run Tryd.prog w = .ok (.string ⟨l.toArray⟩) w := by
  have e : strOfNums (l.map fun x => (x.toNat : Int)) = ⟨l.toArray⟩ := by
    unfold strOfNums
    rw [List.map_map]
    congr 2
    conv => rhs; rw [← List.map_id l]
    apply List.map_congr_left
    intro x _
    simp
  rw [← e]
  refine run_convert_bytes_arg (P := Tryd.prog) w 37 5 Tryd.underlying37 Tryd.underlying5 b 0 n cap _ (by simpa using hn) ?_ 9 Tryd.underlying9
  intro i hi
  rw [Nat.zero_add, (h i (by omega)).1, List.getD_eq_getElem?_getD, List.getElem?_map, List.getElem?_eq_getElem (by omega)]
  rfl

def TRel (w : World) (B : Nat) (l : List UInt8) (k : Nat) (d : Nat → UInt8) (t10 t11 : Value) (wr : World) : Prop :=
  ∃ i : Nat, i ≤ 4 ∧ t10 = .bool (sameN d i) ∧ t11 = .int .i64 (i : Int) ∧ Lies wr B (turnN l k d i) ∧ Below w.heap.size w wr ∧ B < wr.heap.size ∧
    ∀ j, j < 4 → wr.cell? ⟨w.heap.size, j, none⟩ = some (.int .u8 ((d j).toNat : Int))

set_option maxHeartbeats 2000000 in
theorem walk (a : ByteArray) (at_ : Int) (b0 b1 b2 b3 : UInt8) (ha : a.size ≤ maxLen) (hat : -9223372036854775808 ≤ at_ ∧ at_ ≤ 9223372036854775807) (w : World) (ht : Tab w) :
    Calls Tryd.prog 6 #[.string a, .int .i64 at_, .agg #[.int .u8 (b0.toNat : Int), .int .u8 (b1.toNat : Int), .int .u8 (b2.toNat : Int), .int .u8 (b3.toNat : Int)]] w fun e w' => e = .returned (.bool true) ∧ Below w.heap.size w w' := by
  obtain ⟨hat1, hat2⟩ := hat
  have hza := cut_size a 300
  have HP := Lib.hid (awake_any (w.alloc (.cells #[.int .u8 (b0.toNat : Int), .int .u8 (b1.toNat : Int), .int .u8 (b2.toNat : Int), .int .u8 (b3.toNat : Int)] 36)) (ht.alloc _))
  have hcv := fun (W : World) (s : ByteArray) => Lib.run_convert_string_bytes (P := Tryd.prog) W 9 37 5 s Tryd.underlying9 Tryd.underlying37 Tryd.underlying5
  go_enter Tryd.func6, Tryd.ntmps6
  go_wp2_with fail
  refine HP.out.mono ?_
  rintro e w1 ⟨rfl, hb1⟩
  have HB1 := Lib.hid (below_alloc hb1)
  have HT1 := Lib.hid (ht.below HB1.out ht.lt)
  have HE := Lib.hid hb1
  clear hb1 HP
  go_wp2_with fail
  refine (short_any a 300 ha _).mono ?_
  rintro e w2 ⟨rfl, rfl⟩
  generalize cut a 300 = c at hza
  go_wp2_with fail
  refine (Seal_any c _ (by exact HT1.out) (by omega)).mono ?_
  rintro e w2 ⟨rfl, hb2⟩
  have HB2 := Lib.hid (HB1.out.trans (hb2.mono HB1.out.size))
  have HE2 := Lib.hid (HE.out.trans (hb2.mono HE.out.size))
  have HT2 := Lib.hid (HT1.out.below hb2 HT1.out.lt)
  clear hb2 HB1 HT1 HE
  have hz4 : (c ++ sealOf c.data.toList).size = c.size + 4 := by rw [ByteArray.size_append, sealOf_size]
  have HS := Lib.hid (data_append c (sealOf c.data.toList))
  have hS4 : 4 ≤ (c ++ sealOf c.data.toList).size := by omega
  have hS304 : (c ++ sealOf c.data.toList).size ≤ 304 := by omega
  clear hz4
  generalize c ++ sealOf c.data.toList = S at HS hS4 hS304
  obtain ⟨k, hk, ek⟩ := place at_ S.size hS4 hS304
  go_wp2_with fail
  obtain ⟨d, hd⟩ : ∃ d : Nat → UInt8, Hid (d 0 = b0 ∧ d 1 = b1 ∧ d 2 = b2 ∧ d 3 = b3) := ⟨fun j => [b0, b1, b2, b3].getD j 0, rfl, rfl, rfl, rfl⟩
  have HR : Hid (okL (turnN S.data.toList k d 4) = sameN d 4) := turned_ok S.data.toList k d (by rw [HS.out]; exact Crc.sealed_sum _) (by rw [size_list]; exact hk)
  have hA2 : w.heap.size < w2.heap.size := by have := HE2.out.size; simp at this; omega
  go_loopw [10, 11] (TRel w w2.heap.size S.data.toList k d) (fun _ i _ => 4 - (intOf i).toNat)
  case atStart =>
    refine ⟨0, by omega, rfl, rfl, lies_new w2 S, HB2.out.trans ((below_bytes w2 S).mono HB2.out.size), by rw [Lib.bytesWorld_size]; omega, ?_⟩
    obtain ⟨e0, e1, e2, e3⟩ := hd.out
    have hc : ∀ j, j < 4 → w2.cell? ⟨w.heap.size, j, none⟩ = (#[.int .u8 (b0.toNat : Int), .int .u8 (b1.toNat : Int), .int .u8 (b2.toNat : Int), .int .u8 (b3.toNat : Int)] : Array Value)[j]? := fun j _ =>
      (HE2.out.cell (p := ⟨w.heap.size, j, none⟩) (by simp)).trans (World.cell?_alloc_at _ _ _ _ rfl)
    intro j hj
    rw [Lib.bytesWorld_old w2 _ S _ hA2, hc j hj]
    match j, hj with
    | 0, _ => rw [e0]; rfl
    | 1, _ => rw [e1]; rfl
    | 2, _ => rw [e2]; rfl
    | 3, _ => rw [e3]; rfl
  case round =>
    obtain ⟨i, hi, rfl, rfl, hlies, hbel, hBw, hby⟩ := hrel
    clear hcv ek
    by_cases hlt : i < 4
    · have hlen := turnN_length S.data.toList k d i
      rw [size_list] at hlen
      have hki : k + i < (turnN S.data.toList k d i).length := by omega
      have HN : Hid (turnN S.data.toList k d (i + 1) = (turnN S.data.toList k d i).set (k + i) ((turnN S.data.toList k d i)[k + i] ^^^ d i)) := by
        show turnN S.data.toList k d (i + 1) = _
        rw [turnN, List.getD_eq_getElem?_getD, List.getElem?_eq_getElem hki]
        rfl
      obtain ⟨hcB, hfB⟩ := hlies (k + i) hki
      have hcA := hby i hlt
      have HL := Lib.hid (hlies.set (k + i) hki ((turnN S.data.toList k d i)[k + i] ^^^ d i))
      rw [← HN.out] at HL
      have HY := Lib.hid hby
      have HBl := Lib.hid hbel
      generalize (turnN S.data.toList k d i)[k + i] = x at hcB HL HN
      clear hlies hby hbel hlen hki HN
      have hsum : ((k : Int) + (i : Int)).toNat = k + i := by omega
      have hxb := xor_byte x (d i)
      have HSN : Hid (sameN d (i + 1) = (sameN d i && (d i == 0))) := rfl
      have hq := byte_eq (d i)
      have hBA : w.heap.size ≠ w2.heap.size := by omega
      have HR2 : ∀ v : Value, Hid (Below w.heap.size w (wr.setCell ⟨w2.heap.size, k + i, none⟩ v).drew ∧ w2.heap.size < (wr.setCell ⟨w2.heap.size, k + i, none⟩ v).drew.heap.size ∧ ∀ j, j < 4 → (wr.setCell ⟨w2.heap.size, k + i, none⟩ v).drew.cell? ⟨w.heap.size, j, none⟩ = some (.int .u8 ((d j).toNat : Int))) := by
        intro v
        refine ⟨(HBl.out.setCell (p := ⟨w2.heap.size, k + i, none⟩) (by simp; omega) v).drew, by simpa using hBw, fun j hj => ?_⟩
        have hne : (⟨w2.heap.size, k + i, none⟩ : Addr) ≠ ⟨w.heap.size, j, none⟩ := by intro he; exact hBA (congrArg Addr.block he).symm
        exact (World.cell?_setCell_other _ _ _ _ hne).trans (HY.out j hj)
      cases hs : sameN d i
      · have HSF : Hid (sameN d (i + 1) = false) := by show sameN d (i + 1) = false; rw [HSN.out, hs]; rfl
        clear hs HSN
        go_wp2
        go_region
        go_wp2
        go_roundw
        case rel => exact ⟨i + 1, by omega, by rw [HSF.out], by go_num, by rw [← UInt8.toNat_xor]; exact HL.out, (HR2 _).out⟩
        case measure => simp [intOf]; omega
      · have HSF : Hid (sameN d (i + 1) = (d i == 0)) := by show sameN d (i + 1) = _; rw [HSN.out, hs]; rfl
        clear hs HSN
        go_wp2
        go_region
        have hcA2 : (wr.setCell ⟨w2.heap.size, k + i, none⟩ (.int .u8 ((x.toNat ^^^ (d i).toNat : Nat) : Int))).drew.cell? ⟨w.heap.size, i, none⟩ = some (.int .u8 ((d i).toNat : Int)) := (HR2 _).out.2.2 i hlt
        go_wp2
        go_roundw
        case rel => exact ⟨i + 1, by omega, by rw [HSF.out], by go_num, by rw [← UInt8.toNat_xor]; exact HL.out, (HR2 _).out⟩
        case measure => simp [intOf]; omega
    · obtain rfl : i = 4 := by omega
      have hlen := turnN_length S.data.toList k d 4
      rw [size_list] at hlen
      have hcv := fun cap => run_string hlies S.size cap hlen
      have HTr := Lib.hid (ht.below hbel ht.lt)
      have HBl := Lib.hid hbel
      obtain ⟨T, hT⟩ : ∃ T : ByteArray, T = ⟨(turnN S.data.toList k d 4).toArray⟩ := ⟨_, rfl⟩
      rw [← hT] at hcv
      have hTl : T.data.toList = turnN S.data.toList k d 4 := by rw [hT]
      have hTs : T.size = S.size := by rw [← size_list, hTl, hlen]
      have hT4 : 4 ≤ T.size := by omega
      have hT304 : T.size ≤ 304 := by omega
      have hok : okL T.data.toList = sameN d 4 := by rw [hTl]; exact HR.out
      clear hT hTl hTs hlen hlies hbel hby HR
      cases hs : sameN d 4
      · have HO := Lib.hid (open_no T wr HTr.out hT4 (by omega) (by rw [ok_eq, hok, hs]))
        clear hok hs
        go_wp2_with (go_at_call 11; refine HO.out.mono ?_; rintro e w3 ⟨rfl, hb3⟩)
        go_ret
        exact ⟨rfl, HBl.out.trans (hb3.mono HBl.out.size)⟩
      · have HO := Lib.hid (open_yes T wr HTr.out hT4 (by omega) (by rw [ok_eq, hok, hs]))
        clear hok hs
        go_wp2_with (go_at_call 11; refine HO.out.mono ?_; rintro e w3 ⟨rfl, hb3⟩)
        go_ret
        exact ⟨rfl, HBl.out.trans (hb3.mono HBl.out.size)⟩

/-! ### The row -/
theorem contract (H : Type) (enc : TypeId × Value → H) (W : World) (base : Nat) (args : Array Value) (ds gs : List (DataW H)) (before : List MemPlace)
    (hval : ∀ (j : Nat) t v, Tryd.f6.params[j]? = some t → args[j]? = some v → Value.okWide Tryd.prog W .any base t v)
    (hW : DataW.Whole enc Tryd.prog Tryd.f6.params.toList Rows.crcTurnedSpec.vars false W args.toList ds gs before) (hL : laidMetH Tryd.prog Rows.crcTurnedRow.laid W) :
    Calls Tryd.prog 6 args W fun e W' => ∃ v, e = .returned v ∧ Rows.crcTurnedSpec.post enc Tryd.prog Tryd.f6 false true false false W args v W' := by
  have hW' := hW
  obtain ⟨p, q, hA0, hV, rfl, hfz, hnd⟩ := hW
  have hA : DataW.TrodAll enc Tryd.prog W 0 (fun _ => true) true Tryd.f6.params.toList args.toList ds p := hA0
  rw [Tryd.params6] at hA hval
  obtain ⟨v0, vs0, d0, ds0, p0, q0, hargs, rfl, rfl, h0, r0⟩ := trodAll_cons hA
  obtain ⟨v1, vs1, d1, ds1, p1, q1, rfl, rfl, rfl, h1, r1⟩ := trodAll_cons r0
  obtain ⟨v2, vs2, d2, ds2, p2, q2, rfl, rfl, rfl, h2, r2⟩ := trodAll_cons r1
  obtain ⟨rfl, rfl, rfl⟩ := trodAll_nil r2
  obtain rfl : args = #[v0, v1, v2] := by cases args; simp_all
  obtain ⟨rfl, rfl⟩ := trodVars_none hV
  refine law_contract (tb := 4) laidOut (by kernel_rfl) rfl (by kernel_rfl) Tryd.underlying4 rfl hW' ?_
  clear hA0 hW' hA
  obtain ⟨a0, rfl, _, _, w0⟩ := open_string Tryd.underlying9 (hval 0 9 v0 rfl rfl) h0
  obtain ⟨x1, rfl, _, _, w1⟩ := open_int Tryd.underlying3 (hval 1 3 v1 rfl rfl) h1
  obtain ⟨zs, rfl, hz, wz⟩ := open_array Tryd.underlying36 Tryd.underlying5 cellsU8 (by kernel_rfl) (hval 2 36 v2 rfl rfl) h2
  match zs, hz, wz with
  | [z0, z1, z2, z3], _, wz =>
    obtain ⟨b0, rfl⟩ := byte_of (wz z0 (by simp))
    obtain ⟨b1, rfl⟩ := byte_of (wz z1 (by simp))
    obtain ⟨b2, rfl⟩ := byte_of (wz z2 (by simp))
    obtain ⟨b3, rfl⟩ := byte_of (wz z3 (by simp))
    exact walk a0 x1 b0 b1 b2 b3 w0 (bounds_i64 w1) W (tab_of_laid hL)

theorem laid_met (os : Os) : laidMet Tryd.prog Rows.crcTurnedRow.laid ((laidWorld os).forCall (fun _ _ => 0) ⟨#[], #[.string ByteArray.empty, .int .i64 0, .agg #[.int .u8 0, .int .u8 0, .int .u8 0, .int .u8 0]], []⟩).memory :=
  laidMet_of_run' 8 (by kernel_rfl) (by kernel_rfl)
theorem reads (os : Os) {H : Type} (enc : TypeId × Value → H) : ∃ places, DataW.whole enc Tryd.prog ((laidWorld os).forCall (fun _ _ => 0) ⟨#[], #[.string ByteArray.empty, .int .i64 0, .agg #[.int .u8 0, .int .u8 0, .int .u8 0, .int .u8 0]], []⟩).memory Tryd.f6.params.toList Rows.crcTurnedSpec.vars false (#[.string ByteArray.empty, .int .i64 0, .agg #[.int .u8 0, .int .u8 0, .int .u8 0, .int .u8 0]] : Array Value).toList 8 = some ([.lit (.string []), .lit (.int .i64 0), .agg [.lit (.int .u8 0), .lit (.int .u8 0), .lit (.int .u8 0), .lit (.int .u8 0)]], [], places) :=
  ⟨[], by kernel_rfl⟩

set_option maxRecDepth 100000 in
theorem lifted (os : Os) (started : os.Started) (H : Type) (enc : TypeId × Value → H) (F : Stop.Interp) :
    ReturnsInHanded {} Tryd.checked os 6 .any ((OpenSpec.ofChange Rows.crcTurnedSpec).preRow enc Tryd.prog Tryd.f6 Rows.crcTurnedRow.domain false Rows.crcTurnedRow.laid) (((OpenSpec.ofChange Rows.crcTurnedSpec).at F).post enc Tryd.prog Tryd.f6 false true false false) := by
  obtain ⟨places, hx⟩ := reads os enc
  refine returnsInHanded_of_row (C := Tryd.checked) (s := OpenSpec.ofChange Rows.crcTurnedSpec) own started (by kernel_rfl) Tryd.func6
    (witness_row_at (enc := enc) (C := Tryd.checked) false (laidWorld os) #[.string ByteArray.empty, .int .i64 0, .agg #[.int .u8 0, .int .u8 0, .int .u8 0, .int .u8 0]] rfl (by kernel_rfl) (by kernel_rfl) (by kernel_rfl)
      (OpenSpec.preRow_of_cond 8 hx (by kernel_rfl) (fun k hk => by cases hk) (by kernel_rfl) (laid_met os))) ?_
  intro W base args ds gs before hval hW _ _ _ hL _ _
  exact contract H enc W base args ds gs before hval hW hL

theorem said : Rows.CrcTurnedSaid :=
  OpenClaim.holds_of_cond 6 Tryd.f6 rfl rfl rfl rfl rfl rfl rfl ⟨rfl, rfl, rfl, rfl, rfl⟩ rfl rfl rfl rfl rfl (by kernel_rfl) Tryd.func6 (by kernel_rfl)
    (of_decide_eq_true (by kernel_rfl)) (by unfold Func.isWrapper; first | (rw [if_pos (by decide +kernel)]; kernel_rfl) | (rw [if_neg (by decide +kernel)]; exact ⟨rfl, rfl⟩))
    (fun os started H enc _ F => by rw [OpenClaim.pre_eq_preRow]; exact lifted os started H enc F)

theorem plain (f : FuncId) (fn : Func) (hf : Tryd.pinned.checked.prog.funcNamed "homecoming/homecominglaw01.CrcTurned" = some f) (hfn : Tryd.pinned.checked.prog.funcs[f]? = some fn) :
    false = Tryd.pinned.checked.prog.looks [] ∧ ∀ (j : Nat) t, fn.params[j]? = some t → Tryd.pinned.checked.prog.wantsStandIn t = false := by
  obtain rfl : f = 6 := Option.some.inj ((show Tryd.prog.funcNamed "homecoming/homecominglaw01.CrcTurned" = some 6 by kernel_rfl).symm.trans hf) |>.symm
  obtain rfl : fn = Tryd.f6 := (Option.some.inj (Tryd.func6.symm.trans hfn)).symm
  refine ⟨by kernel_rfl, fun j t ht => ?_⟩
  have hall : (Tryd.f6.params.toList.all fun u => !Tryd.prog.wantsStandIn u) = true := by kernel_rfl
  have hm : t ∈ Tryd.f6.params.toList := by simpa using Array.mem_of_getElem? ht
  exact (show Tryd.prog.wantsStandIn t = false by simpa using List.all_eq_true.1 hall t hm)

/-- THE STATEMENT. -/
theorem card : Rows.CrcTurnedCardSaid :=
  Claim7.holds_tied_plain_at .later [] _ _ _ _ said (fun _ h => by cases h) (by kernel_rfl) (fun _ h => by cases h) crcTurned_row_tie rfl ⟨rfl, rfl⟩ (by kernel_rfl) rfl plain (by kernel_rfl)
#print axioms card
end Go.Proofs.YtimpidacckifjaaDoor.crcTurned
