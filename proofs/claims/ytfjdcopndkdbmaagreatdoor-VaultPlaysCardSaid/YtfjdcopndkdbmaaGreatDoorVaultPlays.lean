/-
  Proves the statement of VaultPlays: for every row as it stands, to 42, and every row of steps, to 60, the law returns true (a row goes on, step by step, as the document says), and its arguments read as they did. Conditions: the package-level tables acceptRanges and first of the library and cubeRoots and squareRoots of package sha hold what their texts lay.
-/
import Derived.Test.YtfjdcopndkdbmaaGreatDoorVty
import Derived.Test.YtfjdcopndkdbmaaGreatDoorTabs
import Derived.Test.YtfjdcopndkdbmaaGreatDoorCards
import Derived.Test.YtfjdcopndkdbmaaGreatDoorTie
namespace Go.Proofs.YtfjdcopndkdbmaaGreatDoor.vaultPlays
open Go.ChangeShapes Go.WideShapes Go.ChangeAt Go.RowKit
open Go.ChangeMaps (open_string shut_string)

/-- A slice's length is within its room. -/
theorem open_capS {H : Type} {enc : TypeId × Value → H} {P : Program} {W : World} {base : Nat} {held : Bool} {t e : TypeId} {A : Option Addr} {n c : Nat} {d : DataW H} {ps : List MemPlace}
    (ht : P.underlying t = some (.slice e)) (h : DataW.Trod enc P W base (fun _ => true) held t (.slice A n c) d ps) : n ≤ c := by
  obtain ⟨fuel, hf⟩ := h
  rcases Go.Deep.open_slice ht hf with ⟨hcs, _⟩ | ⟨a, len', cap', m, n', D, Pl, hcs, _, hl, _⟩
  · simp [Value.cells] at hcs
    omega
  · simp [Value.cells] at hcs
    obtain ⟨_, rfl, rfl⟩ := hcs
    exact hl
theorem run_cut_42 {P : Program} (t e : TypeId) (ht : P.underlying t = some (.slice e)) (hsz : (P.info? e).isSome = true) (a : Addr) (n c : Nat) (hk : 42 ≤ c) :
    ∀ w, (Instr.slice t (.slice (some a) n c) none (some (.int .i64 42)) none).run P w = .ok (.slice (some a) 42 c) w := by
  cases hq : P.info? e with
  | none => simp [hq] at hsz
  | some i =>
    intro w
    simp [Instr.slice, run_underlying ht, Instr.sliceBounds, Instr.sliceBound, asIntOf, sizeOf, typeInfo, hq]
    rw [if_pos (by omega), if_neg (by omega)]
    rfl
theorem sec_some : (Tryz.prog.info? 26).isSome = true := by kernel_rfl
/-- A secret with its texts cut. -/
def cutS (s : Va.Sec) : Va.Sec := ⟨cut s.digest 40, s.account, s.purpose, cut s.channel 50, s.expires, s.tries⟩
theorem pl_cut {s : Va.Sec} (h : SecOk s) : Pl (cutS s) := by
  have h1 := cut_size s.digest 40
  have h2 := cut_size s.channel 50
  refine ⟨show (cut s.digest 40).size ≤ 100000 by omega, show (cut s.channel 50).size ≤ 50000 by omega, h.tr, h.a, h.p, show (cut s.channel 50).size ≤ maxLen by unfold maxLen; omega⟩
theorem secs_more (l : List Va.Sec) (k : Nat) (h : k < l.length) : secs ((l.take (k + 1)).map cutS) = secs ((l.take k).map cutS) ++ secC (cutS l[k]) := by
  rw [List.take_succ_eq_append_getElem h, List.map_append, secs_append]
  show _ ++ secs [cutS l[k]] = _
  rw [secs_one]
set_option maxRecDepth 100000 in
set_option maxHeartbeats 16000000 in
theorem walk_few (A : Option Addr) (c : Nat) (l : List Va.Sec) (hl : l.length ≤ 42) (A0 : Option Addr) (c0 : Nat) (ops : List Opx) (w : World) (hR : Rdy w) (hlen : ops.length ≤ maxLen) (hA0 : ∀ i (hi : i < ops.length), OpxOk ops[i] ∧ ∃ a, A0 = some a ∧ OpxAt w (a.add (i * 17)) ops[i])
    (hA : ∀ i (hi : i < l.length), SecOk l[i] ∧ ∃ a, A = some a ∧ SecAt w (a.add (i * 6)) l[i]) :
    Calls Tryz.prog 3 #[.slice A l.length c, .slice A0 ops.length c0] w fun e w' => e = .returned (.bool true) ∧ Below w.heap.size w w' := by
  have HAW := Lib.hid (fun W h => awake_any W h)
  have HR := Lib.hid hR
  have HA0 := Lib.hid hA0
  have HA := Lib.hid hA
  have HLN := Lib.hid hlen
  have hl42 : ¬ (42 : Int) < (l.length : Int) := by omega
  obtain ⟨i0, hi, hz, hs6, hb64⟩ := info_sec
  have HI := Lib.hid hi
  have HZ := Lib.hid hz
  have HZ1 := Lib.hid hs6
  have HZ2 := Lib.hid hb64
  clear hR hA0 hA hlen hi hz hs6 hb64
  go_enter Tryz.func3, Tryz.ntmps3
  go_wp2_with fail
  refine (HAW.out _ HR.out).mono ?_
  rintro e wa ⟨rfl, hb⟩
  have HBA := Lib.hid hb
  clear hb
  go_wp2_with fail
  go_loopw [6, 7, 8] (fun v i _ wr => ∃ (k : Nat) (A' : Option Addr) (c' : Nat), v = .slice A' k c' ∧ i = .int .i64 (k : Int) ∧ k ≤ l.length ∧ wr.ownsRow wa.heap.size 26 6 (.slice A' k c') k (secs ((l.take k).map cutS)) ∧ Below wa.heap.size wa wr) (fun _ i _ _ => l.length - (intOf i).toNat)
  case atStart => exact ⟨0, none, 0, rfl, rfl, by omega, ⟨rfl, .inl ⟨rfl, rfl⟩⟩, Below.refl _ _⟩
  case round =>
    obtain ⟨k, A', c', rfl, rfl, hk, hown, hB⟩ := hrel
    have HOW := Lib.hid hown
    have HBW := Lib.hid hB
    have HBs := hB.size
    clear hown hB
    by_cases hlt : k < l.length
    · have hki : (k : Int) < (l.length : Int) := by omega
      have hlt3 : k < l.length := hlt
      obtain ⟨hok, ad, hAe, sa0⟩ := HA.out k hlt3
      obtain ⟨q, hq0⟩ : ∃ q, ad.add (k * 6) = q := ⟨_, rfl⟩
      rw [hq0] at sa0
      (first | subst hAe | (injection hAe with hAe; subst hAe))
      have sa1 := sa0.below (HBA.out.trans (HBW.out.mono HBA.out.size))
      have hmore := secs_more l k hlt3
      obtain ⟨s, hs⟩ : ∃ s, l[k] = s := ⟨_, rfl⟩
      rw [hs] at sa1 hmore hok
      obtain ⟨y0, y1, y2, y3, y4, y5, _⟩ := sa1
      have SH1 := Lib.hid (fun W => short_any s.digest 40 hok.dig W)
      have SH2 := Lib.hid (fun W => short_any s.channel 50 hok.ch W)
      obtain ⟨D1, hD1⟩ : ∃ D, cut s.digest 40 = D := ⟨_, rfl⟩
      obtain ⟨C1, hC1⟩ : ∃ D, cut s.channel 50 = D := ⟨_, rfl⟩
      have hcs : cutS s = ⟨D1, s.account, s.purpose, C1, s.expires, s.tries⟩ := by unfold cutS; rw [hD1, hC1]
      rw [hcs] at hmore
      rw [hD1] at SH1
      rw [hC1] at SH2
      have HM := Lib.hid hmore
      have hblk := Blk.new wr 26 #[.string s.digest, .int .i64 s.account, .int .i64 s.purpose, .string s.channel, .int .i64 s.expires, .int .i64 s.tries]
      have hal0 : Below wa.heap.size wa (wr.alloc (.cells #[.string s.digest, .int .i64 s.account, .int .i64 s.purpose, .string s.channel, .int .i64 s.expires, .int .i64 s.tries] 26)) := HBW.out.alloc HBs _
      have hown1 := HOW.out.alloc (.cells #[.string s.digest, .int .i64 s.account, .int .i64 s.purpose, .string s.channel, .int .i64 s.expires, .int .i64 s.tries] 26)
      clear hs sa0 hok hmore hcs hD1 hC1
      go_wp2_with fail
      clear y0 y1 y2 y3 y4 y5
      refine (SH1.out _).mono ?_
      rintro e w2 ⟨rfl, rfl⟩
      go_wp2_with fail
      refine (SH2.out _).mono ?_
      rintro e w2 ⟨rfl, rfl⟩
      obtain ⟨Wc, hWc⟩ : ∃ W, wr.alloc (.cells #[.string D1, .int .i64 s.account, .int .i64 s.purpose, .string C1, .int .i64 s.expires, .int .i64 s.tries] 26) = W := ⟨_, rfl⟩
      have hbc : Below wr.heap.size wr Wc := hWc ▸ (Below.refl _ wr).alloc (Nat.le_refl _) _
      have hblk3 : Blk Wc wr.heap.size 26 #[.string D1, .int .i64 s.account, .int .i64 s.purpose, .string C1, .int .i64 s.expires, .int .i64 s.tries] := hWc ▸ Blk.new wr _ _
      go_upto_region 11 with fail
      (try simp only [hWc])
      clear hWc hblk hal0 hown1
      have hown1 := own_of HOW.out (fun b hb => hbc.block b (own_lt HOW.out hb))
      have hBc : Below wa.heap.size wa Wc := HBW.out.trans (hbc.mono HBs)
      have hBcs := hBc.size
      have y0 : Wc.cell? ⟨wr.heap.size, 0, none⟩ = some (.string D1) := (hblk3.cell 0).trans rfl
      have y1 : Wc.cell? ⟨wr.heap.size, 1, none⟩ = some (.int .i64 s.account) := (hblk3.cell 1).trans rfl
      have y2 : Wc.cell? ⟨wr.heap.size, 2, none⟩ = some (.int .i64 s.purpose) := (hblk3.cell 2).trans rfl
      have y3 : Wc.cell? ⟨wr.heap.size, 3, none⟩ = some (.string C1) := (hblk3.cell 3).trans rfl
      have y4 : Wc.cell? ⟨wr.heap.size, 4, none⟩ = some (.int .i64 s.expires) := (hblk3.cell 4).trans rfl
      have y5 : Wc.cell? ⟨wr.heap.size, 5, none⟩ = some (.int .i64 s.tries) := (hblk3.cell 5).trans rfl
      have hblk0 := Blk.new Wc 26 #[.string D1, .int .i64 s.account, .int .i64 s.purpose, .string C1, .int .i64 s.expires, .int .i64 s.tries]
      have hown0 := hown1.alloc (.cells #[.string D1, .int .i64 s.account, .int .i64 s.purpose, .string C1, .int .i64 s.expires, .int .i64 s.tries] 26)
      generalize wr.heap.size = g8 at hblk3 hbc y0 y1 y2 y3 y4 y5 ⊢
      go_wp2_with
        (at_builtin
         refine wpList_append_lies _ rfl (.tmp 33) (.tmp 35) 22 rfl wa.heap.size 26 i0 _ 6 64 Tryz.underlying22 HI.out HZ.out HZ1.out HZ2.out rfl (by decide) (.slice A' k c') k (secs ((l.take k).map cutS)) rfl hown0 ⟨Wc.heap.size, 0, none⟩ 1 1 (secC ⟨D1, s.account, s.purpose, C1, s.expires, s.tries⟩) rfl rfl (World.news_of_block hblk0) (secC_cell _) (by omega) (by unfold maxLen; omega) (by omega) (by simp; omega) (Wc.heap.size + 1) (by simp) ?_
         intro g cap w4 hown2 hgrow hat hlt2
         have HO2 := Lib.hid hown2
         have HB3 := Lib.hid ((hBc.alloc hBcs _).grown hgrow (by simp; omega) (fun j hj => own_base HOW.out hj))
         clear hown2 hgrow hat hlt2 hown0 hblk0)
      go_roundw
      case rel => exact ⟨k + 1, _, _, rfl, by go_num, by omega, by rw [HM.out]; exact HO2.out, HB3.out⟩
      case measure => simp [intOf]; omega
    · obtain rfl : k = l.length := by omega
      have hki : ¬ ((l.length : Nat) : Int) < (l.length : Int) := by omega
      rw [show l.take l.length = l from List.take_length] at HOW
      have hcap := own_cap HOW.out
      obtain ⟨L0, hL0⟩ : ∃ m, l.map cutS = m := ⟨_, rfl⟩
      have hln : L0.length = l.length := by rw [← hL0, List.length_map]
      have hpl : ∀ s ∈ L0, Pl s := by
        intro s hs
        rw [← hL0] at hs
        obtain ⟨x, hx, rfl⟩ := List.mem_map.1 hs
        obtain ⟨i, hi, rfl⟩ := List.mem_iff_getElem.1 hx
        exact pl_cut (HA.out i hi).1
      rw [hL0] at HOW
      have hB2 := HBA.out.trans (HBW.out.mono HBA.out.size)
      have hp1 := plays_any A' c' L0 (by omega) (by omega) hpl A0 c0 ops wr (HR.out.next hB2) HLN.out (lies_made HOW.out (fun _ _ h => h)) (fun i hi => by
        obtain ⟨h1, a, h2, h3⟩ := HA0.out i hi
        exact ⟨h1, a, h2, h3.below hB2⟩)
      have hp2 := fun W (h : Below w.heap.size w W) => plays_any none 0 [] (by simp) (by simp) (fun s hs => by simp at hs) A0 c0 ops W (HR.out.next h) HLN.out (Lies.none _ _) (fun i hi => by
        obtain ⟨h1, a, h2, h3⟩ := HA0.out i hi
        exact ⟨h1, a, h2, h3.below h⟩)
      rw [hln] at hp1
      rw [show ([] : List Va.Sec).length = 0 from rfl] at hp2
      have HP1 := Lib.hid hp1
      have HP2 := Lib.hid hp2
      have HB2 := Lib.hid hB2
      clear hp1 hp2 hB2 hpl hln hL0 hcap
      go_wp2_with fail
      refine HP1.out.mono ?_
      rintro e v1 ⟨rfl, hb⟩
      have HB3 := Lib.hid (HB2.out.trans (hb.mono HB2.out.size))
      clear hb
      go_wp2_with fail
      refine (HP2.out _ HB3.out).mono ?_
      rintro e v2 ⟨rfl, hb⟩
      go_wp2_with fail
      go_ret
      exact ⟨rfl, HB3.out.trans (hb.mono HB3.out.size)⟩
set_option maxRecDepth 100000 in
set_option maxHeartbeats 16000000 in
theorem walk_many (a0 : Addr) (c : Nat) (raw : List Va.Sec) (hr42 : 42 < raw.length) (hc : raw.length ≤ c) (A0 : Option Addr) (c0 : Nat) (ops : List Opx) (w : World) (hR : Rdy w) (hlen : ops.length ≤ maxLen) (hA0 : ∀ i (hi : i < ops.length), OpxOk ops[i] ∧ ∃ a, A0 = some a ∧ OpxAt w (a.add (i * 17)) ops[i])
    (hA : ∀ i (hi : i < raw.length), SecOk raw[i] ∧ ∃ a, some a0 = some a ∧ SecAt w (a.add (i * 6)) raw[i]) :
    Calls Tryz.prog 3 #[.slice (some a0) raw.length c, .slice A0 ops.length c0] w fun e w' => e = .returned (.bool true) ∧ Below w.heap.size w w' := by
  obtain ⟨l, hl0⟩ : ∃ l, raw.take 42 = l := ⟨_, rfl⟩
  have hl : l.length = 42 := by rw [← hl0, List.length_take]; omega
  have HA : Hid (∀ i (hi : i < l.length), SecOk l[i] ∧ ∃ a, some a0 = some a ∧ SecAt w (a.add (i * 6)) l[i]) := Lib.hid (fun i hi => by
    subst hl0
    rw [List.getElem_take]
    exact hA i (by omega))
  have HL := Lib.hid hl
  have HAW := Lib.hid (fun W h => awake_any W h)
  have HR := Lib.hid hR
  have HA0 := Lib.hid hA0
  have HLN := Lib.hid hlen
  have hl42 : (42 : Int) < (raw.length : Int) := by omega
  have hcut := run_cut_42 22 26 Tryz.underlying22 sec_some a0 raw.length c (by omega)
  obtain ⟨i0, hi, hz, hs6, hb64⟩ := info_sec
  have HI := Lib.hid hi
  have HZ := Lib.hid hz
  have HZ1 := Lib.hid hs6
  have HZ2 := Lib.hid hb64
  clear hR hA0 hA hlen hi hz hs6 hb64 hl0 hc hr42 hl
  go_enter Tryz.func3, Tryz.ntmps3
  go_wp2_with fail
  refine (HAW.out _ HR.out).mono ?_
  rintro e wa ⟨rfl, hb⟩
  have HBA := Lib.hid hb
  clear hb
  go_wp2_with fail
  clear hcut
  go_loopw [6, 7, 8] (fun v i _ wr => ∃ (k : Nat) (A' : Option Addr) (c' : Nat), v = .slice A' k c' ∧ i = .int .i64 (k : Int) ∧ k ≤ 42 ∧ wr.ownsRow wa.heap.size 26 6 (.slice A' k c') k (secs ((l.take k).map cutS)) ∧ Below wa.heap.size wa wr) (fun _ i _ _ => 42 - (intOf i).toNat)
  case atStart => exact ⟨0, none, 0, rfl, rfl, by omega, ⟨rfl, .inl ⟨rfl, rfl⟩⟩, Below.refl _ _⟩
  case round =>
    obtain ⟨k, A', c', rfl, rfl, hk, hown, hB⟩ := hrel
    have HOW := Lib.hid hown
    have HBW := Lib.hid hB
    have HBs := hB.size
    clear hown hB
    by_cases hlt : k < 42
    · have hki : (k : Int) < 42 := by omega
      have hlt3 : k < l.length := by rw [HL.out]; exact hlt
      obtain ⟨hok, ad, hAe, sa0⟩ := HA.out k hlt3
      obtain ⟨q, hq0⟩ : ∃ q, ad.add (k * 6) = q := ⟨_, rfl⟩
      rw [hq0] at sa0
      (first | subst hAe | (injection hAe with hAe; subst hAe))
      have sa1 := sa0.below (HBA.out.trans (HBW.out.mono HBA.out.size))
      have hmore := secs_more l k hlt3
      obtain ⟨s, hs⟩ : ∃ s, l[k] = s := ⟨_, rfl⟩
      rw [hs] at sa1 hmore hok
      obtain ⟨y0, y1, y2, y3, y4, y5, _⟩ := sa1
      have SH1 := Lib.hid (fun W => short_any s.digest 40 hok.dig W)
      have SH2 := Lib.hid (fun W => short_any s.channel 50 hok.ch W)
      obtain ⟨D1, hD1⟩ : ∃ D, cut s.digest 40 = D := ⟨_, rfl⟩
      obtain ⟨C1, hC1⟩ : ∃ D, cut s.channel 50 = D := ⟨_, rfl⟩
      have hcs : cutS s = ⟨D1, s.account, s.purpose, C1, s.expires, s.tries⟩ := by unfold cutS; rw [hD1, hC1]
      rw [hcs] at hmore
      rw [hD1] at SH1
      rw [hC1] at SH2
      have HM := Lib.hid hmore
      have hblk := Blk.new wr 26 #[.string s.digest, .int .i64 s.account, .int .i64 s.purpose, .string s.channel, .int .i64 s.expires, .int .i64 s.tries]
      have hal0 : Below wa.heap.size wa (wr.alloc (.cells #[.string s.digest, .int .i64 s.account, .int .i64 s.purpose, .string s.channel, .int .i64 s.expires, .int .i64 s.tries] 26)) := HBW.out.alloc HBs _
      have hown1 := HOW.out.alloc (.cells #[.string s.digest, .int .i64 s.account, .int .i64 s.purpose, .string s.channel, .int .i64 s.expires, .int .i64 s.tries] 26)
      clear hs sa0 hok hmore hcs hD1 hC1
      go_wp2_with fail
      clear y0 y1 y2 y3 y4 y5
      refine (SH1.out _).mono ?_
      rintro e w2 ⟨rfl, rfl⟩
      go_wp2_with fail
      refine (SH2.out _).mono ?_
      rintro e w2 ⟨rfl, rfl⟩
      obtain ⟨Wc, hWc⟩ : ∃ W, wr.alloc (.cells #[.string D1, .int .i64 s.account, .int .i64 s.purpose, .string C1, .int .i64 s.expires, .int .i64 s.tries] 26) = W := ⟨_, rfl⟩
      have hbc : Below wr.heap.size wr Wc := hWc ▸ (Below.refl _ wr).alloc (Nat.le_refl _) _
      have hblk3 : Blk Wc wr.heap.size 26 #[.string D1, .int .i64 s.account, .int .i64 s.purpose, .string C1, .int .i64 s.expires, .int .i64 s.tries] := hWc ▸ Blk.new wr _ _
      go_upto_region 11 with fail
      (try simp only [hWc])
      clear hWc hblk hal0 hown1
      have hown1 := own_of HOW.out (fun b hb => hbc.block b (own_lt HOW.out hb))
      have hBc : Below wa.heap.size wa Wc := HBW.out.trans (hbc.mono HBs)
      have hBcs := hBc.size
      have y0 : Wc.cell? ⟨wr.heap.size, 0, none⟩ = some (.string D1) := (hblk3.cell 0).trans rfl
      have y1 : Wc.cell? ⟨wr.heap.size, 1, none⟩ = some (.int .i64 s.account) := (hblk3.cell 1).trans rfl
      have y2 : Wc.cell? ⟨wr.heap.size, 2, none⟩ = some (.int .i64 s.purpose) := (hblk3.cell 2).trans rfl
      have y3 : Wc.cell? ⟨wr.heap.size, 3, none⟩ = some (.string C1) := (hblk3.cell 3).trans rfl
      have y4 : Wc.cell? ⟨wr.heap.size, 4, none⟩ = some (.int .i64 s.expires) := (hblk3.cell 4).trans rfl
      have y5 : Wc.cell? ⟨wr.heap.size, 5, none⟩ = some (.int .i64 s.tries) := (hblk3.cell 5).trans rfl
      have hblk0 := Blk.new Wc 26 #[.string D1, .int .i64 s.account, .int .i64 s.purpose, .string C1, .int .i64 s.expires, .int .i64 s.tries]
      have hown0 := hown1.alloc (.cells #[.string D1, .int .i64 s.account, .int .i64 s.purpose, .string C1, .int .i64 s.expires, .int .i64 s.tries] 26)
      generalize wr.heap.size = g8 at hblk3 hbc y0 y1 y2 y3 y4 y5 ⊢
      go_wp2_with
        (at_builtin
         refine wpList_append_lies _ rfl (.tmp 33) (.tmp 35) 22 rfl wa.heap.size 26 i0 _ 6 64 Tryz.underlying22 HI.out HZ.out HZ1.out HZ2.out rfl (by decide) (.slice A' k c') k (secs ((l.take k).map cutS)) rfl hown0 ⟨Wc.heap.size, 0, none⟩ 1 1 (secC ⟨D1, s.account, s.purpose, C1, s.expires, s.tries⟩) rfl rfl (World.news_of_block hblk0) (secC_cell _) (by omega) (by unfold maxLen; omega) (by omega) (by simp; omega) (Wc.heap.size + 1) (by simp) ?_
         intro g cap w4 hown2 hgrow hat hlt2
         have HO2 := Lib.hid hown2
         have HB3 := Lib.hid ((hBc.alloc hBcs _).grown hgrow (by simp; omega) (fun j hj => own_base HOW.out hj))
         clear hown2 hgrow hat hlt2 hown0 hblk0)
      go_roundw
      case rel => exact ⟨k + 1, _, _, rfl, by go_num, by omega, by rw [HM.out]; exact HO2.out, HB3.out⟩
      case measure => simp [intOf]; omega
    · obtain rfl : k = 42 := by omega
      have hki : ¬ ((42 : Nat) : Int) < 42 := by omega
      rw [show l.take 42 = l from by rw [← HL.out]; exact List.take_length] at HOW
      have hcap := own_cap HOW.out
      obtain ⟨L0, hL0⟩ : ∃ m, l.map cutS = m := ⟨_, rfl⟩
      have hln : L0.length = 42 := by rw [← hL0, List.length_map]; exact HL.out
      have hpl : ∀ s ∈ L0, Pl s := by
        intro s hs
        rw [← hL0] at hs
        obtain ⟨x, hx, rfl⟩ := List.mem_map.1 hs
        obtain ⟨i, hi, rfl⟩ := List.mem_iff_getElem.1 hx
        exact pl_cut (HA.out i hi).1
      rw [hL0] at HOW
      have hB2 := HBA.out.trans (HBW.out.mono HBA.out.size)
      have hp1 := plays_any A' c' L0 (by omega) (by omega) hpl A0 c0 ops wr (HR.out.next hB2) HLN.out (lies_made HOW.out (fun _ _ h => h)) (fun i hi => by
        obtain ⟨h1, a, h2, h3⟩ := HA0.out i hi
        exact ⟨h1, a, h2, h3.below hB2⟩)
      have hp2 := fun W (h : Below w.heap.size w W) => plays_any none 0 [] (by simp) (by simp) (fun s hs => by simp at hs) A0 c0 ops W (HR.out.next h) HLN.out (Lies.none _ _) (fun i hi => by
        obtain ⟨h1, a, h2, h3⟩ := HA0.out i hi
        exact ⟨h1, a, h2, h3.below h⟩)
      rw [hln] at hp1
      rw [show ([] : List Va.Sec).length = 0 from rfl] at hp2
      have HP1 := Lib.hid hp1
      have HP2 := Lib.hid hp2
      have HB2 := Lib.hid hB2
      clear hp1 hp2 hB2 hpl hln hL0 hcap
      go_wp2_with fail
      refine HP1.out.mono ?_
      rintro e v1 ⟨rfl, hb⟩
      have HB3 := Lib.hid (HB2.out.trans (hb.mono HB2.out.size))
      clear hb
      go_wp2_with fail
      refine (HP2.out _ HB3.out).mono ?_
      rintro e v2 ⟨rfl, hb⟩
      go_wp2_with fail
      go_ret
      exact ⟨rfl, HB3.out.trans (hb.mono HB3.out.size)⟩
theorem walk (A : Option Addr) (c : Nat) (raw : List Va.Sec) (hc : raw.length ≤ c) (A0 : Option Addr) (c0 : Nat) (ops : List Opx) (w : World) (hR : Rdy w) (hlen : ops.length ≤ maxLen) (hA0 : ∀ i (hi : i < ops.length), OpxOk ops[i] ∧ ∃ a, A0 = some a ∧ OpxAt w (a.add (i * 17)) ops[i])
    (hA : ∀ i (hi : i < raw.length), SecOk raw[i] ∧ ∃ a, A = some a ∧ SecAt w (a.add (i * 6)) raw[i]) :
    Calls Tryz.prog 3 #[.slice A raw.length c, .slice A0 ops.length c0] w fun e w' => e = .returned (.bool true) ∧ Below w.heap.size w w' := by
  by_cases h : raw.length ≤ 42
  · exact walk_few A c raw h A0 c0 ops w hR hlen hA0 hA
  · obtain ⟨_, a, hAe, _⟩ := hA 0 (by omega)
    subst hAe
    exact walk_many a c raw (by omega) hc A0 c0 ops w hR hlen hA0 hA

/-! ### The row -/
set_option maxRecDepth 100000 in
theorem contract (H : Type) (enc : TypeId × Value → H) (W : World) (base : Nat) (args : Array Value) (ds gs : List (DataW H)) (before : List MemPlace)
    (hval : ∀ (j : Nat) t v, Tryz.f3.params[j]? = some t → args[j]? = some v → Value.okWide Tryz.prog W .any base t v)
    (hW : DataW.Whole enc Tryz.prog Tryz.f3.params.toList Rows.vaultPlaysSpec.vars false W args.toList ds gs before) (hL : laidMet Tryz.prog Rows.vaultPlaysRow.laid W) (hS : W.ShapedOpen Tryz.prog) :
    Calls Tryz.prog 3 args W fun e W' => ∃ v, e = .returned v ∧ Rows.vaultPlaysSpec.post enc Tryz.prog Tryz.f3 false true false false W args v W' := by
  have hW' := hW
  obtain ⟨p, q, hA0, hV, rfl, hfz, hnd⟩ := hW
  have hA : DataW.TrodAll enc Tryz.prog W 0 (fun _ => true) true Tryz.f3.params.toList args.toList ds p := hA0
  rw [Tryz.params3] at hA hval
  obtain ⟨v0, vs0, d0, ds0, p0, q0, hargs, rfl, rfl, h0, r0⟩ := trodAll_cons hA
  obtain ⟨v1, vs1, d1, ds1, p1, q1, rfl, rfl, rfl, h1, r1⟩ := trodAll_cons r0
  obtain ⟨rfl, rfl, rfl⟩ := trodAll_nil r1
  obtain rfl : args = #[v0, v1] := by cases args; simp_all
  obtain ⟨rfl, rfl⟩ := trodVars_none hV
  refine law_contract (tb := 4) laidOut (by kernel_rfl) rfl (by kernel_rfl) Tryz.underlying4 rfl hW' ?_
  clear hA0 hW' hA
  obtain ⟨A1, k1, l1, rfl, z1, g1⟩ := open_secs (hval 0 22 v0 rfl rfl) h0
  obtain ⟨A0, k0, l0, rfl, z0, g0⟩ := open_ops (hval 1 23 v1 rfl rfl) h1
  exact walk A1 k1 l1 (open_capS Tryz.underlying22 h0) A0 k0 l0 W (rdy_of (tab_CubeRoots (laidMet.tail hL)) (tab_SquareRoots (laidMet.tail (laidMet.tail hL))) hS) z0 g0 g1

theorem laid_met (os : Os) : laidMet Tryz.prog Rows.vaultPlaysRow.laid ((laidWorld os).forCall (fun _ _ => 0) ⟨#[], #[.slice none 0 0, .slice none 0 0], []⟩).memory :=
  laidMet_of_run' 8 (by kernel_rfl) (by kernel_rfl)
theorem reads (os : Os) {H : Type} (enc : TypeId × Value → H) : ∃ places, DataW.whole enc Tryz.prog ((laidWorld os).forCall (fun _ _ => 0) ⟨#[], #[.slice none 0 0, .slice none 0 0], []⟩).memory Tryz.f3.params.toList Rows.vaultPlaysSpec.vars false (#[.slice none 0 0, .slice none 0 0] : Array Value).toList 8 = some ([.nil, .nil], [], places) :=
  ⟨[], by kernel_rfl⟩

set_option maxRecDepth 100000 in
theorem lifted (os : Os) (started : os.Started) (H : Type) (enc : TypeId × Value → H) (F : Stop.Interp) :
    ReturnsInHanded {} Tryz.checked os 3 .any ((OpenSpec.ofChange Rows.vaultPlaysSpec).preRow enc Tryz.prog Tryz.f3 Rows.vaultPlaysRow.domain false Rows.vaultPlaysRow.laid) (((OpenSpec.ofChange Rows.vaultPlaysSpec).at F).post enc Tryz.prog Tryz.f3 false true false false) := by
  obtain ⟨places, hx⟩ := reads os enc
  refine returnsInHanded_of_row (C := Tryz.checked) (s := OpenSpec.ofChange Rows.vaultPlaysSpec) own started (by kernel_rfl) Tryz.func3
    (witness_row_at (enc := enc) (C := Tryz.checked) false (laidWorld os) #[.slice none 0 0, .slice none 0 0] rfl (by kernel_rfl) (by kernel_rfl) (by kernel_rfl)
      (OpenSpec.preRow_of_cond 8 hx (by kernel_rfl) (fun k hk => by cases hk) (by kernel_rfl) (laid_met os))) ?_
  intro W base args ds gs before hval hW _ _ _ hL hS _
  exact contract H enc W base args ds gs before hval hW hL hS

theorem said : Rows.VaultPlaysSaid :=
  OpenClaim.holds_of_cond 3 Tryz.f3 rfl rfl rfl rfl rfl rfl rfl ⟨rfl, rfl, rfl, rfl, rfl⟩ rfl rfl rfl rfl rfl (by kernel_rfl) Tryz.func3 (by kernel_rfl)
    (of_decide_eq_true (by kernel_rfl)) (by unfold Func.isWrapper; first | (rw [if_pos (by decide +kernel)]; kernel_rfl) | (rw [if_neg (by decide +kernel)]; exact ⟨rfl, rfl⟩))
    (fun os started H enc _ F => by rw [OpenClaim.pre_eq_preRow]; exact lifted os started H enc F)

theorem plain (f : FuncId) (fn : Func) (hf : Tryz.pinned.checked.prog.funcNamed "homecoming/homecominglaw11.VaultPlays" = some f) (hfn : Tryz.pinned.checked.prog.funcs[f]? = some fn) :
    false = Tryz.pinned.checked.prog.looks [] ∧ ∀ (j : Nat) t, fn.params[j]? = some t → Tryz.pinned.checked.prog.wantsStandIn t = false := by
  obtain rfl : f = 3 := Option.some.inj ((show Tryz.prog.funcNamed "homecoming/homecominglaw11.VaultPlays" = some 3 by kernel_rfl).symm.trans hf) |>.symm
  obtain rfl : fn = Tryz.f3 := (Option.some.inj (Tryz.func3.symm.trans hfn)).symm
  refine ⟨by kernel_rfl, fun j t ht => ?_⟩
  have hall : (Tryz.f3.params.toList.all fun u => !Tryz.prog.wantsStandIn u) = true := by kernel_rfl
  have hm : t ∈ Tryz.f3.params.toList := by simpa using Array.mem_of_getElem? ht
  exact (show Tryz.prog.wantsStandIn t = false by simpa using List.all_eq_true.1 hall t hm)

/-- THE STATEMENT. -/
theorem card : Rows.VaultPlaysCardSaid :=
  Claim7.holds_tied_plain_at .later [] _ _ _ _ said (fun _ h => by cases h) (by kernel_rfl) (fun _ h => by cases h) vaultPlays_row_tie rfl ⟨rfl, rfl⟩ (by kernel_rfl) rfl plain (by kernel_rfl)
#print axioms card
end Go.Proofs.YtfjdcopndkdbmaaGreatDoor.vaultPlays
