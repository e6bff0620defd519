/-
  Proves the statement of VaultKeeps: for every row of steps the law returns true (a secret that is put stands where one of its key stood, or behind all; the others stay; what is dropped is an account's alone), and its argument reads as it did. Conditions: the package-level tables acceptRanges and first of the library and cubeRoots and squareRoots of package sha hold what their texts lay.
-/
import Derived.Test.YtfjdcopndkdbmaaGreatDoorOpx
import Derived.Test.YtfjdcopndkdbmaaGreatDoorVsG
import Derived.Test.YtfjdcopndkdbmaaGreatDoorVtk
import Derived.Test.YtfjdcopndkdbmaaGreatDoorVtN
import Derived.Test.YtfjdcopndkdbmaaGreatDoorVsj
import Derived.Test.YtfjdcopndkdbmaaGreatDoorTabs
import Derived.Test.YtfjdcopndkdbmaaGreatDoorCards
import Derived.Test.YtfjdcopndkdbmaaGreatDoorTie
namespace Go.Proofs.YtfjdcopndkdbmaaGreatDoor.vaultKeeps
open Go.ChangeShapes Go.WideShapes Go.ChangeAt Go.RowKit
open Go.ChangeMaps (open_string shut_string)

theorem secOf_form (x : Option Va.Sec) : ∃ a b c d e f, secOf x = #[.string a, .int .i64 b, .int .i64 c, .string d, .int .i64 e, .int .i64 f] := by
  cases x with
  | none => exact ⟨_, _, _, _, _, _, rfl⟩
  | some s => exact ⟨_, _, _, _, _, _, rfl⟩
/-- What each operation of the drawn statement leaves. -/
def Vk17same (a2 : Addr) (n5 : Nat) (cx5 : Nat) (a1 : Addr) (n : Nat) (cp : Nat) (k : Nat) (q1 : Addr) (q2 : Addr) (S2 : Va.Sec) : Nat → Value → Prop
  | 0, v => v = .slice (some a1) n cp
  | 1, v => v = .int .i64 (k : Int)
  | 2, v => v = .pointer (some q1)
  | 3, v => v = .agg #[.string S2.digest, .int .i64 S2.account, .int .i64 S2.purpose, .string S2.channel, .int .i64 S2.expires, .int .i64 S2.tries]
  | 4, v => v = .slice (some a2) n5 cx5
  | 5, v => v = .int .i64 (k : Int)
  | 6, v => v = .pointer (some q2)
  | 7, v => v = .agg #[.string S2.digest, .int .i64 S2.account, .int .i64 S2.purpose, .string S2.channel, .int .i64 S2.expires, .int .i64 S2.tries]
  | 8, v => v = .bool false
  | 9, v => v = .bool false
  | 10, v => v = undef
  | 11, v => v = undef
  | 12, v => v = undef
  | 13, v => v = undef
  | 14, v => v = undef
  | 15, v => v = undef
  | 16, v => v = undef
  | 17, v => v = undef
  | 18, v => v = undef
  | 19, v => v = undef
  | 20, v => v = undef
  | 21, v => v = undef
  | 22, v => v = undef
  | 23, v => v = undef
  | 24, v => v = undef
  | 25, v => v = undef
  | 26, v => v = undef
  | 27, v => v = undef
  | 28, v => v = undef
  | 29, v => v = undef
  | 30, v => v = undef
  | 31, v => v = undef
  | 32, v => v = undef
  | 33, v => v = undef
  | 34, v => v = undef
  | 35, v => v = undef
  | 36, v => v = undef
  | 37, v => v = undef
  | 38, v => v = .bool false
  | _, _ => True
/-- What each operation of the drawn statement leaves. -/
def Vk17diff (a2 : Addr) (n5 : Nat) (cx5 : Nat) (a1 : Addr) (n : Nat) (cp : Nat) (k : Nat) (g6 : Nat) (q1 : Addr) (q2 : Addr) (S0 : Va.Sec) (S2 : Va.Sec) (xd : ByteArray) (xe : Int) (xt : Int) : Nat → Value → Prop
  | 0, v => v = .slice (some a1) n cp
  | 1, v => v = .int .i64 (k : Int)
  | 2, v => v = .pointer (some q1)
  | 3, v => v = .agg #[.string xd, .int .i64 S0.account, .int .i64 S0.purpose, .string S0.channel, .int .i64 xe, .int .i64 xt]
  | 4, v => v = .slice (some a2) n5 cx5
  | 5, v => v = .int .i64 (k : Int)
  | 6, v => v = .pointer (some q2)
  | 7, v => v = .agg #[.string S2.digest, .int .i64 S2.account, .int .i64 S2.purpose, .string S2.channel, .int .i64 S2.expires, .int .i64 S2.tries]
  | 8, v => v = .bool true
  | 9, v => v = .bool true
  | 10, v => v = .slice (some a1) n cp
  | 11, v => v = .int .i64 (k : Int)
  | 12, v => v = .pointer (some q1)
  | 13, v => v = .pointer (some ⟨q1.block, q1.off + 1, none⟩)
  | 14, v => v = .int .i64 S0.account
  | 15, v => v = .pointer (some ⟨g6, 1, none⟩)
  | 16, v => v = .int .i64 S0.account
  | 17, v => v = .bool false
  | 18, v => v = .bool false
  | 19, v => v = .slice (some a1) n cp
  | 20, v => v = .int .i64 (k : Int)
  | 21, v => v = .pointer (some q1)
  | 22, v => v = .pointer (some ⟨q1.block, q1.off + 2, none⟩)
  | 23, v => v = .int .i64 S0.purpose
  | 24, v => v = .pointer (some ⟨g6, 2, none⟩)
  | 25, v => v = .int .i64 S0.purpose
  | 26, v => v = .bool false
  | 27, v => v = .bool false
  | 28, v => v = .bool false
  | 29, v => v = .slice (some a1) n cp
  | 30, v => v = .int .i64 (k : Int)
  | 31, v => v = .pointer (some q1)
  | 32, v => v = .pointer (some ⟨q1.block, q1.off + 3, none⟩)
  | 33, v => v = .string S0.channel
  | 34, v => v = .pointer (some ⟨g6, 3, none⟩)
  | 35, v => v = .string S0.channel
  | 36, v => v = .bool false
  | 37, v => v = .bool false
  | 38, v => v = .bool false
  | _, _ => True
set_option maxRecDepth 100000 in
set_option maxHeartbeats 16000000 in
theorem walk (A0 : Option Addr) (c0 : Nat) (l : List Opx) (w : World) (hR : Rdy w) (hlen : l.length ≤ maxLen) (hA0 : ∀ i (hi : i < l.length), OpxOk l[i] ∧ ∃ a, A0 = some a ∧ OpxAt w (a.add (i * 17)) l[i]) :
    Calls Tryz.prog 7 #[.slice A0 l.length c0] w fun e w' => e = .returned (.bool true) ∧ Below w.heap.size w w' := by
  have HAW := Lib.hid (fun W h => awake_any W h)
  have HSE0 := Lib.hid (fun (o : Opx) W => secret_any o.n0 o.n1 o.n2 o.n3 9 (by decide) W)
  have HR := Lib.hid hR
  have HA0 := Lib.hid hA0
  have hll : (l.length : Int) ≤ 9223372036854775807 := by unfold maxLen at hlen; omega
  clear hR hA0 hlen
  go_enter Tryz.func7, Tryz.ntmps7
  go_wp2_with fail
  refine (HAW.out _ HR.out).mono ?_
  rintro e wa ⟨rfl, hb⟩
  have HBa := Lib.hid hb
  clear hb
  go_wp2_with fail
  go_loopw [4, 5, 6, 7, 8, 9, 10, 11, 12, 13, 14] (fun lv iv _ _ _ _ _ _ _ _ _ wr => ∃ (i : Nat) (L : List Va.Sec), iv = .int .i64 (i : Int) ∧ i ≤ 40 ∧ i ≤ l.length ∧ L.length ≤ i ∧ Rw.Uniq Va.Sec.key L ∧ (∀ s ∈ L, Kp s) ∧ Row (fun _ => False) L lv wr ∧ Below w.heap.size w wr) (fun _ iv _ _ _ _ _ _ _ _ _ _ => 40 - (intOf iv).toNat)
  case atStart => exact ⟨0, [], rfl, by omega, by omega, by simp, Rw.Uniq.nil, fun s hs => by simp at hs, ⟨none, 0, rfl, Nat.le_refl _, Lies.none _ _⟩, HBa.out⟩
  case round =>
    obtain ⟨i, L, rfl, hi40, hil, hLi, hU, hKL, hrow, hB⟩ := hrel
    obtain ⟨A, cp, rfl, hcp, hA⟩ := hrow
    have HA := Lib.hid hA
    have HB := Lib.hid hB
    have HCP := Lib.hid hcp
    have HU := Lib.hid hU
    have HKL := Lib.hid hKL
    clear hA hB hcp hU hKL
    by_cases hl1 : i < l.length
    · have hi1 : (i : Int) < (l.length : Int) := by omega
      by_cases hl2 : i < 40
      · have hi2 : (i : Int) < 40 := by omega
        obtain ⟨_, ad, hAd, hat⟩ := HA0.out i hl1
        subst hAd
        have hat2 := hat.below HB.out
        obtain ⟨q, hq⟩ : ∃ q, ad.add (i * 17) = q := ⟨_, rfl⟩
        obtain ⟨o, ho⟩ : ∃ o, l[i] = o := ⟨_, rfl⟩
        rw [hq, ho] at hat2
        obtain ⟨_, x0, x1, x2, x3, x4, x5, x6, x7, x8, x9, x10, x11, x12, x13, x14, x15, x16⟩ := hat2
        clear x0 x1 x6 x7 x8 x9 x10 x11 x12 x13 x14 x15 x16 hat ho
        have HSE := Lib.hid (HSE0.out o)
        have hkp := kp_sec o.n0 o.n1 o.n2 o.n3
        generalize secQ o.n0 o.n1 o.n2 o.n3 9 = S0 at *
        rw [sec_row] at HSE
        obtain ⟨L2, hL2, hlen2, hu2, hk2, hf2, hll2, hdr, hof, hsw1, hsw2, hat⟩ := keeps L S0 HU.out HKL.out hkp
        have hput := fun W hW hW2 => put_any (S := fun _ => False) A cp L (by omega) HCP.out S0 (by have := hkp.ch; omega) W hW hW2
        rw [hkp.right, Va.put_ok _ _ (by omega), hL2] at hput
        have HPUT := Lib.hid hput
        obtain ⟨hd, hhd⟩ : ∃ b, (Rw.find Va.Sec.key L S0.key).isSome = b := ⟨_, rfl⟩
        obtain ⟨z0, z1, z2, z3, z4, z5, hz⟩ := secOf_form (Rw.find Va.Sec.key L S0.key)
        have hfd := fun W hW => find_any (S := fun _ => False) A cp L (by omega) S0.account S0.purpose S0.channel W hW
        change ∀ W, _ → Calls _ _ _ W fun e w' => e = .returned (.tuple #[.agg (secOf (Rw.find Va.Sec.key L S0.key)), .bool (Rw.find Va.Sec.key L S0.key).isSome]) ∧ _ at hfd
        rw [hz, hhd] at hfd
        rw [hhd] at hll2
        have HFD := Lib.hid hfd
        have hfd2 := fun (A5 : Option Addr) (cp5 : Nat) W hW => find_any (S := fun _ => False) A5 cp5 L2 (by omega) S0.account S0.purpose S0.channel W hW
        change ∀ (A5 : Option Addr) (cp5 : Nat), ∀ W, _ → Calls _ _ _ W fun e w' => e = .returned (.tuple #[.agg (secOf (Rw.find Va.Sec.key L2 S0.key)), .bool (Rw.find Va.Sec.key L2 S0.key).isSome]) ∧ _ at hfd2
        rw [hf2, Option.isSome_some, secOf_some] at hfd2
        have HFD2 := Lib.hid hfd2
        have HDROP := Lib.hid (fun (A5 : Option Addr) (cp5 : Nat) (h5 : L2.length ≤ cp5) W hW => drop_any (S := fun _ => False) A5 cp5 L2 (by omega) h5 S0.account 0 W hW)
        have HOF1 := Lib.hid (fun (A5 : Option Addr) (cp5 : Nat) W hW => of_any (S := fun _ => False) A5 cp5 L2 (by omega) S0.account W hW)
        obtain ⟨D, hD⟩ : ∃ D, Va.drop L2 S0.account 0 = D := ⟨_, rfl⟩
        obtain ⟨no, hno⟩ : ∃ n, Va.of L2 S0.account = n := ⟨_, rfl⟩
        rw [hD] at HDROP hdr hof
        rw [hno] at HOF1 hdr
        have hof2 := fun (A5 : Option Addr) (cp5 : Nat) W hW => of_any (S := fun _ => False) A5 cp5 D (by omega) S0.account W hW
        rw [hof] at hof2
        have HOF2 := Lib.hid hof2
        have hsa := fun (A5 : Option Addr) (cp5 : Nat) (h5 : L2.length ≤ cp5) W hW => sweep_any (S := fun _ => False) A5 cp5 L2 (by omega) h5 1099511627776 W hW
        have hsb := fun (A5 : Option Addr) (cp5 : Nat) (h5 : L2.length ≤ cp5) W hW => sweep_any (S := fun _ => False) A5 cp5 L2 (by omega) h5 9 W hW
        rw [hsw1] at hsa
        rw [hsw2] at hsb
        have HSA := Lib.hid hsa
        have HSB := Lib.hid hsb
        have hwd : IntKind.i64.wrap ((D.length : Int) + (no : Int)) = (L2.length : Int) := by rw [IntKind.wrap_i64]; omega
        have HAT := Lib.hid hat
        have HU2 := Lib.hid hu2
        have HK2 := Lib.hid hk2
        have hwl : IntKind.i64.wrap ((L.length : Int) + 1) = (L.length : Int) + 1 := by rw [IntKind.wrap_i64]; omega
        have hnl : (if hd = true then ((L2.length : Int) != (L.length : Int)) else ((L2.length : Int) != (L.length : Int) + 1)) = false := by
          cases hd
          · rw [if_neg (by decide)] at hll2 ⊢
            rw [hll2]
            simp
          · rw [if_pos rfl] at hll2 ⊢
            rw [hll2]
            simp
        have hld : L2.length ≤ i + 1 := by omega
        have hlL : L.length ≤ L2.length := by rw [hll2]; split <;> omega
        clear hput hkp hfd hfd2 hhd hz hL2 hdr hof hsw1 hsw2 hat hu2 hk2 hll2 hD hno hof2 hsa hsb hf2 hlen2
        cases hd
        all_goals
          simp only [if_true, if_false, Bool.false_eq_true] at hnl
          go_wp2_with fail
          refine (HSE.out _).mono ?_
          rintro e v3 ⟨rfl, hb⟩
          have hal := (Below.refl _ v3).alloc (Nat.le_refl _) (.cells #[.string S0.digest, .int .i64 S0.account, .int .i64 S0.purpose, .string S0.channel, .int .i64 S0.expires, .int .i64 S0.tries] 26)
          have HA4 := Lib.hid ((HA.out.below hb).below hal)
          have HB4 := Lib.hid ((HB.out.trans (hb.mono HB.out.size)).trans (hal.mono (by have h1 := HB.out.size; have h2 := hb.size; omega)))
          have HS4 := Lib.hid (Blk.new v3 26 #[.string S0.digest, .int .i64 S0.account, .int .i64 S0.purpose, .string S0.channel, .int .i64 S0.expires, .int .i64 S0.tries])
          clear hb hal x2 x3 x4 x5
          go_wp2_with fail
          refine (HFD.out _ HA4.out).mono ?_
          rintro e v5 ⟨rfl, hb⟩
          have hal := (Below.refl _ v5).alloc (Nat.le_refl _) (.cells #[.string z0, .int .i64 z1, .int .i64 z2, .string z3, .int .i64 z4, .int .i64 z5] 26)
          have HA5 := Lib.hid ((HA4.out.below hb).below hal)
          have HB5 := Lib.hid ((HB4.out.trans (hb.mono HB4.out.size)).trans (hal.mono (by have h1 := HB4.out.size; have h2 := hb.size; omega)))
          have hs5 := HS4.out.of (hb.block _ HS4.out.lt)
          have HS5 := Lib.hid (hs5.alloc (.cells #[.string z0, .int .i64 z1, .int .i64 z2, .string z3, .int .i64 z4, .int .i64 z5] 26))
          have b50 : ∀ x, (v5.alloc x).cell? ⟨v3.heap.size, 0, none⟩ = some (.string S0.digest) := fun x => ((hs5.alloc x).cell 0).trans rfl
          have b51 : ∀ x, (v5.alloc x).cell? ⟨v3.heap.size, 1, none⟩ = some (.int .i64 S0.account) := fun x => ((hs5.alloc x).cell 1).trans rfl
          have b52 : ∀ x, (v5.alloc x).cell? ⟨v3.heap.size, 2, none⟩ = some (.int .i64 S0.purpose) := fun x => ((hs5.alloc x).cell 2).trans rfl
          have b53 : ∀ x, (v5.alloc x).cell? ⟨v3.heap.size, 3, none⟩ = some (.string S0.channel) := fun x => ((hs5.alloc x).cell 3).trans rfl
          have b54 : ∀ x, (v5.alloc x).cell? ⟨v3.heap.size, 4, none⟩ = some (.int .i64 S0.expires) := fun x => ((hs5.alloc x).cell 4).trans rfl
          have b55 : ∀ x, (v5.alloc x).cell? ⟨v3.heap.size, 5, none⟩ = some (.int .i64 S0.tries) := fun x => ((hs5.alloc x).cell 5).trans rfl
          clear hb hal hs5 HA4 HB4 HS4
          go_wp2_with fail
          refine (HPUT.out _ (HR.out.next HB5.out).max HA5.out).mono ?_
          rintro e v7 ⟨⟨v, rfl, hv⟩, hb⟩
          obtain ⟨X5, cx5, rfl, hc5, hX5⟩ := hv
          have HX7 := Lib.hid (hX5.mono (T := fun _ => False) (fun _ _ h => h.elim))
          have HC5 := Lib.hid hc5
          have HA7 := Lib.hid (HA5.out.below hb)
          have HB7 := Lib.hid (HB5.out.trans (hb.mono HB5.out.size))
          have hs7 := HS5.out.of (hb.block _ HS5.out.lt)
          have HS7 := Lib.hid hs7
          have b70 : v7.cell? ⟨v3.heap.size, 0, none⟩ = some (.string S0.digest) := (hs7.cell 0).trans rfl
          have b71 : v7.cell? ⟨v3.heap.size, 1, none⟩ = some (.int .i64 S0.account) := (hs7.cell 1).trans rfl
          have b72 : v7.cell? ⟨v3.heap.size, 2, none⟩ = some (.int .i64 S0.purpose) := (hs7.cell 2).trans rfl
          have b73 : v7.cell? ⟨v3.heap.size, 3, none⟩ = some (.string S0.channel) := (hs7.cell 3).trans rfl
          have b74 : v7.cell? ⟨v3.heap.size, 4, none⟩ = some (.int .i64 S0.expires) := (hs7.cell 4).trans rfl
          have b75 : v7.cell? ⟨v3.heap.size, 5, none⟩ = some (.int .i64 S0.tries) := (hs7.cell 5).trans rfl
          clear hb hX5 hc5 hs7 HA5 HB5 HS5 b50 b51 b52 b53 b54 b55
          go_wp2_with fail
          refine (HFD2.out _ _ _ HX7.out).mono ?_
          rintro e v8 ⟨rfl, hb⟩
          have hal := (Below.refl _ v8).alloc (Nat.le_refl _) (.cells #[.string S0.digest, .int .i64 S0.account, .int .i64 S0.purpose, .string S0.channel, .int .i64 S0.expires, .int .i64 S0.tries] 26)
          have HA9 := Lib.hid ((HA7.out.below hb).below hal)
          have HX9 := Lib.hid ((HX7.out.below hb).below hal)
          have HB9 := Lib.hid ((HB7.out.trans (hb.mono HB7.out.size)).trans (hal.mono (by have h1 := HB7.out.size; have h2 := hb.size; omega)))
          have hs8 := HS7.out.of (hb.block _ HS7.out.lt)
          have HS9 := Lib.hid (hs8.alloc (.cells #[.string S0.digest, .int .i64 S0.account, .int .i64 S0.purpose, .string S0.channel, .int .i64 S0.expires, .int .i64 S0.tries] 26))
          have hsm := fun W => sec_same S0 W
          have b80 : ∀ x, (v8.alloc x).cell? ⟨v3.heap.size, 0, none⟩ = some (.string S0.digest) := fun x => ((hs8.alloc x).cell 0).trans rfl
          have b81 : ∀ x, (v8.alloc x).cell? ⟨v3.heap.size, 1, none⟩ = some (.int .i64 S0.account) := fun x => ((hs8.alloc x).cell 1).trans rfl
          have b82 : ∀ x, (v8.alloc x).cell? ⟨v3.heap.size, 2, none⟩ = some (.int .i64 S0.purpose) := fun x => ((hs8.alloc x).cell 2).trans rfl
          have b83 : ∀ x, (v8.alloc x).cell? ⟨v3.heap.size, 3, none⟩ = some (.string S0.channel) := fun x => ((hs8.alloc x).cell 3).trans rfl
          have b84 : ∀ x, (v8.alloc x).cell? ⟨v3.heap.size, 4, none⟩ = some (.int .i64 S0.expires) := fun x => ((hs8.alloc x).cell 4).trans rfl
          have b85 : ∀ x, (v8.alloc x).cell? ⟨v3.heap.size, 5, none⟩ = some (.int .i64 S0.tries) := fun x => ((hs8.alloc x).cell 5).trans rfl
          clear hb hal hs8 HA7 HX7 HB7 HS7 b70 b71 b72 b73 b74 b75
          go_wp2_with fail
          clear b80 b81 b82 b83 b84 b85 hsm
          change Code.wp _ _ _ _ (v8.alloc (.cells #[.string S0.digest, .int .i64 S0.account, .int .i64 S0.purpose, .string S0.channel, .int .i64 S0.expires, .int .i64 S0.tries] 26))
          generalize v8.alloc (.cells #[.string S0.digest, .int .i64 S0.account, .int .i64 S0.purpose, .string S0.channel, .int .i64 S0.expires, .int .i64 S0.tries] 26) = v10 at HA9 HX9 HB9 HS9 ⊢
          generalize v3.heap.size = g6 at HS9 ⊢
          go_loopw [13] (fun kv wr => ∃ k : Nat, kv = .int .i64 (k : Int) ∧ k ≤ L.length ∧ Below v10.heap.size v10 wr) (fun kv _ => L.length - (intOf kv).toNat)
          case atStart => exact ⟨0, rfl, Nat.zero_le _, Below.refl _ _⟩
          case round =>
            obtain ⟨k, rfl, hkn, hbk⟩ := hrel
            have HBK := Lib.hid hbk
            clear hbk
            by_cases hk1 : k < L.length
            · have hki : (k : Int) < (L.length : Int) := by omega
              obtain ⟨a1, hA1, hsx⟩ := lies_sec (HA9.out.below HBK.out) k hk1
              obtain ⟨hk2, hcase⟩ := HAT.out k hk1
              obtain ⟨a2, hA2, hsy⟩ := lies_sec (HX9.out.below HBK.out) k hk2
              subst hA1
              subst hA2
              have hki5 : (k : Int) < (L2.length : Int) := by omega
              have hS1 := HS9.out.of (HBK.out.block _ HS9.out.lt)
              go_upto_region 17 with fail
              obtain ⟨wk, hwk⟩ : ∃ W, wr = W := ⟨_, rfl⟩
              rw [hwk] at hsx hsy hS1 HBK ⊢
              clear hwk
              have HS10 := Lib.hid hS1
              obtain ⟨q1, hq1⟩ : ∃ q, a1.add (k * 6) = q := ⟨_, rfl⟩
              obtain ⟨q2, hq2⟩ : ∃ q, a2.add (k * 6) = q := ⟨_, rfl⟩
              rw [hq1] at hsx
              rw [hq2] at hsy
              have HQ1 := Lib.hid hq1
              have HQ2 := Lib.hid hq2
              clear hq1 hq2 hS1
              obtain ⟨n, hn⟩ : ∃ n, L.length = n := ⟨_, rfl⟩
              obtain ⟨n5, hn5⟩ : ∃ n, L2.length = n := ⟨_, rfl⟩
              simp only [hn, hn5]
              rw [hn] at hki
              rw [hn5] at hki5
              have HN := Lib.hid hn
              have HN5 := Lib.hid hn5
              generalize L2[k] = S2 at hcase hsy
              generalize L[k] = S1 at hcase hsx
              clear hn hn5
              by_cases hsame : S2 = S1
              · subst hsame
                have HSX := Lib.hid hsx
                have HSY := Lib.hid hsy
                have hne := fun W => sec_same S2 W
                clear hsx hsy hcase
                refine wp_region_some (by kernel_rfl) (fun i v _ => Vk17same a2 n5 cx5 a1 n cp k q1 q2 S2 i v) (fun _ _ W => Gc wk W) (fun w w' => Below w.heap.size w w') (by kernel_rfl) (by kernel_rfl) 177 rfl (by kernel_rfl) (fun _ _ _ _ h _ => by exact h) (fun _ => (Below.refl _ _)) (Gc.start wk) ?_ ?_
                · intro i o ho listed x W hs hdep hun hg hk
                  match i, ho with
                  | 0, ho =>
                    cases ho
                    have q4 : x.tmps[4]?.getD undef = .slice (some a1) n cp := hk.fix 4 (by kernel_rfl)
                    refine .inl ⟨wanted_plain rfl, ?_⟩
                    refine wp_value (v := .slice (some a1) n cp) (w' := W) ?_ ⟨_, rfl, rfl, (Below.refl _ _), hg⟩
                    go_simp
                  | 1, ho =>
                    cases ho
                    have q13 : x.tmps[13]?.getD undef = .int .i64 (k : Int) := hk.fix 13 (by kernel_rfl)
                    refine .inl ⟨wanted_plain rfl, ?_⟩
                    refine wp_value (v := .int .i64 (k : Int)) (w' := W) ?_ ⟨_, rfl, rfl, (Below.refl _ _), hg⟩
                    go_simp
                  | 2, ho =>
                    cases ho
                    have q97 : x.tmps[97]?.getD undef = .slice (some a1) n cp := hk.dep 0 97 (by kernel_rfl) (by kernel_rfl)
                    have q98 : x.tmps[98]?.getD undef = .int .i64 (k : Int) := hk.dep 1 98 (by kernel_rfl) (by kernel_rfl)
                    refine .inl ⟨wanted_plain rfl, ?_⟩
                    have hq := HQ1.out
                    refine wp_value (v := .pointer (some q1)) (w' := W) ?_ ⟨_, rfl, rfl, (Below.refl _ _), hg⟩
                    go_simp
                  | 3, ho =>
                    cases ho
                    have q99 : x.tmps[99]?.getD undef = .pointer (some q1) := hk.dep 2 99 (by kernel_rfl) (by kernel_rfl)
                    refine .inl ⟨wanted_plain rfl, ?_⟩
                    obtain ⟨c0, c1, c2, c3, c4, c5, _⟩ := HSX.out.below hg.below
                    refine wp_value (v := .agg #[.string S2.digest, .int .i64 S2.account, .int .i64 S2.purpose, .string S2.channel, .int .i64 S2.expires, .int .i64 S2.tries]) (w' := W) ?_ ⟨_, rfl, rfl, (Below.refl _ _), hg⟩
                    go_simp
                  | 4, ho =>
                    cases ho
                    have q9 : x.tmps[9]?.getD undef = .slice (some a2) n5 cx5 := hk.fix 9 (by kernel_rfl)
                    refine .inl ⟨wanted_plain rfl, ?_⟩
                    refine wp_value (v := .slice (some a2) n5 cx5) (w' := W) ?_ ⟨_, rfl, rfl, (Below.refl _ _), hg⟩
                    go_simp
                  | 5, ho =>
                    cases ho
                    have q13 : x.tmps[13]?.getD undef = .int .i64 (k : Int) := hk.fix 13 (by kernel_rfl)
                    refine .inl ⟨wanted_plain rfl, ?_⟩
                    refine wp_value (v := .int .i64 (k : Int)) (w' := W) ?_ ⟨_, rfl, rfl, (Below.refl _ _), hg⟩
                    go_simp
                  | 6, ho =>
                    cases ho
                    have q101 : x.tmps[101]?.getD undef = .slice (some a2) n5 cx5 := hk.dep 4 101 (by kernel_rfl) (by kernel_rfl)
                    have q102 : x.tmps[102]?.getD undef = .int .i64 (k : Int) := hk.dep 5 102 (by kernel_rfl) (by kernel_rfl)
                    refine .inl ⟨wanted_plain rfl, ?_⟩
                    have hq := HQ2.out
                    refine wp_value (v := .pointer (some q2)) (w' := W) ?_ ⟨_, rfl, rfl, (Below.refl _ _), hg⟩
                    go_simp
                  | 7, ho =>
                    cases ho
                    have q103 : x.tmps[103]?.getD undef = .pointer (some q2) := hk.dep 6 103 (by kernel_rfl) (by kernel_rfl)
                    refine .inl ⟨wanted_plain rfl, ?_⟩
                    obtain ⟨c0, c1, c2, c3, c4, c5, _⟩ := HSY.out.below hg.below
                    refine wp_value (v := .agg #[.string S2.digest, .int .i64 S2.account, .int .i64 S2.purpose, .string S2.channel, .int .i64 S2.expires, .int .i64 S2.tries]) (w' := W) ?_ ⟨_, rfl, rfl, (Below.refl _ _), hg⟩
                    go_simp
                  | 8, ho =>
                    cases ho
                    have q100 : x.tmps[100]?.getD undef = .agg #[.string S2.digest, .int .i64 S2.account, .int .i64 S2.purpose, .string S2.channel, .int .i64 S2.expires, .int .i64 S2.tries] := hk.dep 3 100 (by kernel_rfl) (by kernel_rfl)
                    have q104 : x.tmps[104]?.getD undef = .agg #[.string S2.digest, .int .i64 S2.account, .int .i64 S2.purpose, .string S2.channel, .int .i64 S2.expires, .int .i64 S2.tries] := hk.dep 7 104 (by kernel_rfl) (by kernel_rfl)
                    refine .inl ⟨wanted_plain rfl, ?_⟩
                    refine wp_value (v := .bool false) (w' := W) ?_ ⟨_, rfl, rfl, (Below.refl _ _), hg⟩
                    go_simp
                  | 9, ho =>
                    cases ho
                    have q105 : x.tmps[105]?.getD undef = .bool false := hk.dep 8 105 (by kernel_rfl) (by kernel_rfl)
                    refine .inl ⟨wanted_plain rfl, ?_⟩
                    refine wp_value (v := .bool false) (w' := W) ?_ ⟨_, rfl, rfl, (Below.refl _ _), hg⟩
                    go_simp
                  | 10, ho =>
                    cases ho
                    refine .inr ⟨wanted_no (g := 9) (d := 106) (c := false) (by rfl) (by kernel_rfl) (show x.tmps[106]?.getD undef = .bool false from hk.dep 9 106 (by kernel_rfl) (by kernel_rfl)) (by decide), rfl, hg⟩
                  | 11, ho =>
                    cases ho
                    refine .inr ⟨wanted_no (g := 9) (d := 106) (c := false) (by rfl) (by kernel_rfl) (show x.tmps[106]?.getD undef = .bool false from hk.dep 9 106 (by kernel_rfl) (by kernel_rfl)) (by decide), rfl, hg⟩
                  | 12, ho =>
                    cases ho
                    refine .inr ⟨wanted_no (g := 9) (d := 106) (c := false) (by rfl) (by kernel_rfl) (show x.tmps[106]?.getD undef = .bool false from hk.dep 9 106 (by kernel_rfl) (by kernel_rfl)) (by decide), rfl, hg⟩
                  | 13, ho =>
                    cases ho
                    refine .inr ⟨wanted_no (g := 9) (d := 106) (c := false) (by rfl) (by kernel_rfl) (show x.tmps[106]?.getD undef = .bool false from hk.dep 9 106 (by kernel_rfl) (by kernel_rfl)) (by decide), rfl, hg⟩
                  | 14, ho =>
                    cases ho
                    refine .inr ⟨wanted_no (g := 9) (d := 106) (c := false) (by rfl) (by kernel_rfl) (show x.tmps[106]?.getD undef = .bool false from hk.dep 9 106 (by kernel_rfl) (by kernel_rfl)) (by decide), rfl, hg⟩
                  | 15, ho =>
                    cases ho
                    refine .inr ⟨wanted_no (g := 9) (d := 106) (c := false) (by rfl) (by kernel_rfl) (show x.tmps[106]?.getD undef = .bool false from hk.dep 9 106 (by kernel_rfl) (by kernel_rfl)) (by decide), rfl, hg⟩
                  | 16, ho =>
                    cases ho
                    refine .inr ⟨wanted_no (g := 9) (d := 106) (c := false) (by rfl) (by kernel_rfl) (show x.tmps[106]?.getD undef = .bool false from hk.dep 9 106 (by kernel_rfl) (by kernel_rfl)) (by decide), rfl, hg⟩
                  | 17, ho =>
                    cases ho
                    refine .inr ⟨wanted_no (g := 9) (d := 106) (c := false) (by rfl) (by kernel_rfl) (show x.tmps[106]?.getD undef = .bool false from hk.dep 9 106 (by kernel_rfl) (by kernel_rfl)) (by decide), rfl, hg⟩
                  | 18, ho =>
                    cases ho
                    refine .inr ⟨wanted_no (g := 9) (d := 106) (c := false) (by rfl) (by kernel_rfl) (show x.tmps[106]?.getD undef = .bool false from hk.dep 9 106 (by kernel_rfl) (by kernel_rfl)) (by decide), rfl, hg⟩
                  | 19, ho =>
                    cases ho
                    refine .inr ⟨wanted_no_undef (g := 18) (d := 115) (by rfl) (by kernel_rfl) (show x.tmps[115]?.getD undef = undef from hk.dep 18 115 (by kernel_rfl) (by kernel_rfl)), rfl, hg⟩
                  | 20, ho =>
                    cases ho
                    refine .inr ⟨wanted_no_undef (g := 18) (d := 115) (by rfl) (by kernel_rfl) (show x.tmps[115]?.getD undef = undef from hk.dep 18 115 (by kernel_rfl) (by kernel_rfl)), rfl, hg⟩
                  | 21, ho =>
                    cases ho
                    refine .inr ⟨wanted_no_undef (g := 18) (d := 115) (by rfl) (by kernel_rfl) (show x.tmps[115]?.getD undef = undef from hk.dep 18 115 (by kernel_rfl) (by kernel_rfl)), rfl, hg⟩
                  | 22, ho =>
                    cases ho
                    refine .inr ⟨wanted_no_undef (g := 18) (d := 115) (by rfl) (by kernel_rfl) (show x.tmps[115]?.getD undef = undef from hk.dep 18 115 (by kernel_rfl) (by kernel_rfl)), rfl, hg⟩
                  | 23, ho =>
                    cases ho
                    refine .inr ⟨wanted_no_undef (g := 18) (d := 115) (by rfl) (by kernel_rfl) (show x.tmps[115]?.getD undef = undef from hk.dep 18 115 (by kernel_rfl) (by kernel_rfl)), rfl, hg⟩
                  | 24, ho =>
                    cases ho
                    refine .inr ⟨wanted_no_undef (g := 18) (d := 115) (by rfl) (by kernel_rfl) (show x.tmps[115]?.getD undef = undef from hk.dep 18 115 (by kernel_rfl) (by kernel_rfl)), rfl, hg⟩
                  | 25, ho =>
                    cases ho
                    refine .inr ⟨wanted_no_undef (g := 18) (d := 115) (by rfl) (by kernel_rfl) (show x.tmps[115]?.getD undef = undef from hk.dep 18 115 (by kernel_rfl) (by kernel_rfl)), rfl, hg⟩
                  | 26, ho =>
                    cases ho
                    refine .inr ⟨wanted_no_undef (g := 18) (d := 115) (by rfl) (by kernel_rfl) (show x.tmps[115]?.getD undef = undef from hk.dep 18 115 (by kernel_rfl) (by kernel_rfl)), rfl, hg⟩
                  | 27, ho =>
                    cases ho
                    refine .inr ⟨wanted_no (g := 9) (d := 106) (c := false) (by rfl) (by kernel_rfl) (show x.tmps[106]?.getD undef = .bool false from hk.dep 9 106 (by kernel_rfl) (by kernel_rfl)) (by decide), rfl, hg⟩
                  | 28, ho =>
                    cases ho
                    refine .inr ⟨wanted_no (g := 9) (d := 106) (c := false) (by rfl) (by kernel_rfl) (show x.tmps[106]?.getD undef = .bool false from hk.dep 9 106 (by kernel_rfl) (by kernel_rfl)) (by decide), rfl, hg⟩
                  | 29, ho =>
                    cases ho
                    refine .inr ⟨wanted_no_undef (g := 28) (d := 125) (by rfl) (by kernel_rfl) (show x.tmps[125]?.getD undef = undef from hk.dep 28 125 (by kernel_rfl) (by kernel_rfl)), rfl, hg⟩
                  | 30, ho =>
                    cases ho
                    refine .inr ⟨wanted_no_undef (g := 28) (d := 125) (by rfl) (by kernel_rfl) (show x.tmps[125]?.getD undef = undef from hk.dep 28 125 (by kernel_rfl) (by kernel_rfl)), rfl, hg⟩
                  | 31, ho =>
                    cases ho
                    refine .inr ⟨wanted_no_undef (g := 28) (d := 125) (by rfl) (by kernel_rfl) (show x.tmps[125]?.getD undef = undef from hk.dep 28 125 (by kernel_rfl) (by kernel_rfl)), rfl, hg⟩
                  | 32, ho =>
                    cases ho
                    refine .inr ⟨wanted_no_undef (g := 28) (d := 125) (by rfl) (by kernel_rfl) (show x.tmps[125]?.getD undef = undef from hk.dep 28 125 (by kernel_rfl) (by kernel_rfl)), rfl, hg⟩
                  | 33, ho =>
                    cases ho
                    refine .inr ⟨wanted_no_undef (g := 28) (d := 125) (by rfl) (by kernel_rfl) (show x.tmps[125]?.getD undef = undef from hk.dep 28 125 (by kernel_rfl) (by kernel_rfl)), rfl, hg⟩
                  | 34, ho =>
                    cases ho
                    refine .inr ⟨wanted_no_undef (g := 28) (d := 125) (by rfl) (by kernel_rfl) (show x.tmps[125]?.getD undef = undef from hk.dep 28 125 (by kernel_rfl) (by kernel_rfl)), rfl, hg⟩
                  | 35, ho =>
                    cases ho
                    refine .inr ⟨wanted_no_undef (g := 28) (d := 125) (by rfl) (by kernel_rfl) (show x.tmps[125]?.getD undef = undef from hk.dep 28 125 (by kernel_rfl) (by kernel_rfl)), rfl, hg⟩
                  | 36, ho =>
                    cases ho
                    refine .inr ⟨wanted_no_undef (g := 28) (d := 125) (by rfl) (by kernel_rfl) (show x.tmps[125]?.getD undef = undef from hk.dep 28 125 (by kernel_rfl) (by kernel_rfl)), rfl, hg⟩
                  | 37, ho =>
                    cases ho
                    refine .inr ⟨wanted_no (g := 9) (d := 106) (c := false) (by rfl) (by kernel_rfl) (show x.tmps[106]?.getD undef = .bool false from hk.dep 9 106 (by kernel_rfl) (by kernel_rfl)) (by decide), rfl, hg⟩
                  | 38, ho =>
                    cases ho
                    have q106 : x.tmps[106]?.getD undef = .bool false := hk.dep 9 106 (by kernel_rfl) (by kernel_rfl)
                    have q134 : x.tmps[134]?.getD undef = undef := hk.dep 37 134 (by kernel_rfl) (by kernel_rfl)
                    refine .inl ⟨wanted_plain rfl, ?_⟩
                    refine wp_value (v := .bool false) (w' := W) ?_ ⟨_, rfl, rfl, (Below.refl _ _), hg⟩
                    go_simp
                  | _ + 39, ho => cases ho
                intro listed x w11 hall hg hk
                have e97 : x.tmps[97]?.getD undef = .slice (some a1) n cp := hk.last 0 97 (by decide) (by kernel_rfl)
                have e98 : x.tmps[98]?.getD undef = .int .i64 (k : Int) := hk.last 1 98 (by decide) (by kernel_rfl)
                have e99 : x.tmps[99]?.getD undef = .pointer (some q1) := hk.last 2 99 (by decide) (by kernel_rfl)
                have e100 : x.tmps[100]?.getD undef = .agg #[.string S2.digest, .int .i64 S2.account, .int .i64 S2.purpose, .string S2.channel, .int .i64 S2.expires, .int .i64 S2.tries] := hk.last 3 100 (by decide) (by kernel_rfl)
                have e101 : x.tmps[101]?.getD undef = .slice (some a2) n5 cx5 := hk.last 4 101 (by decide) (by kernel_rfl)
                have e102 : x.tmps[102]?.getD undef = .int .i64 (k : Int) := hk.last 5 102 (by decide) (by kernel_rfl)
                have e103 : x.tmps[103]?.getD undef = .pointer (some q2) := hk.last 6 103 (by decide) (by kernel_rfl)
                have e104 : x.tmps[104]?.getD undef = .agg #[.string S2.digest, .int .i64 S2.account, .int .i64 S2.purpose, .string S2.channel, .int .i64 S2.expires, .int .i64 S2.tries] := hk.last 7 104 (by decide) (by kernel_rfl)
                have e105 : x.tmps[105]?.getD undef = .bool false := hk.last 8 105 (by decide) (by kernel_rfl)
                have e106 : x.tmps[106]?.getD undef = .bool false := hk.last 9 106 (by decide) (by kernel_rfl)
                have e107 : x.tmps[107]?.getD undef = undef := hk.last 10 107 (by decide) (by kernel_rfl)
                have e108 : x.tmps[108]?.getD undef = undef := hk.last 11 108 (by decide) (by kernel_rfl)
                have e109 : x.tmps[109]?.getD undef = undef := hk.last 12 109 (by decide) (by kernel_rfl)
                have e110 : x.tmps[110]?.getD undef = undef := hk.last 13 110 (by decide) (by kernel_rfl)
                have e111 : x.tmps[111]?.getD undef = undef := hk.last 14 111 (by decide) (by kernel_rfl)
                have e112 : x.tmps[112]?.getD undef = undef := hk.last 15 112 (by decide) (by kernel_rfl)
                have e113 : x.tmps[113]?.getD undef = undef := hk.last 16 113 (by decide) (by kernel_rfl)
                have e114 : x.tmps[114]?.getD undef = undef := hk.last 17 114 (by decide) (by kernel_rfl)
                have e115 : x.tmps[115]?.getD undef = undef := hk.last 18 115 (by decide) (by kernel_rfl)
                have e116 : x.tmps[116]?.getD undef = undef := hk.last 19 116 (by decide) (by kernel_rfl)
                have e117 : x.tmps[117]?.getD undef = undef := hk.last 20 117 (by decide) (by kernel_rfl)
                have e118 : x.tmps[118]?.getD undef = undef := hk.last 21 118 (by decide) (by kernel_rfl)
                have e119 : x.tmps[119]?.getD undef = undef := hk.last 22 119 (by decide) (by kernel_rfl)
                have e120 : x.tmps[120]?.getD undef = undef := hk.last 23 120 (by decide) (by kernel_rfl)
                have e121 : x.tmps[121]?.getD undef = undef := hk.last 24 121 (by decide) (by kernel_rfl)
                have e122 : x.tmps[122]?.getD undef = undef := hk.last 25 122 (by decide) (by kernel_rfl)
                have e123 : x.tmps[123]?.getD undef = undef := hk.last 26 123 (by decide) (by kernel_rfl)
                have e124 : x.tmps[124]?.getD undef = undef := hk.last 27 124 (by decide) (by kernel_rfl)
                have e125 : x.tmps[125]?.getD undef = undef := hk.last 28 125 (by decide) (by kernel_rfl)
                have e126 : x.tmps[126]?.getD undef = undef := hk.last 29 126 (by decide) (by kernel_rfl)
                have e127 : x.tmps[127]?.getD undef = undef := hk.last 30 127 (by decide) (by kernel_rfl)
                have e128 : x.tmps[128]?.getD undef = undef := hk.last 31 128 (by decide) (by kernel_rfl)
                have e129 : x.tmps[129]?.getD undef = undef := hk.last 32 129 (by decide) (by kernel_rfl)
                have e130 : x.tmps[130]?.getD undef = undef := hk.last 33 130 (by decide) (by kernel_rfl)
                have e131 : x.tmps[131]?.getD undef = undef := hk.last 34 131 (by decide) (by kernel_rfl)
                have e132 : x.tmps[132]?.getD undef = undef := hk.last 35 132 (by decide) (by kernel_rfl)
                have e133 : x.tmps[133]?.getD undef = undef := hk.last 36 133 (by decide) (by kernel_rfl)
                have e134 : x.tmps[134]?.getD undef = undef := hk.last 37 134 (by decide) (by kernel_rfl)
                have e135 : x.tmps[135]?.getD undef = .bool false := hk.last 38 135 (by decide) (by kernel_rfl)
                have hB := Lib.hid hg.below
                have hx := hk.act [97, 98, 99, 100, 101, 102, 103, 104, 105, 106, 107, 108, 109, 110, 111, 112, 113, 114, 115, 116, 117, 118, 119, 120, 121, 122, 123, 124, 125, 126, 127, 128, 129, 130, 131, 132, 133, 134, 135] (by kernel_rfl)
                clear hk hg hall
                simp only [List.foldl_cons, List.foldl_nil, e97, e98, e99, e100, e101, e102, e103, e104, e105, e106, e107, e108, e109, e110, e111, e112, e113, e114, e115, e116, e117, e118, e119, e120, e121, e122, e123, e124, e125, e126, e127, e128, e129, e130, e131, e132, e133, e134, e135] at hx
                clear e97 e98 e99 e100 e101 e102 e103 e104 e105 e106 e107 e108 e109 e110 e111 e112 e113 e114 e115 e116 e117 e118 e119 e120 e121 e122 e123 e124 e125 e126 e127 e128 e129 e130 e131 e132 e133 e134 e135
                subst hx
                simp only [Act.put, List.setIfInBounds_toArray, List.set_cons_succ, List.set_cons_zero]
                go_wp2_with fail
                have hn := HN.out
                have hn5 := HN5.out
                subst hn
                subst hn5
                go_roundw
                case rel => exact ⟨k + 1, by go_num, by omega, HBK.out.trans (hB.out.mono HBK.out.size)⟩
                case measure => simp [intOf]; omega
              · have hkey := hcase.resolve_left hsame
                obtain ⟨xd, xa, xp, xc, xe, xt⟩ := S1
                injection hkey with e1 hkey
                injection hkey with e2 e3
                subst e1 e2 e3
                have HSX := Lib.hid hsx
                have HSY := Lib.hid hsy
                have hne := fun W => sec_diff ⟨xd, S0.account, S0.purpose, S0.channel, xe, xt⟩ S2 (fun e => hsame e.symm) W
                simp only at hne
                clear hsx hsy hcase hsame
                refine wp_region_some (by kernel_rfl) (fun i v _ => Vk17diff a2 n5 cx5 a1 n cp k g6 q1 q2 S0 S2 xd xe xt i v) (fun _ _ W => Gc wk W) (fun w w' => Below w.heap.size w w') (by kernel_rfl) (by kernel_rfl) 177 rfl (by kernel_rfl) (fun _ _ _ _ h _ => by exact h) (fun _ => (Below.refl _ _)) (Gc.start wk) ?_ ?_
                · intro i o ho listed x W hs hdep hun hg hk
                  match i, ho with
                  | 0, ho =>
                    cases ho
                    have q4 : x.tmps[4]?.getD undef = .slice (some a1) n cp := hk.fix 4 (by kernel_rfl)
                    refine .inl ⟨wanted_plain rfl, ?_⟩
                    refine wp_value (v := .slice (some a1) n cp) (w' := W) ?_ ⟨_, rfl, rfl, (Below.refl _ _), hg⟩
                    go_simp
                  | 1, ho =>
                    cases ho
                    have q13 : x.tmps[13]?.getD undef = .int .i64 (k : Int) := hk.fix 13 (by kernel_rfl)
                    refine .inl ⟨wanted_plain rfl, ?_⟩
                    refine wp_value (v := .int .i64 (k : Int)) (w' := W) ?_ ⟨_, rfl, rfl, (Below.refl _ _), hg⟩
                    go_simp
                  | 2, ho =>
                    cases ho
                    have q97 : x.tmps[97]?.getD undef = .slice (some a1) n cp := hk.dep 0 97 (by kernel_rfl) (by kernel_rfl)
                    have q98 : x.tmps[98]?.getD undef = .int .i64 (k : Int) := hk.dep 1 98 (by kernel_rfl) (by kernel_rfl)
                    refine .inl ⟨wanted_plain rfl, ?_⟩
                    have hq := HQ1.out
                    refine wp_value (v := .pointer (some q1)) (w' := W) ?_ ⟨_, rfl, rfl, (Below.refl _ _), hg⟩
                    go_simp
                  | 3, ho =>
                    cases ho
                    have q99 : x.tmps[99]?.getD undef = .pointer (some q1) := hk.dep 2 99 (by kernel_rfl) (by kernel_rfl)
                    refine .inl ⟨wanted_plain rfl, ?_⟩
                    obtain ⟨c0, c1, c2, c3, c4, c5, _⟩ := HSX.out.below hg.below
                    refine wp_value (v := .agg #[.string xd, .int .i64 S0.account, .int .i64 S0.purpose, .string S0.channel, .int .i64 xe, .int .i64 xt]) (w' := W) ?_ ⟨_, rfl, rfl, (Below.refl _ _), hg⟩
                    go_simp
                  | 4, ho =>
                    cases ho
                    have q9 : x.tmps[9]?.getD undef = .slice (some a2) n5 cx5 := hk.fix 9 (by kernel_rfl)
                    refine .inl ⟨wanted_plain rfl, ?_⟩
                    refine wp_value (v := .slice (some a2) n5 cx5) (w' := W) ?_ ⟨_, rfl, rfl, (Below.refl _ _), hg⟩
                    go_simp
                  | 5, ho =>
                    cases ho
                    have q13 : x.tmps[13]?.getD undef = .int .i64 (k : Int) := hk.fix 13 (by kernel_rfl)
                    refine .inl ⟨wanted_plain rfl, ?_⟩
                    refine wp_value (v := .int .i64 (k : Int)) (w' := W) ?_ ⟨_, rfl, rfl, (Below.refl _ _), hg⟩
                    go_simp
                  | 6, ho =>
                    cases ho
                    have q101 : x.tmps[101]?.getD undef = .slice (some a2) n5 cx5 := hk.dep 4 101 (by kernel_rfl) (by kernel_rfl)
                    have q102 : x.tmps[102]?.getD undef = .int .i64 (k : Int) := hk.dep 5 102 (by kernel_rfl) (by kernel_rfl)
                    refine .inl ⟨wanted_plain rfl, ?_⟩
                    have hq := HQ2.out
                    refine wp_value (v := .pointer (some q2)) (w' := W) ?_ ⟨_, rfl, rfl, (Below.refl _ _), hg⟩
                    go_simp
                  | 7, ho =>
                    cases ho
                    have q103 : x.tmps[103]?.getD undef = .pointer (some q2) := hk.dep 6 103 (by kernel_rfl) (by kernel_rfl)
                    refine .inl ⟨wanted_plain rfl, ?_⟩
                    obtain ⟨c0, c1, c2, c3, c4, c5, _⟩ := HSY.out.below hg.below
                    refine wp_value (v := .agg #[.string S2.digest, .int .i64 S2.account, .int .i64 S2.purpose, .string S2.channel, .int .i64 S2.expires, .int .i64 S2.tries]) (w' := W) ?_ ⟨_, rfl, rfl, (Below.refl _ _), hg⟩
                    go_simp
                  | 8, ho =>
                    cases ho
                    have q100 : x.tmps[100]?.getD undef = .agg #[.string xd, .int .i64 S0.account, .int .i64 S0.purpose, .string S0.channel, .int .i64 xe, .int .i64 xt] := hk.dep 3 100 (by kernel_rfl) (by kernel_rfl)
                    have q104 : x.tmps[104]?.getD undef = .agg #[.string S2.digest, .int .i64 S2.account, .int .i64 S2.purpose, .string S2.channel, .int .i64 S2.expires, .int .i64 S2.tries] := hk.dep 7 104 (by kernel_rfl) (by kernel_rfl)
                    refine .inl ⟨wanted_plain rfl, ?_⟩
                    refine wp_value (v := .bool true) (w' := W) ?_ ⟨_, rfl, rfl, (Below.refl _ _), hg⟩
                    go_simp
                  | 9, ho =>
                    cases ho
                    have q105 : x.tmps[105]?.getD undef = .bool true := hk.dep 8 105 (by kernel_rfl) (by kernel_rfl)
                    refine .inl ⟨wanted_plain rfl, ?_⟩
                    refine wp_value (v := .bool true) (w' := W) ?_ ⟨_, rfl, rfl, (Below.refl _ _), hg⟩
                    go_simp
                  | 10, ho =>
                    cases ho
                    have q4 : x.tmps[4]?.getD undef = .slice (some a1) n cp := hk.fix 4 (by kernel_rfl)
                    refine .inl ⟨wanted_guard (g := 9) (d := 106) (by rfl) (by kernel_rfl) (show x.tmps[106]?.getD undef = .bool true from hk.dep 9 106 (by kernel_rfl) (by kernel_rfl)), ?_⟩
                    refine wp_value (v := .slice (some a1) n cp) (w' := W) ?_ ⟨_, rfl, rfl, (Below.refl _ _), hg⟩
                    go_simp
                  | 11, ho =>
                    cases ho
                    have q13 : x.tmps[13]?.getD undef = .int .i64 (k : Int) := hk.fix 13 (by kernel_rfl)
                    refine .inl ⟨wanted_guard (g := 9) (d := 106) (by rfl) (by kernel_rfl) (show x.tmps[106]?.getD undef = .bool true from hk.dep 9 106 (by kernel_rfl) (by kernel_rfl)), ?_⟩
                    refine wp_value (v := .int .i64 (k : Int)) (w' := W) ?_ ⟨_, rfl, rfl, (Below.refl _ _), hg⟩
                    go_simp
                  | 12, ho =>
                    cases ho
                    have q107 : x.tmps[107]?.getD undef = .slice (some a1) n cp := hk.dep 10 107 (by kernel_rfl) (by kernel_rfl)
                    have q108 : x.tmps[108]?.getD undef = .int .i64 (k : Int) := hk.dep 11 108 (by kernel_rfl) (by kernel_rfl)
                    refine .inl ⟨wanted_guard (g := 9) (d := 106) (by rfl) (by kernel_rfl) (show x.tmps[106]?.getD undef = .bool true from hk.dep 9 106 (by kernel_rfl) (by kernel_rfl)), ?_⟩
                    have hq := HQ1.out
                    refine wp_value (v := .pointer (some q1)) (w' := W) ?_ ⟨_, rfl, rfl, (Below.refl _ _), hg⟩
                    go_simp
                  | 13, ho =>
                    cases ho
                    have q109 : x.tmps[109]?.getD undef = .pointer (some q1) := hk.dep 12 109 (by kernel_rfl) (by kernel_rfl)
                    refine .inl ⟨wanted_guard (g := 9) (d := 106) (by rfl) (by kernel_rfl) (show x.tmps[106]?.getD undef = .bool true from hk.dep 9 106 (by kernel_rfl) (by kernel_rfl)), ?_⟩
                    refine wp_value (v := .pointer (some ⟨q1.block, q1.off + 1, none⟩)) (w' := W) ?_ ⟨_, rfl, rfl, (Below.refl _ _), hg⟩
                    go_simp
                  | 14, ho =>
                    cases ho
                    have q110 : x.tmps[110]?.getD undef = .pointer (some ⟨q1.block, q1.off + 1, none⟩) := hk.dep 13 110 (by kernel_rfl) (by kernel_rfl)
                    refine .inl ⟨wanted_guard (g := 9) (d := 106) (by rfl) (by kernel_rfl) (show x.tmps[106]?.getD undef = .bool true from hk.dep 9 106 (by kernel_rfl) (by kernel_rfl)), ?_⟩
                    obtain ⟨c0, c1, c2, c3, c4, c5, _⟩ := HSX.out.below hg.below
                    refine wp_value (v := .int .i64 S0.account) (w' := W) ?_ ⟨_, rfl, rfl, (Below.refl _ _), hg⟩
                    go_simp
                  | 15, ho =>
                    cases ho
                    have q6 : x.tmps[6]?.getD undef = .pointer (some ⟨g6, 0, none⟩) := hk.fix 6 (by kernel_rfl)
                    refine .inl ⟨wanted_guard (g := 9) (d := 106) (by rfl) (by kernel_rfl) (show x.tmps[106]?.getD undef = .bool true from hk.dep 9 106 (by kernel_rfl) (by kernel_rfl)), ?_⟩
                    refine wp_value (v := .pointer (some ⟨g6, 1, none⟩)) (w' := W) ?_ ⟨_, rfl, rfl, (Below.refl _ _), hg⟩
                    go_simp
                  | 16, ho =>
                    cases ho
                    have q112 : x.tmps[112]?.getD undef = .pointer (some ⟨g6, 1, none⟩) := hk.dep 15 112 (by kernel_rfl) (by kernel_rfl)
                    refine .inl ⟨wanted_guard (g := 9) (d := 106) (by rfl) (by kernel_rfl) (show x.tmps[106]?.getD undef = .bool true from hk.dep 9 106 (by kernel_rfl) (by kernel_rfl)), ?_⟩
                    have cf : W.cell? ⟨g6, 1, none⟩ = some (.int .i64 S0.account) := ((HS10.out.of (hg.below.block _ HS10.out.lt)).cell 1).trans rfl
                    refine wp_value (v := .int .i64 S0.account) (w' := W) ?_ ⟨_, rfl, rfl, (Below.refl _ _), hg⟩
                    go_simp
                  | 17, ho =>
                    cases ho
                    have q111 : x.tmps[111]?.getD undef = .int .i64 S0.account := hk.dep 14 111 (by kernel_rfl) (by kernel_rfl)
                    have q113 : x.tmps[113]?.getD undef = .int .i64 S0.account := hk.dep 16 113 (by kernel_rfl) (by kernel_rfl)
                    refine .inl ⟨wanted_guard (g := 9) (d := 106) (by rfl) (by kernel_rfl) (show x.tmps[106]?.getD undef = .bool true from hk.dep 9 106 (by kernel_rfl) (by kernel_rfl)), ?_⟩
                    refine wp_value (v := .bool false) (w' := W) ?_ ⟨_, rfl, rfl, (Below.refl _ _), hg⟩
                    go_simp
                  | 18, ho =>
                    cases ho
                    have q114 : x.tmps[114]?.getD undef = .bool false := hk.dep 17 114 (by kernel_rfl) (by kernel_rfl)
                    refine .inl ⟨wanted_guard (g := 9) (d := 106) (by rfl) (by kernel_rfl) (show x.tmps[106]?.getD undef = .bool true from hk.dep 9 106 (by kernel_rfl) (by kernel_rfl)), ?_⟩
                    refine wp_value (v := .bool false) (w' := W) ?_ ⟨_, rfl, rfl, (Below.refl _ _), hg⟩
                    go_simp
                  | 19, ho =>
                    cases ho
                    have q4 : x.tmps[4]?.getD undef = .slice (some a1) n cp := hk.fix 4 (by kernel_rfl)
                    refine .inl ⟨wanted_guard (g := 18) (d := 115) (by rfl) (by kernel_rfl) (show x.tmps[115]?.getD undef = .bool false from hk.dep 18 115 (by kernel_rfl) (by kernel_rfl)), ?_⟩
                    refine wp_value (v := .slice (some a1) n cp) (w' := W) ?_ ⟨_, rfl, rfl, (Below.refl _ _), hg⟩
                    go_simp
                  | 20, ho =>
                    cases ho
                    have q13 : x.tmps[13]?.getD undef = .int .i64 (k : Int) := hk.fix 13 (by kernel_rfl)
                    refine .inl ⟨wanted_guard (g := 18) (d := 115) (by rfl) (by kernel_rfl) (show x.tmps[115]?.getD undef = .bool false from hk.dep 18 115 (by kernel_rfl) (by kernel_rfl)), ?_⟩
                    refine wp_value (v := .int .i64 (k : Int)) (w' := W) ?_ ⟨_, rfl, rfl, (Below.refl _ _), hg⟩
                    go_simp
                  | 21, ho =>
                    cases ho
                    have q116 : x.tmps[116]?.getD undef = .slice (some a1) n cp := hk.dep 19 116 (by kernel_rfl) (by kernel_rfl)
                    have q117 : x.tmps[117]?.getD undef = .int .i64 (k : Int) := hk.dep 20 117 (by kernel_rfl) (by kernel_rfl)
                    refine .inl ⟨wanted_guard (g := 18) (d := 115) (by rfl) (by kernel_rfl) (show x.tmps[115]?.getD undef = .bool false from hk.dep 18 115 (by kernel_rfl) (by kernel_rfl)), ?_⟩
                    have hq := HQ1.out
                    refine wp_value (v := .pointer (some q1)) (w' := W) ?_ ⟨_, rfl, rfl, (Below.refl _ _), hg⟩
                    go_simp
                  | 22, ho =>
                    cases ho
                    have q118 : x.tmps[118]?.getD undef = .pointer (some q1) := hk.dep 21 118 (by kernel_rfl) (by kernel_rfl)
                    refine .inl ⟨wanted_guard (g := 18) (d := 115) (by rfl) (by kernel_rfl) (show x.tmps[115]?.getD undef = .bool false from hk.dep 18 115 (by kernel_rfl) (by kernel_rfl)), ?_⟩
                    refine wp_value (v := .pointer (some ⟨q1.block, q1.off + 2, none⟩)) (w' := W) ?_ ⟨_, rfl, rfl, (Below.refl _ _), hg⟩
                    go_simp
                  | 23, ho =>
                    cases ho
                    have q119 : x.tmps[119]?.getD undef = .pointer (some ⟨q1.block, q1.off + 2, none⟩) := hk.dep 22 119 (by kernel_rfl) (by kernel_rfl)
                    refine .inl ⟨wanted_guard (g := 18) (d := 115) (by rfl) (by kernel_rfl) (show x.tmps[115]?.getD undef = .bool false from hk.dep 18 115 (by kernel_rfl) (by kernel_rfl)), ?_⟩
                    obtain ⟨c0, c1, c2, c3, c4, c5, _⟩ := HSX.out.below hg.below
                    refine wp_value (v := .int .i64 S0.purpose) (w' := W) ?_ ⟨_, rfl, rfl, (Below.refl _ _), hg⟩
                    go_simp
                  | 24, ho =>
                    cases ho
                    have q6 : x.tmps[6]?.getD undef = .pointer (some ⟨g6, 0, none⟩) := hk.fix 6 (by kernel_rfl)
                    refine .inl ⟨wanted_guard (g := 18) (d := 115) (by rfl) (by kernel_rfl) (show x.tmps[115]?.getD undef = .bool false from hk.dep 18 115 (by kernel_rfl) (by kernel_rfl)), ?_⟩
                    refine wp_value (v := .pointer (some ⟨g6, 2, none⟩)) (w' := W) ?_ ⟨_, rfl, rfl, (Below.refl _ _), hg⟩
                    go_simp
                  | 25, ho =>
                    cases ho
                    have q121 : x.tmps[121]?.getD undef = .pointer (some ⟨g6, 2, none⟩) := hk.dep 24 121 (by kernel_rfl) (by kernel_rfl)
                    refine .inl ⟨wanted_guard (g := 18) (d := 115) (by rfl) (by kernel_rfl) (show x.tmps[115]?.getD undef = .bool false from hk.dep 18 115 (by kernel_rfl) (by kernel_rfl)), ?_⟩
                    have cf : W.cell? ⟨g6, 2, none⟩ = some (.int .i64 S0.purpose) := ((HS10.out.of (hg.below.block _ HS10.out.lt)).cell 2).trans rfl
                    refine wp_value (v := .int .i64 S0.purpose) (w' := W) ?_ ⟨_, rfl, rfl, (Below.refl _ _), hg⟩
                    go_simp
                  | 26, ho =>
                    cases ho
                    have q120 : x.tmps[120]?.getD undef = .int .i64 S0.purpose := hk.dep 23 120 (by kernel_rfl) (by kernel_rfl)
                    have q122 : x.tmps[122]?.getD undef = .int .i64 S0.purpose := hk.dep 25 122 (by kernel_rfl) (by kernel_rfl)
                    refine .inl ⟨wanted_guard (g := 18) (d := 115) (by rfl) (by kernel_rfl) (show x.tmps[115]?.getD undef = .bool false from hk.dep 18 115 (by kernel_rfl) (by kernel_rfl)), ?_⟩
                    refine wp_value (v := .bool false) (w' := W) ?_ ⟨_, rfl, rfl, (Below.refl _ _), hg⟩
                    go_simp
                  | 27, ho =>
                    cases ho
                    have q115 : x.tmps[115]?.getD undef = .bool false := hk.dep 18 115 (by kernel_rfl) (by kernel_rfl)
                    have q123 : x.tmps[123]?.getD undef = .bool false := hk.dep 26 123 (by kernel_rfl) (by kernel_rfl)
                    refine .inl ⟨wanted_guard (g := 9) (d := 106) (by rfl) (by kernel_rfl) (show x.tmps[106]?.getD undef = .bool true from hk.dep 9 106 (by kernel_rfl) (by kernel_rfl)), ?_⟩
                    refine wp_value (v := .bool false) (w' := W) ?_ ⟨_, rfl, rfl, (Below.refl _ _), hg⟩
                    go_simp
                  | 28, ho =>
                    cases ho
                    have q124 : x.tmps[124]?.getD undef = .bool false := hk.dep 27 124 (by kernel_rfl) (by kernel_rfl)
                    refine .inl ⟨wanted_guard (g := 9) (d := 106) (by rfl) (by kernel_rfl) (show x.tmps[106]?.getD undef = .bool true from hk.dep 9 106 (by kernel_rfl) (by kernel_rfl)), ?_⟩
                    refine wp_value (v := .bool false) (w' := W) ?_ ⟨_, rfl, rfl, (Below.refl _ _), hg⟩
                    go_simp
                  | 29, ho =>
                    cases ho
                    have q4 : x.tmps[4]?.getD undef = .slice (some a1) n cp := hk.fix 4 (by kernel_rfl)
                    refine .inl ⟨wanted_guard (g := 28) (d := 125) (by rfl) (by kernel_rfl) (show x.tmps[125]?.getD undef = .bool false from hk.dep 28 125 (by kernel_rfl) (by kernel_rfl)), ?_⟩
                    refine wp_value (v := .slice (some a1) n cp) (w' := W) ?_ ⟨_, rfl, rfl, (Below.refl _ _), hg⟩
                    go_simp
                  | 30, ho =>
                    cases ho
                    have q13 : x.tmps[13]?.getD undef = .int .i64 (k : Int) := hk.fix 13 (by kernel_rfl)
                    refine .inl ⟨wanted_guard (g := 28) (d := 125) (by rfl) (by kernel_rfl) (show x.tmps[125]?.getD undef = .bool false from hk.dep 28 125 (by kernel_rfl) (by kernel_rfl)), ?_⟩
                    refine wp_value (v := .int .i64 (k : Int)) (w' := W) ?_ ⟨_, rfl, rfl, (Below.refl _ _), hg⟩
                    go_simp
                  | 31, ho =>
                    cases ho
                    have q126 : x.tmps[126]?.getD undef = .slice (some a1) n cp := hk.dep 29 126 (by kernel_rfl) (by kernel_rfl)
                    have q127 : x.tmps[127]?.getD undef = .int .i64 (k : Int) := hk.dep 30 127 (by kernel_rfl) (by kernel_rfl)
                    refine .inl ⟨wanted_guard (g := 28) (d := 125) (by rfl) (by kernel_rfl) (show x.tmps[125]?.getD undef = .bool false from hk.dep 28 125 (by kernel_rfl) (by kernel_rfl)), ?_⟩
                    have hq := HQ1.out
                    refine wp_value (v := .pointer (some q1)) (w' := W) ?_ ⟨_, rfl, rfl, (Below.refl _ _), hg⟩
                    go_simp
                  | 32, ho =>
                    cases ho
                    have q128 : x.tmps[128]?.getD undef = .pointer (some q1) := hk.dep 31 128 (by kernel_rfl) (by kernel_rfl)
                    refine .inl ⟨wanted_guard (g := 28) (d := 125) (by rfl) (by kernel_rfl) (show x.tmps[125]?.getD undef = .bool false from hk.dep 28 125 (by kernel_rfl) (by kernel_rfl)), ?_⟩
                    refine wp_value (v := .pointer (some ⟨q1.block, q1.off + 3, none⟩)) (w' := W) ?_ ⟨_, rfl, rfl, (Below.refl _ _), hg⟩
                    go_simp
                  | 33, ho =>
                    cases ho
                    have q129 : x.tmps[129]?.getD undef = .pointer (some ⟨q1.block, q1.off + 3, none⟩) := hk.dep 32 129 (by kernel_rfl) (by kernel_rfl)
                    refine .inl ⟨wanted_guard (g := 28) (d := 125) (by rfl) (by kernel_rfl) (show x.tmps[125]?.getD undef = .bool false from hk.dep 28 125 (by kernel_rfl) (by kernel_rfl)), ?_⟩
                    obtain ⟨c0, c1, c2, c3, c4, c5, _⟩ := HSX.out.below hg.below
                    refine wp_value (v := .string S0.channel) (w' := W) ?_ ⟨_, rfl, rfl, (Below.refl _ _), hg⟩
                    go_simp
                  | 34, ho =>
                    cases ho
                    have q6 : x.tmps[6]?.getD undef = .pointer (some ⟨g6, 0, none⟩) := hk.fix 6 (by kernel_rfl)
                    refine .inl ⟨wanted_guard (g := 28) (d := 125) (by rfl) (by kernel_rfl) (show x.tmps[125]?.getD undef = .bool false from hk.dep 28 125 (by kernel_rfl) (by kernel_rfl)), ?_⟩
                    refine wp_value (v := .pointer (some ⟨g6, 3, none⟩)) (w' := W) ?_ ⟨_, rfl, rfl, (Below.refl _ _), hg⟩
                    go_simp
                  | 35, ho =>
                    cases ho
                    have q131 : x.tmps[131]?.getD undef = .pointer (some ⟨g6, 3, none⟩) := hk.dep 34 131 (by kernel_rfl) (by kernel_rfl)
                    refine .inl ⟨wanted_guard (g := 28) (d := 125) (by rfl) (by kernel_rfl) (show x.tmps[125]?.getD undef = .bool false from hk.dep 28 125 (by kernel_rfl) (by kernel_rfl)), ?_⟩
                    have cf : W.cell? ⟨g6, 3, none⟩ = some (.string S0.channel) := ((HS10.out.of (hg.below.block _ HS10.out.lt)).cell 3).trans rfl
                    refine wp_value (v := .string S0.channel) (w' := W) ?_ ⟨_, rfl, rfl, (Below.refl _ _), hg⟩
                    go_simp
                  | 36, ho =>
                    cases ho
                    have q130 : x.tmps[130]?.getD undef = .string S0.channel := hk.dep 33 130 (by kernel_rfl) (by kernel_rfl)
                    have q132 : x.tmps[132]?.getD undef = .string S0.channel := hk.dep 35 132 (by kernel_rfl) (by kernel_rfl)
                    refine .inl ⟨wanted_guard (g := 28) (d := 125) (by rfl) (by kernel_rfl) (show x.tmps[125]?.getD undef = .bool false from hk.dep 28 125 (by kernel_rfl) (by kernel_rfl)), ?_⟩
                    refine wp_value (v := .bool false) (w' := W) ?_ ⟨_, rfl, rfl, (Below.refl _ _), hg⟩
                    go_simp
                  | 37, ho =>
                    cases ho
                    have q125 : x.tmps[125]?.getD undef = .bool false := hk.dep 28 125 (by kernel_rfl) (by kernel_rfl)
                    have q133 : x.tmps[133]?.getD undef = .bool false := hk.dep 36 133 (by kernel_rfl) (by kernel_rfl)
                    refine .inl ⟨wanted_guard (g := 9) (d := 106) (by rfl) (by kernel_rfl) (show x.tmps[106]?.getD undef = .bool true from hk.dep 9 106 (by kernel_rfl) (by kernel_rfl)), ?_⟩
                    refine wp_value (v := .bool false) (w' := W) ?_ ⟨_, rfl, rfl, (Below.refl _ _), hg⟩
                    go_simp
                  | 38, ho =>
                    cases ho
                    have q106 : x.tmps[106]?.getD undef = .bool true := hk.dep 9 106 (by kernel_rfl) (by kernel_rfl)
                    have q134 : x.tmps[134]?.getD undef = .bool false := hk.dep 37 134 (by kernel_rfl) (by kernel_rfl)
                    refine .inl ⟨wanted_plain rfl, ?_⟩
                    refine wp_value (v := .bool false) (w' := W) ?_ ⟨_, rfl, rfl, (Below.refl _ _), hg⟩
                    go_simp
                  | _ + 39, ho => cases ho
                intro listed x w11 hall hg hk
                have e97 : x.tmps[97]?.getD undef = .slice (some a1) n cp := hk.last 0 97 (by decide) (by kernel_rfl)
                have e98 : x.tmps[98]?.getD undef = .int .i64 (k : Int) := hk.last 1 98 (by decide) (by kernel_rfl)
                have e99 : x.tmps[99]?.getD undef = .pointer (some q1) := hk.last 2 99 (by decide) (by kernel_rfl)
                have e100 : x.tmps[100]?.getD undef = .agg #[.string xd, .int .i64 S0.account, .int .i64 S0.purpose, .string S0.channel, .int .i64 xe, .int .i64 xt] := hk.last 3 100 (by decide) (by kernel_rfl)
                have e101 : x.tmps[101]?.getD undef = .slice (some a2) n5 cx5 := hk.last 4 101 (by decide) (by kernel_rfl)
                have e102 : x.tmps[102]?.getD undef = .int .i64 (k : Int) := hk.last 5 102 (by decide) (by kernel_rfl)
                have e103 : x.tmps[103]?.getD undef = .pointer (some q2) := hk.last 6 103 (by decide) (by kernel_rfl)
                have e104 : x.tmps[104]?.getD undef = .agg #[.string S2.digest, .int .i64 S2.account, .int .i64 S2.purpose, .string S2.channel, .int .i64 S2.expires, .int .i64 S2.tries] := hk.last 7 104 (by decide) (by kernel_rfl)
                have e105 : x.tmps[105]?.getD undef = .bool true := hk.last 8 105 (by decide) (by kernel_rfl)
                have e106 : x.tmps[106]?.getD undef = .bool true := hk.last 9 106 (by decide) (by kernel_rfl)
                have e107 : x.tmps[107]?.getD undef = .slice (some a1) n cp := hk.last 10 107 (by decide) (by kernel_rfl)
                have e108 : x.tmps[108]?.getD undef = .int .i64 (k : Int) := hk.last 11 108 (by decide) (by kernel_rfl)
                have e109 : x.tmps[109]?.getD undef = .pointer (some q1) := hk.last 12 109 (by decide) (by kernel_rfl)
                have e110 : x.tmps[110]?.getD undef = .pointer (some ⟨q1.block, q1.off + 1, none⟩) := hk.last 13 110 (by decide) (by kernel_rfl)
                have e111 : x.tmps[111]?.getD undef = .int .i64 S0.account := hk.last 14 111 (by decide) (by kernel_rfl)
                have e112 : x.tmps[112]?.getD undef = .pointer (some ⟨g6, 1, none⟩) := hk.last 15 112 (by decide) (by kernel_rfl)
                have e113 : x.tmps[113]?.getD undef = .int .i64 S0.account := hk.last 16 113 (by decide) (by kernel_rfl)
                have e114 : x.tmps[114]?.getD undef = .bool false := hk.last 17 114 (by decide) (by kernel_rfl)
                have e115 : x.tmps[115]?.getD undef = .bool false := hk.last 18 115 (by decide) (by kernel_rfl)
                have e116 : x.tmps[116]?.getD undef = .slice (some a1) n cp := hk.last 19 116 (by decide) (by kernel_rfl)
                have e117 : x.tmps[117]?.getD undef = .int .i64 (k : Int) := hk.last 20 117 (by decide) (by kernel_rfl)
                have e118 : x.tmps[118]?.getD undef = .pointer (some q1) := hk.last 21 118 (by decide) (by kernel_rfl)
                have e119 : x.tmps[119]?.getD undef = .pointer (some ⟨q1.block, q1.off + 2, none⟩) := hk.last 22 119 (by decide) (by kernel_rfl)
                have e120 : x.tmps[120]?.getD undef = .int .i64 S0.purpose := hk.last 23 120 (by decide) (by kernel_rfl)
                have e121 : x.tmps[121]?.getD undef = .pointer (some ⟨g6, 2, none⟩) := hk.last 24 121 (by decide) (by kernel_rfl)
                have e122 : x.tmps[122]?.getD undef = .int .i64 S0.purpose := hk.last 25 122 (by decide) (by kernel_rfl)
                have e123 : x.tmps[123]?.getD undef = .bool false := hk.last 26 123 (by decide) (by kernel_rfl)
                have e124 : x.tmps[124]?.getD undef = .bool false := hk.last 27 124 (by decide) (by kernel_rfl)
                have e125 : x.tmps[125]?.getD undef = .bool false := hk.last 28 125 (by decide) (by kernel_rfl)
                have e126 : x.tmps[126]?.getD undef = .slice (some a1) n cp := hk.last 29 126 (by decide) (by kernel_rfl)
                have e127 : x.tmps[127]?.getD undef = .int .i64 (k : Int) := hk.last 30 127 (by decide) (by kernel_rfl)
                have e128 : x.tmps[128]?.getD undef = .pointer (some q1) := hk.last 31 128 (by decide) (by kernel_rfl)
                have e129 : x.tmps[129]?.getD undef = .pointer (some ⟨q1.block, q1.off + 3, none⟩) := hk.last 32 129 (by decide) (by kernel_rfl)
                have e130 : x.tmps[130]?.getD undef = .string S0.channel := hk.last 33 130 (by decide) (by kernel_rfl)
                have e131 : x.tmps[131]?.getD undef = .pointer (some ⟨g6, 3, none⟩) := hk.last 34 131 (by decide) (by kernel_rfl)
                have e132 : x.tmps[132]?.getD undef = .string S0.channel := hk.last 35 132 (by decide) (by kernel_rfl)
                have e133 : x.tmps[133]?.getD undef = .bool false := hk.last 36 133 (by decide) (by kernel_rfl)
                have e134 : x.tmps[134]?.getD undef = .bool false := hk.last 37 134 (by decide) (by kernel_rfl)
                have e135 : x.tmps[135]?.getD undef = .bool false := hk.last 38 135 (by decide) (by kernel_rfl)
                have hB := Lib.hid hg.below
                have hx := hk.act [97, 98, 99, 100, 101, 102, 103, 104, 105, 106, 107, 108, 109, 110, 111, 112, 113, 114, 115, 116, 117, 118, 119, 120, 121, 122, 123, 124, 125, 126, 127, 128, 129, 130, 131, 132, 133, 134, 135] (by kernel_rfl)
                clear hk hg hall
                simp only [List.foldl_cons, List.foldl_nil, e97, e98, e99, e100, e101, e102, e103, e104, e105, e106, e107, e108, e109, e110, e111, e112, e113, e114, e115, e116, e117, e118, e119, e120, e121, e122, e123, e124, e125, e126, e127, e128, e129, e130, e131, e132, e133, e134, e135] at hx
                clear e97 e98 e99 e100 e101 e102 e103 e104 e105 e106 e107 e108 e109 e110 e111 e112 e113 e114 e115 e116 e117 e118 e119 e120 e121 e122 e123 e124 e125 e126 e127 e128 e129 e130 e131 e132 e133 e134 e135
                subst hx
                simp only [Act.put, List.setIfInBounds_toArray, List.set_cons_succ, List.set_cons_zero]
                go_wp2_with fail
                have hn := HN.out
                have hn5 := HN5.out
                subst hn
                subst hn5
                go_roundw
                case rel => exact ⟨k + 1, by go_num, by omega, HBK.out.trans (hB.out.mono HBK.out.size)⟩
                case measure => simp [intOf]; omega
            · have hki : ¬ (k : Int) < (L.length : Int) := by omega
              have HB11 := Lib.hid (HB9.out.trans (HBK.out.mono HB9.out.size))
              have HX11 := Lib.hid (HX9.out.below HBK.out)
              have hs11 := HS9.out.of (HBK.out.block _ HS9.out.lt)
              have HS11 := Lib.hid hs11
              have a110 : wr.cell? ⟨g6, 0, none⟩ = some (.string S0.digest) := (hs11.cell 0).trans rfl
              have a111 : wr.cell? ⟨g6, 1, none⟩ = some (.int .i64 S0.account) := (hs11.cell 1).trans rfl
              have a112 : wr.cell? ⟨g6, 2, none⟩ = some (.int .i64 S0.purpose) := (hs11.cell 2).trans rfl
              have a113 : wr.cell? ⟨g6, 3, none⟩ = some (.string S0.channel) := (hs11.cell 3).trans rfl
              have a114 : wr.cell? ⟨g6, 4, none⟩ = some (.int .i64 S0.expires) := (hs11.cell 4).trans rfl
              have a115 : wr.cell? ⟨g6, 5, none⟩ = some (.int .i64 S0.tries) := (hs11.cell 5).trans rfl
              clear hs11 HA9 HX9 HB9 HS9 HBK
              go_wp2_with fail
              refine (HDROP.out _ _ HC5.out _ HX11.out).mono ?_
              rintro e v12 ⟨⟨v, rfl, hv⟩, hb⟩
              obtain ⟨D5, cd5, rfl, hcd, hD5⟩ := hv
              have HD12 := Lib.hid (hD5.mono (T := fun _ => False) (fun _ _ h => h.elim))
              have HX12 := Lib.hid (HX11.out.below hb)
              have HB12 := Lib.hid (HB11.out.trans (hb.mono HB11.out.size))
              have hs12 := HS11.out.of (hb.block _ HS11.out.lt)
              have HS12 := Lib.hid hs12
              have a120 : v12.cell? ⟨g6, 0, none⟩ = some (.string S0.digest) := (hs12.cell 0).trans rfl
              have a121 : v12.cell? ⟨g6, 1, none⟩ = some (.int .i64 S0.account) := (hs12.cell 1).trans rfl
              have a122 : v12.cell? ⟨g6, 2, none⟩ = some (.int .i64 S0.purpose) := (hs12.cell 2).trans rfl
              have a123 : v12.cell? ⟨g6, 3, none⟩ = some (.string S0.channel) := (hs12.cell 3).trans rfl
              have a124 : v12.cell? ⟨g6, 4, none⟩ = some (.int .i64 S0.expires) := (hs12.cell 4).trans rfl
              have a125 : v12.cell? ⟨g6, 5, none⟩ = some (.int .i64 S0.tries) := (hs12.cell 5).trans rfl
              clear hs12 hb hD5 hcd HX11 HB11 HS11 a110 a111 a112 a113 a114 a115
              go_wp2_with fail
              refine (HOF1.out _ _ _ HX12.out).mono ?_
              rintro e v13 ⟨rfl, hb⟩
              have HD13 := Lib.hid (HD12.out.below hb)
              have HX13 := Lib.hid (HX12.out.below hb)
              have HB13 := Lib.hid (HB12.out.trans (hb.mono HB12.out.size))
              have hs13 := HS12.out.of (hb.block _ HS12.out.lt)
              have HS13 := Lib.hid hs13
              have a130 : v13.cell? ⟨g6, 0, none⟩ = some (.string S0.digest) := (hs13.cell 0).trans rfl
              have a131 : v13.cell? ⟨g6, 1, none⟩ = some (.int .i64 S0.account) := (hs13.cell 1).trans rfl
              have a132 : v13.cell? ⟨g6, 2, none⟩ = some (.int .i64 S0.purpose) := (hs13.cell 2).trans rfl
              have a133 : v13.cell? ⟨g6, 3, none⟩ = some (.string S0.channel) := (hs13.cell 3).trans rfl
              have a134 : v13.cell? ⟨g6, 4, none⟩ = some (.int .i64 S0.expires) := (hs13.cell 4).trans rfl
              have a135 : v13.cell? ⟨g6, 5, none⟩ = some (.int .i64 S0.tries) := (hs13.cell 5).trans rfl
              clear hs13 hb HX12 HB12 HS12 HD12 a120 a121 a122 a123 a124 a125
              go_wp2_with fail
              refine (HOF2.out _ _ _ HD13.out).mono ?_
              rintro e v14 ⟨rfl, hb⟩
              have HX14 := Lib.hid (HX13.out.below hb)
              have HB14 := Lib.hid (HB13.out.trans (hb.mono HB13.out.size))
              clear hb HX13 HB13 HS13 HD13 a130 a131 a132 a133 a134 a135
              go_wp2_with fail
              refine (HSA.out _ _ HC5.out _ HX14.out).mono ?_
              rintro e v15 ⟨⟨v, rfl, hv⟩, hb⟩
              obtain ⟨E5, ce5, rfl, _, _⟩ := hv
              simp only [List.length_nil]
              have HX15 := Lib.hid (HX14.out.below hb)
              have HB15 := Lib.hid (HB14.out.trans (hb.mono HB14.out.size))
              clear hb HX14 HB14
              go_wp2_with fail
              refine (HSB.out _ _ HC5.out _ HX15.out).mono ?_
              rintro e v16 ⟨⟨v, rfl, hv⟩, hb⟩
              obtain ⟨F5, cf5, rfl, _, _⟩ := hv
              have HX16 := Lib.hid (HX15.out.below hb)
              have HB16 := Lib.hid (HB15.out.trans (hb.mono HB15.out.size))
              clear hb HX15 HB15
              go_wp2_with fail
              go_roundw
              case rel => exact ⟨i + 1, L2, by go_num, by omega, by omega, hld, HU2.out, HK2.out, ⟨X5, cx5, rfl, HC5.out, HX16.out⟩, HB16.out⟩
              case measure => simp [intOf]; omega
      · have hi2 : ¬ (i : Int) < 40 := by omega
        go_wp2_with fail
        refine (check_any A cp L (by omega) (fun s hs => by have := (HKL.out s hs).ch; omega) (fun s hs => (HKL.out s hs).ok) wr (HR.out.next HB.out).max HA.out).mono ?_
        rintro e w9 ⟨rfl, hb⟩
        rw [show checkB L = true by unfold checkB; rw [Bool.and_eq_true, Bool.and_eq_true]; exact ⟨⟨List.all_eq_true.2 (fun s hs => (HKL.out s hs).right), decide_eq_true HU.out⟩, decide_eq_true (by omega)⟩]
        go_wp2_with fail
        go_ret
        exact ⟨rfl, HB.out.trans (hb.mono HB.out.size)⟩
    · have hi1 : ¬ (i : Int) < (l.length : Int) := by omega
      go_wp2_with fail
      refine (check_any A cp L (by omega) (fun s hs => by have := (HKL.out s hs).ch; omega) (fun s hs => (HKL.out s hs).ok) wr (HR.out.next HB.out).max HA.out).mono ?_
      rintro e w9 ⟨rfl, hb⟩
      rw [show checkB L = true by unfold checkB; rw [Bool.and_eq_true, Bool.and_eq_true]; exact ⟨⟨List.all_eq_true.2 (fun s hs => (HKL.out s hs).right), decide_eq_true HU.out⟩, decide_eq_true (by omega)⟩]
      go_wp2_with fail
      go_ret
      exact ⟨rfl, HB.out.trans (hb.mono HB.out.size)⟩

/-! ### The row -/
set_option maxRecDepth 100000 in
theorem contract (H : Type) (enc : TypeId × Value → H) (W : World) (base : Nat) (args : Array Value) (ds gs : List (DataW H)) (before : List MemPlace)
    (hval : ∀ (j : Nat) t v, Tryz.f7.params[j]? = some t → args[j]? = some v → Value.okWide Tryz.prog W .any base t v)
    (hW : DataW.Whole enc Tryz.prog Tryz.f7.params.toList Rows.vaultKeepsSpec.vars false W args.toList ds gs before) (hL : laidMet Tryz.prog Rows.vaultKeepsRow.laid W) (hS : W.ShapedOpen Tryz.prog) :
    Calls Tryz.prog 7 args W fun e W' => ∃ v, e = .returned v ∧ Rows.vaultKeepsSpec.post enc Tryz.prog Tryz.f7 false true false false W args v W' := by
  have hW' := hW
  obtain ⟨p, q, hA0, hV, rfl, hfz, hnd⟩ := hW
  have hA : DataW.TrodAll enc Tryz.prog W 0 (fun _ => true) true Tryz.f7.params.toList args.toList ds p := hA0
  rw [Tryz.params7] at hA hval
  obtain ⟨v0, vs0, d0, ds0, p0, q0, hargs, rfl, rfl, h0, r0⟩ := trodAll_cons hA
  obtain ⟨rfl, rfl, rfl⟩ := trodAll_nil r0
  obtain rfl : args = #[v0] := by cases args; simp_all
  obtain ⟨rfl, rfl⟩ := trodVars_none hV
  refine law_contract (tb := 4) laidOut (by kernel_rfl) rfl (by kernel_rfl) Tryz.underlying4 rfl hW' ?_
  clear hA0 hW' hA
  obtain ⟨A0, k0, l0, rfl, z0, g0⟩ := open_ops (hval 0 23 v0 rfl rfl) h0
  exact walk A0 k0 l0 W (rdy_of (tab_CubeRoots (laidMet.tail hL)) (tab_SquareRoots (laidMet.tail (laidMet.tail hL))) hS) z0 g0

theorem laid_met (os : Os) : laidMet Tryz.prog Rows.vaultKeepsRow.laid ((laidWorld os).forCall (fun _ _ => 0) ⟨#[], #[.slice none 0 0], []⟩).memory :=
  laidMet_of_run' 8 (by kernel_rfl) (by kernel_rfl)
theorem reads (os : Os) {H : Type} (enc : TypeId × Value → H) : ∃ places, DataW.whole enc Tryz.prog ((laidWorld os).forCall (fun _ _ => 0) ⟨#[], #[.slice none 0 0], []⟩).memory Tryz.f7.params.toList Rows.vaultKeepsSpec.vars false (#[.slice none 0 0] : Array Value).toList 8 = some ([.nil], [], places) :=
  ⟨[], by kernel_rfl⟩

set_option maxRecDepth 100000 in
theorem lifted (os : Os) (started : os.Started) (H : Type) (enc : TypeId × Value → H) (F : Stop.Interp) :
    ReturnsInHanded {} Tryz.checked os 7 .any ((OpenSpec.ofChange Rows.vaultKeepsSpec).preRow enc Tryz.prog Tryz.f7 Rows.vaultKeepsRow.domain false Rows.vaultKeepsRow.laid) (((OpenSpec.ofChange Rows.vaultKeepsSpec).at F).post enc Tryz.prog Tryz.f7 false true false false) := by
  obtain ⟨places, hx⟩ := reads os enc
  refine returnsInHanded_of_row (C := Tryz.checked) (s := OpenSpec.ofChange Rows.vaultKeepsSpec) own started (by kernel_rfl) Tryz.func7
    (witness_row_at (enc := enc) (C := Tryz.checked) false (laidWorld os) #[.slice none 0 0] rfl (by kernel_rfl) (by kernel_rfl) (by kernel_rfl)
      (OpenSpec.preRow_of_cond 8 hx (by kernel_rfl) (fun k hk => by cases hk) (by kernel_rfl) (laid_met os))) ?_
  intro W base args ds gs before hval hW _ _ _ hL hS _
  exact contract H enc W base args ds gs before hval hW hL hS

theorem said : Rows.VaultKeepsSaid :=
  OpenClaim.holds_of_cond 7 Tryz.f7 rfl rfl rfl rfl rfl rfl rfl ⟨rfl, rfl, rfl, rfl, rfl⟩ rfl rfl rfl rfl rfl (by kernel_rfl) Tryz.func7 (by kernel_rfl)
    (of_decide_eq_true (by kernel_rfl)) (by unfold Func.isWrapper; first | (rw [if_pos (by decide +kernel)]; kernel_rfl) | (rw [if_neg (by decide +kernel)]; exact ⟨rfl, rfl⟩))
    (fun os started H enc _ F => by rw [OpenClaim.pre_eq_preRow]; exact lifted os started H enc F)

theorem plain (f : FuncId) (fn : Func) (hf : Tryz.pinned.checked.prog.funcNamed "homecoming/homecominglaw11.VaultKeeps" = some f) (hfn : Tryz.pinned.checked.prog.funcs[f]? = some fn) :
    false = Tryz.pinned.checked.prog.looks [] ∧ ∀ (j : Nat) t, fn.params[j]? = some t → Tryz.pinned.checked.prog.wantsStandIn t = false := by
  obtain rfl : f = 7 := Option.some.inj ((show Tryz.prog.funcNamed "homecoming/homecominglaw11.VaultKeeps" = some 7 by kernel_rfl).symm.trans hf) |>.symm
  obtain rfl : fn = Tryz.f7 := (Option.some.inj (Tryz.func7.symm.trans hfn)).symm
  refine ⟨by kernel_rfl, fun j t ht => ?_⟩
  have hall : (Tryz.f7.params.toList.all fun u => !Tryz.prog.wantsStandIn u) = true := by kernel_rfl
  have hm : t ∈ Tryz.f7.params.toList := by simpa using Array.mem_of_getElem? ht
  exact (show Tryz.prog.wantsStandIn t = false by simpa using List.all_eq_true.1 hall t hm)

/-- THE STATEMENT. -/
theorem card : Rows.VaultKeepsCardSaid :=
  Claim7.holds_tied_plain_at .later [] _ _ _ _ said (fun _ h => by cases h) (by kernel_rfl) (fun _ h => by cases h) vaultKeeps_row_tie rfl ⟨rfl, rfl⟩ (by kernel_rfl) rfl plain (by kernel_rfl)
#print axioms card
end Go.Proofs.YtfjdcopndkdbmaaGreatDoor.vaultKeeps
