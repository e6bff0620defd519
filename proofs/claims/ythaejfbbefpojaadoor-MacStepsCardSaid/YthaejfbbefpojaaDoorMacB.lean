/-
  Contract of the document's Mac; meters, nil or not, in one word; contract of mac.Mac's closure, which pads a key. Condition: texts of 40000 bytes at most; the tables hold what their text says.
-/
import Derived.Test.YthaejfbbefpojaaDoorMacA
import Derived.Test.YthaejfbbefpojaaDoorShN
import Derived.Deep.RegionHeld3
namespace Go.Proofs.YthaejfbbefpojaaDoor
open Go.RowKit

set_option maxRecDepth 100000 in
set_option maxHeartbeats 2000000 in
theorem ref_mac (key s : List UInt8) (hk : key.length ≤ 40000) (hs : s.length ≤ 40000) (w : World) :
    Calls Tryd.prog 25 #[.string (ba key), .string (ba s)] w fun e w' => e = .returned (.string (ba (hmac key s))) ∧ Below w.heap.size w w' := by
  have H5 := Lib.hid (fun W => (show Calls Tryd.prog 44 #[.string (ba key), .int .u8 92] W fun e w' => e = .returned (.string (ba (xr 0x5c (padk key)))) ∧ Below W.heap.size W w' from lay_any key (by omega) 0x5c W))
  have H3 := Lib.hid (fun W => (show Calls Tryd.prog 44 #[.string (ba key), .int .u8 54] W fun e w' => e = .returned (.string (ba (xr 0x36 (padk key)))) ∧ Below W.heap.size W w' from lay_any key (by omega) 0x36 W))
  have l5 : (xr 0x5c (padk key)).length = 64 := by rw [xr_length, padk_length]
  have l3 : (xr 0x36 (padk key)).length = 64 := by rw [xr_length, padk_length]
  have ld := dig_length (xr 0x36 (padk key) ++ s)
  have HS1 := Lib.hid (fun W => ref_sum (xr 0x36 (padk key) ++ s) (by rw [List.length_append]; omega) W)
  have HS2 := Lib.hid (fun W => ref_sum (xr 0x5c (padk key) ++ dig (xr 0x36 (padk key) ++ s)) (by rw [List.length_append]; omega) W)
  have HM : Hid (hmac key s = dig (xr 0x5c (padk key) ++ dig (xr 0x36 (padk key) ++ s))) := Lib.hid rfl
  generalize dig (xr 0x36 (padk key) ++ s) = d at ld HS1 HS2 HM
  generalize xr 0x36 (padk key) = p3 at l3 HS1 H3
  generalize xr 0x5c (padk key) = p5 at l5 HS2 H5 HM
  have c1 := ba_append p3 s
  have c2 := ba_append p5 d
  have z1 := ba_size p3
  have z2 := ba_size p5
  have z3 := ba_size s
  have z4 := ba_size d
  rw [← c1] at HS1
  rw [← c2] at HS2
  rw [HM.out]
  generalize dig (p5 ++ d) = D at HS2 HM ⊢
  clear c1 c2 HM
  generalize ba p3 = P3 at z1 HS1 H3
  generalize ba p5 = P5 at z2 HS2 H5
  generalize ba s = S at z3 HS1 ⊢
  generalize ba d = DD at z4 HS1 HS2
  go_enter Tryd.func25, Tryd.ntmps25
  go_wp2_with fail
  refine (H5.out _).mono ?_
  rintro e w1 ⟨rfl, hb1⟩
  have B1 := Lib.hid hb1
  clear hb1
  go_wp2_with fail
  refine (H3.out _).mono ?_
  rintro e w2 ⟨rfl, hb2⟩
  have B2 := Lib.hid (B1.out.trans (hb2.mono B1.out.size))
  clear hb2
  go_wp2_with fail
  refine (HS1.out _).mono ?_
  rintro e w3 ⟨rfl, hb3⟩
  have B3 := Lib.hid (B2.out.trans (hb3.mono B2.out.size))
  clear hb3
  go_wp2_with fail
  refine (HS2.out _).mono ?_
  rintro e w4 ⟨rfl, hb4⟩
  have B4 := Lib.hid (B3.out.trans (hb4.mono B3.out.size))
  clear hb4
  go_wp2_with fail
  go_ret
  exact ⟨rfl, B4.out⟩

/-- A meter, or none: its value, its blocks, how much it counted. -/
structure Mt (mp : Option Addr) (S : Nat → Prop) (st : World → Nat → Prop) : Prop where
  sum : ∀ (l : List ByteArray) (A : Option Addr) (c k : Nat) (W : World), l.length ≤ 1000 → len l ≤ 100000 → k ≤ 1000000 → Lies S W A (cs l) → st W k → Tab W →
    Calls Tryd.prog 20 #[.pointer mp, .slice A l.length c] W fun e W' => e = .returned (.string (ba (dig (tx l).flatten))) ∧ st W' (k + 1) ∧ Kept S W W'
  stay : ∀ (W W' : World) (k : Nat), st W k → (∀ b, S b → W'.heap[b]? = W.heap[b]?) → st W' k
  low : ∀ (W : World) (k : Nat), st W k → ∀ b, S b → b < W.heap.size
  apart : ¬ S 1 ∧ ¬ S 0
theorem Mt.nil : Mt none (fun _ => False) (fun _ _ => True) :=
  ⟨fun l A c _ W h1 h2 _ hA _ hT => (msum_nil l h1 h2 A c W hA hT).mono fun _ _ h => ⟨h.1, trivial, Kept.of_below h.2⟩, fun _ _ _ _ _ => trivial, fun _ _ _ _ h => h.elim, ⟨fun h => h, fun h => h⟩⟩
theorem Mt.one (g : Nat) (hg : g ≠ 1 ∧ g ≠ 0) : Mt (some ⟨g, 0, none⟩) (fun b => b = g) (fun W k => Met W g k) :=
  ⟨fun l A c k W h1 h2 h3 hA hM hT => msum_any l h1 h2 A c g k h3 W hA hM hg hT, fun W W' k hM h => hM.of (h g rfl), fun W k hM b h => by subst h; exact hM.lt, ⟨fun h => hg.1 h.symm, fun h => hg.2 h.symm⟩⟩
theorem Mt.below {mp : Option Addr} {S : Nat → Prop} {st : World → Nat → Prop} (M : Mt mp S st) {W W' : World} {k : Nat} (h : st W k) (hb : Below W.heap.size W W') : st W' k := M.stay W W' k h fun b hS => hb.block b (M.low W k h b hS)
theorem Tab.kept {S : Nat → Prop} {w w' : World} (h : Tab w) (hk : Kept S w w') (h1 : ¬ S 1) (h2 : ¬ S 0) : Tab w' :=
  ⟨fun i hi => (World.cell?_of_block (hk.block _ h.ltK h1)).trans (h.K i hi), fun i hi => (World.cell?_of_block (hk.block _ h.ltH h2)).trans (h.H i hi)⟩
theorem Mt.tab {mp : Option Addr} {S : Nat → Prop} {st : World → Nat → Prop} (M : Mt mp S st) {W W' : World} (h : Tab W) (hk : Kept S W W') : Tab W' := h.kept hk M.apart.1 M.apart.2
/-- How many digests one padding makes. -/
def one (key : List UInt8) : Nat := if 64 < key.length then 1 else 0
theorem run_cut_all {P : Program} (t e : TypeId) (n : Nat) (ht : P.underlying t = some (.array n e)) (hsz : (P.info? e).map (·.size) = some 1) (g : Nat) (w : World) :
    (Instr.sliceAt t (.pointer (some ⟨g, 0, none⟩)) none none none).run P w = .ok (.slice (some ⟨g, 0, none⟩) n n) w := by
  cases hq : P.info? e with
  | none => simp [hq] at hsz
  | some i =>
    have hadd : (⟨g, 0, none⟩ : Addr).add 0 = ⟨g, 0, none⟩ := by unfold Addr.add; split <;> simp_all
    simp [Instr.sliceAt, Instr.sureAddr, run_underlying ht, Instr.sliceBounds, sizeOf, typeInfo, hq, hadd]
theorem put_pad (key : List UInt8) : Dk.put (List.replicate 64 0) 0 (key1 key) = padk key := by
  have h := key1_length key
  unfold Dk.put padk
  rw [Nat.zero_add, List.drop_replicate, List.take_zero, List.nil_append]
/-- The key's bytes turned so far. -/
theorem turn_pad (mask : UInt8) (PK : List UInt8) (k : Nat) (h : k < PK.length) (h2 : k < (xr mask PK).length) : (xr mask PK)[k] = PK[k] ^^^ mask := by simp [xr]
end Go.Proofs.YthaejfbbefpojaaDoor
