/-
  Contract of bucket.Take once more: the row that it returns lies in no block that was there. Condition: rows that may be, of at most 24 buckets; times of at most 1000000000000.
-/
import Derived.Deep.RegionLaw
import Derived.Test.YtbldonkfboahmaaBcX
namespace Go.Proofs.Ytbldonkfboahmaa
open Go.RowKit

theorem row_off {w : World} {base low n c : Nat} {A : Option Addr} {l m : List Bu} (h : w.ownsRow base 54 3 (.slice A n c) n (bus l ++ bus m)) {r : List Bu} (hr : r = l ++ m) (hl : low ≤ base) : Row (fun b => b < low) r (.slice A n c) w := by
  subst hr
  rw [← bus_append] at h
  have hn : (l ++ m).length = n := by
    have h1 := h.1
    rw [bus_length] at h1
    omega
  subst hn
  exact ⟨A, c, rfl, own_cap h, lies_made h (fun g hg h => by omega)⟩
set_option maxRecDepth 100000 in
set_option maxHeartbeats 4000000 in
theorem TakeO_no {S : Nat → Prop} (A : Option Addr) (cp : Nat) (L : List Bb) (hcp : L.length ≤ cp) (h : Vl L) (k : ByteArray) (now : Nat) (hn : now ≤ 1000000000000) (hno : k = ⟨#[]⟩ ∨ Bk.left L k now = 0) (w : World) (hA : Lies S w A (bus (M L))) :
    Calls Try.prog 19 #[.slice A L.length cp, .string k, .int .i64 (now : Int)] w fun e w' => (∃ v, e = .returned (.tuple #[v, .int .i64 22]) ∧ Row (fun b => b < w.heap.size) (M L) v w') ∧ Below w.heap.size w w' := by
  have hlen := h.len
  have hml := M_length L
  have hC : ∀ W, Below w.heap.size w W → Calls Try.prog 29 #[.slice A L.length cp] W fun e w' => (∃ A' c', e = .returned (.slice A' L.length c') ∧ Row (fun b => b < w.heap.size) (M L) (.slice A' L.length c') w') ∧ Below W.heap.size W w' := fun W hW => by
    have hc := clone_any (S := S) A cp (M L) (by rw [hml]; omega) (by rw [hml]; exact hcp) W (hA.below hW)
    rw [hml] at hc
    refine hc.mono ?_
    rintro e w' ⟨⟨A', c', rfl, ho⟩, hb⟩
    exact ⟨⟨A', c', rfl, ⟨A', c', by rw [hml], by rw [hml]; exact own_cap ho, lies_made ho (fun g hg h => by have := hW.size; omega)⟩⟩, hb⟩
  have HC := Lib.hid hC
  have HL := Lib.hid (Left_any A cp L h k now (by omega) w hA)
  clear hC hml hA
  by_cases he : k = ⟨#[]⟩
  · subst he
    go_enter Try.func19, Try.ntmps19
    go_wp2_with fail
    refine (HC.out w (Below.refl _ w)).mono ?_
    rintro e w1 ⟨⟨A', c', rfl, hr⟩, hb⟩
    have HR := Lib.hid hr
    have HB := Lib.hid hb
    clear hr hb
    go_wp2_with fail
    go_ret2
    exact ⟨⟨_, rfl, HR.out⟩, HB.out⟩
  · have hz : Bk.left L k now = 0 := by
      rcases hno with h | h
      · exact absurd h he
      · exact h
    rw [hz] at HL
    obtain ⟨b0, b1⟩ := not_empty (show ¬ k.size = 0 from fun e => he (nil_of_size e))
    have b2 : (k.toList == (⟨#[]⟩ : ByteArray).toList) = false := str_ne he
    clear hz hno he
    go_enter Try.func19, Try.ntmps19
    go_wp2_with fail
    refine HL.out.mono ?_
    rintro e w1 ⟨rfl, hb1⟩
    have HB1 := Lib.hid hb1
    clear hb1
    go_wp2_with fail
    refine (HC.out w1 HB1.out).mono ?_
    rintro e w2 ⟨⟨A', c', rfl, hr⟩, hb⟩
    have HR := Lib.hid hr
    have HB := Lib.hid (HB1.out.trans (hb.mono HB1.out.size))
    clear hr hb
    go_wp2_with fail
    go_ret2
    exact ⟨⟨_, rfl, HR.out⟩, HB.out⟩
set_option maxRecDepth 100000 in
set_option maxHeartbeats 8000000 in
theorem TakeO_full {S : Nat → Prop} (A : Option Addr) (cp : Nat) (L : List Bb) (hcp : L.length ≤ cp) (h : Vl L) (k : ByteArray) (now : Nat) (hn : now ≤ 1000000000000) (he : ¬ k = ⟨#[]⟩) (h1 : ¬ Bk.left L k now = 0) (hf : has (Bk.sweep L now) k = false) (h24 : 24 ≤ (Bk.sweep L now).length) (w : World) (hA : Lies S w A (bus (M L))) :
    Calls Try.prog 19 #[.slice A L.length cp, .string k, .int .i64 (now : Int)] w fun e w' => (∃ v, e = .returned (.tuple #[v, .int .i64 15]) ∧ Row (fun b => b < w.heap.size) (M L) v w') ∧ Below w.heap.size w w' := by
  have hlen := h.len
  have hml := M_length L
  have hle4 := Bk.left_le L k now
  obtain ⟨m, hm⟩ : ∃ m, Bk.left L k now = m := ⟨_, rfl⟩
  have HL := Lib.hid (Left_any A cp L h k now (by omega) w hA)
  rw [hm] at HL h1 hle4
  have hm1 : ¬ ((m : Int) < 1) := by omega
  obtain ⟨b0, b1⟩ := not_empty (show ¬ k.size = 0 from fun e => he (nil_of_size e))
  have b2 : (k.toList == (⟨#[]⟩ : ByteArray).toList) = false := str_ne he
  have HS := Lib.hid (fun W (hW : Below w.heap.size w W) => Sweep_any A cp L hcp h now (by omega) W (hA.below hW))
  have hC : ∀ W, Below w.heap.size w W → Calls Try.prog 29 #[.slice A L.length cp] W fun e w' => (∃ A' c', e = .returned (.slice A' L.length c') ∧ Row (fun b => b < w.heap.size) (M L) (.slice A' L.length c') w') ∧ Below W.heap.size W w' := fun W hW => by
    have hc := clone_any (S := S) A cp (M L) (by rw [hml]; omega) (by rw [hml]; exact hcp) W (hA.below hW)
    rw [hml] at hc
    refine hc.mono ?_
    rintro e w' ⟨⟨A', c', rfl, ho⟩, hb⟩
    exact ⟨⟨A', c', rfl, ⟨A', c', by rw [hml], by rw [hml]; exact own_cap ho, lies_made ho (fun g hg h => by have := hW.size; omega)⟩⟩, hb⟩
  have HC := Lib.hid hC
  have hvs := vl_sweep h now
  have hlow := h.rise
  obtain ⟨SL, hSL⟩ : ∃ SL, Bk.sweep L now = SL := ⟨_, rfl⟩
  rw [hSL] at HS hvs hf
  have HP := Lib.hid (fun (X : Option Addr) (c : Nat) W (hX : Lies (fun b => b < w.heap.size) W X (bus (M SL))) => place_any X c SL hvs.rise k (by have := hvs.len; omega) W hX)
  have hple := pos_le k SL
  have hsl := hvs.len
  obtain ⟨p, hp⟩ : ∃ p, pos k SL = p := ⟨_, rfl⟩
  rw [hp, hf] at HP
  rw [hp] at hple
  have HTO := Lib.hid (fun (X : Option Addr) (c : Nat) (hc : SL.length ≤ c) W => run_rows_from X SL.length c p hple hc W)
  rw [hSL] at h24
  have hsi : ((SL.length : Int) ≥ 24) := by omega
  clear hm hvs hC hml hlow
  go_enter Try.func19, Try.ntmps19
  go_wp2_with fail
  refine HL.out.mono ?_
  rintro e w1 ⟨rfl, hb1⟩
  have HB1 := Lib.hid hb1
  clear hb1
  go_wp2_with fail
  refine (HS.out w1 HB1.out).mono ?_
  rintro e w2 ⟨⟨v, rfl, hr⟩, hb⟩
  obtain ⟨A2, c2, rfl, hc2, hA2⟩ := hr
  rw [M_length] at hc2
  simp only [M_length]
  have hA2' : Lies (fun b => b < w.heap.size) w2 A2 (bus (M SL)) := hA2.mono (fun _ _ h => Nat.lt_of_lt_of_le h HB1.out.size)
  have HA2 := Lib.hid hA2'
  have HB2 := Lib.hid (HB1.out.trans (hb.mono HB1.out.size))
  have hcut := HTO.out A2 c2 hc2
  have hthree := run_rows_three A2 SL.length c2 p hple hc2
  have HD0 := Lib.hid (fun (A3 : Option Addr) (hA3 : (if c2 = p then A2 else A2.map fun x => x.add (p * 3)) = A3) => lies_drop HA2.out p (A' := A3) (fun hlt a e => by rw [← hA3, if_neg (by rw [M_length] at hlt; omega), e]; rfl))
  obtain ⟨A3, hA3⟩ : ∃ A3, (if c2 = p then A2 else A2.map fun x => x.add (p * 3)) = A3 := ⟨_, rfl⟩
  have HD := Lib.hid (HD0.out A3 hA3)
  rw [hA3] at hcut
  obtain ⟨n3, hn3⟩ : ∃ n, SL.length - p = n := ⟨_, rfl⟩
  obtain ⟨c3, hc3⟩ : ∃ n, c2 - p = n := ⟨_, rfl⟩
  rw [hn3, hc3] at hcut
  have HN3 := Lib.hid hn3
  clear hb hA2 hA2' HD0 hA3 hn3 hc3
  go_wp2_with fail
  refine (HP.out A2 c2 w2 HA2.out).mono ?_
  rintro e w3 ⟨rfl, hb⟩
  have HB3 := Lib.hid (HB2.out.trans (hb.mono HB2.out.size))
  have HA3 := Lib.hid (HA2.out.below hb)
  have HD3 := Lib.hid (HD.out.below hb)
  clear hb
  have hx5 := (Blk.new w3 54 #[.string k, .int .i64 4, .int .i64 (now : Int)]).drew
  have hb5 := ((Below.refl _ w3).alloc (Nat.le_refl _) (.cells #[.string k, .int .i64 4, .int .i64 (now : Int)] 54)).drew
  go_upto_region 5 with fail
  go_region
  generalize (w3.alloc (.cells #[.string k, .int .i64 4, .int .i64 (now : Int)] 54)).drew = W5 at hx5 hb5 ⊢
  obtain ⟨b5, hb5e⟩ : ∃ b, w3.heap.size = b := ⟨_, rfl⟩
  rw [hb5e] at hx5
  simp only [hb5e]
  have HX5 := Lib.hid hx5
  have HB5 := Lib.hid (HB3.out.trans (hb5.mono HB3.out.size))
  have HA5 := Lib.hid (HA3.out.below hb5)
  have HD5 := Lib.hid (HD3.out.below hb5)
  clear hx5
  clear hb5
  go_wp2_with fail
  refine (HC.out W5 HB5.out).mono ?_
  rintro e w6 ⟨⟨A', c', rfl, hr⟩, hb⟩
  have HR := Lib.hid hr
  have HB := Lib.hid (HB5.out.trans (hb.mono HB5.out.size))
  clear hr hb
  go_wp2_with fail
  go_ret2
  exact ⟨⟨_, rfl, HR.out⟩, HB.out⟩
set_option maxRecDepth 100000 in
set_option maxHeartbeats 8000000 in
theorem TakeO_new {S : Nat → Prop} (A : Option Addr) (cp : Nat) (L : List Bb) (hcp : L.length ≤ cp) (h : Vl L) (k : ByteArray) (now : Nat) (hn : now ≤ 1000000000000) (he : ¬ k = ⟨#[]⟩) (h1 : ¬ Bk.left L k now = 0) (hf : has (Bk.sweep L now) k = false) (h24 : ¬ 24 ≤ (Bk.sweep L now).length) (w : World) (hA : Lies S w A (bus (M L))) :
    Calls Try.prog 19 #[.slice A L.length cp, .string k, .int .i64 (now : Int)] w fun e w' => (∃ v, e = .returned (.tuple #[v, .int .i64 0]) ∧ Row (fun b => b < w.heap.size) (M (Bk.taken kl L k now)) v w') ∧ Below w.heap.size w w' := by
  have hlen := h.len
  have hml := M_length L
  have hle4 := Bk.left_le L k now
  obtain ⟨m, hm⟩ : ∃ m, Bk.left L k now = m := ⟨_, rfl⟩
  have HL := Lib.hid (Left_any A cp L h k now (by omega) w hA)
  rw [hm] at HL h1 hle4
  have hm1 : ¬ ((m : Int) < 1) := by omega
  obtain ⟨b0, b1⟩ := not_empty (show ¬ k.size = 0 from fun e => he (nil_of_size e))
  have b2 : (k.toList == (⟨#[]⟩ : ByteArray).toList) = false := str_ne he
  have HS := Lib.hid (fun W (hW : Below w.heap.size w W) => Sweep_any A cp L hcp h now (by omega) W (hA.below hW))
  have hC : ∀ W, Below w.heap.size w W → Calls Try.prog 29 #[.slice A L.length cp] W fun e w' => (∃ A' c', e = .returned (.slice A' L.length c') ∧ Row (fun b => b < w.heap.size) (M L) (.slice A' L.length c') w') ∧ Below W.heap.size W w' := fun W hW => by
    have hc := clone_any (S := S) A cp (M L) (by rw [hml]; omega) (by rw [hml]; exact hcp) W (hA.below hW)
    rw [hml] at hc
    refine hc.mono ?_
    rintro e w' ⟨⟨A', c', rfl, ho⟩, hb⟩
    exact ⟨⟨A', c', rfl, ⟨A', c', by rw [hml], by rw [hml]; exact own_cap ho, lies_made ho (fun g hg h => by have := hW.size; omega)⟩⟩, hb⟩
  have HC := Lib.hid hC
  have hvs := vl_sweep h now
  have hlow := h.rise
  obtain ⟨SL, hSL⟩ : ∃ SL, Bk.sweep L now = SL := ⟨_, rfl⟩
  have htk := taken_new hlow k now hf
  rw [hSL] at htk
  rw [hSL] at HS hvs hf
  have HP := Lib.hid (fun (X : Option Addr) (c : Nat) W (hX : Lies (fun b => b < w.heap.size) W X (bus (M SL))) => place_any X c SL hvs.rise k (by have := hvs.len; omega) W hX)
  have hple := pos_le k SL
  have hsl := hvs.len
  obtain ⟨p, hp⟩ : ∃ p, pos k SL = p := ⟨_, rfl⟩
  rw [hp, hf] at HP
  rw [hp] at hple
  have HTO := Lib.hid (fun (X : Option Addr) (c : Nat) (hc : SL.length ≤ c) W => run_rows_from X SL.length c p hple hc W)
  rw [hSL] at h24
  have hsi : ¬ ((SL.length : Int) ≥ 24) := by omega
  rw [hp] at htk
  obtain ⟨tl, htl⟩ : ∃ t, Bk.left1 ⟨k, 4, now⟩ now - 1 = t := ⟨_, rfl⟩
  obtain ⟨ta, hta⟩ : ∃ t, now + 25 * refl1 ⟨k, 4, now⟩ now = t := ⟨_, rfl⟩
  have HT := Lib.hid (fun W => taken_any ⟨k, 4, now⟩ ⟨Nat.le_refl _, hn⟩ now (by omega) (Nat.le_min.2 ⟨by decide, by show 1 ≤ 4 + _; omega⟩) W)
  simp only at HT
  rw [htl, hta] at HT
  have HRES : Hid (M (Bk.taken kl L k now) = M (SL.take p) ++ [⟨k, (tl : Int), (ta : Int)⟩] ++ M (SL.drop p)) := Lib.hid (by rw [htk, M_append, M_cons, List.append_assoc]; unfold less1; rw [htl, hta]; rfl)
  have HYS : Hid ((SL.drop p).length = (SL.length - p)) := Lib.hid (List.length_drop)
  clear htk htl hta
  clear hm hvs hC hml hlow
  go_enter Try.func19, Try.ntmps19
  go_wp2_with fail
  refine HL.out.mono ?_
  rintro e w1 ⟨rfl, hb1⟩
  have HB1 := Lib.hid hb1
  clear hb1
  go_wp2_with fail
  refine (HS.out w1 HB1.out).mono ?_
  rintro e w2 ⟨⟨v, rfl, hr⟩, hb⟩
  obtain ⟨A2, c2, rfl, hc2, hA2⟩ := hr
  rw [M_length] at hc2
  simp only [M_length]
  have hA2' : Lies (fun b => b < w.heap.size) w2 A2 (bus (M SL)) := hA2.mono (fun _ _ h => Nat.lt_of_lt_of_le h HB1.out.size)
  have HA2 := Lib.hid hA2'
  have HB2 := Lib.hid (HB1.out.trans (hb.mono HB1.out.size))
  have hcut := HTO.out A2 c2 hc2
  have hthree := run_rows_three A2 SL.length c2 p hple hc2
  have HD0 := Lib.hid (fun (A3 : Option Addr) (hA3 : (if c2 = p then A2 else A2.map fun x => x.add (p * 3)) = A3) => lies_drop HA2.out p (A' := A3) (fun hlt a e => by rw [← hA3, if_neg (by rw [M_length] at hlt; omega), e]; rfl))
  obtain ⟨A3, hA3⟩ : ∃ A3, (if c2 = p then A2 else A2.map fun x => x.add (p * 3)) = A3 := ⟨_, rfl⟩
  have HD := Lib.hid (HD0.out A3 hA3)
  rw [hA3] at hcut
  obtain ⟨n3, hn3⟩ : ∃ n, SL.length - p = n := ⟨_, rfl⟩
  obtain ⟨c3, hc3⟩ : ∃ n, c2 - p = n := ⟨_, rfl⟩
  rw [hn3, hc3] at hcut
  have HN3 := Lib.hid hn3
  clear hb hA2 hA2' HD0 hA3 hn3 hc3
  go_wp2_with fail
  refine (HP.out A2 c2 w2 HA2.out).mono ?_
  rintro e w3 ⟨rfl, hb⟩
  have HB3 := Lib.hid (HB2.out.trans (hb.mono HB2.out.size))
  have HA3 := Lib.hid (HA2.out.below hb)
  have HD3 := Lib.hid (HD.out.below hb)
  clear hb
  have hx5 := (Blk.new w3 54 #[.string k, .int .i64 4, .int .i64 (now : Int)]).drew
  have hb5 := ((Below.refl _ w3).alloc (Nat.le_refl _) (.cells #[.string k, .int .i64 4, .int .i64 (now : Int)] 54)).drew
  go_upto_region 5 with fail
  go_region
  generalize (w3.alloc (.cells #[.string k, .int .i64 4, .int .i64 (now : Int)] 54)).drew = W5 at hx5 hb5 ⊢
  obtain ⟨b5, hb5e⟩ : ∃ b, w3.heap.size = b := ⟨_, rfl⟩
  rw [hb5e] at hx5
  simp only [hb5e]
  have HX5 := Lib.hid hx5
  have HB5 := Lib.hid (HB3.out.trans (hb5.mono HB3.out.size))
  have HA5 := Lib.hid (HA3.out.below hb5)
  have HD5 := Lib.hid (HD3.out.below hb5)
  clear hx5
  rw [HN3.out] at HYS
  have HA0 : Hid (A2 = none → p = 0) := Lib.hid (fun e => by
    subst e
    have := HA5.out
    cases SL with
    | nil => simpa using hple
    | cons b r =>
      obtain ⟨a, e, _⟩ := lies_ups this 0 (by simp)
      cases e)
  have hn3b : n3 ≤ 1000 := by have := HN3.out; omega
  have x0 := (HX5.out.cell 0).trans rfl
  have x1 := (HX5.out.cell 1).trans rfl
  have x2 := (HX5.out.cell 2).trans rfl
  have HBW := Lib.hid HB5.out
  have HAW := Lib.hid HA5.out
  have HDW := Lib.hid HD5.out
  clear hb5
  go_wp2_with fail
  go_upto_region 10 with fail
  go_region_law (first
    | (go_simp
       go_at_call 31
       refine (HT.out _).mono ?_
       rintro e w6 ⟨rfl, hb6⟩
       have hb6' : Below W5.heap.size W5 w6 := ⟨hb6.os, hb6.tape, hb6.output, hb6.size, hb6.block⟩
       have HB6 := Lib.hid (HBW.out.trans (hb6'.mono HBW.out.size))
       have hb7 := (Below.refl _ w6).alloc (Nat.le_refl _) (.cells #[.string k, .int .i64 (tl : Int), .int .i64 (ta : Int)] 54)
       have HB7 := Lib.hid (HB6.out.trans (hb7.mono HB6.out.size))
       obtain ⟨X, cx, w8, hrun8, hown8, hb8⟩ := append_new (S := fun b => b < w.heap.size) (xs := M (SL.take p)) (by rw [M_length, List.length_take]; omega) (by rw [M_take]; exact lies_take' ((HAW.out.below hb6').below hb7) p) (HA0.out) (by omega) ⟨k, (tl : Int), (ta : Int)⟩ (Blk.new w6 54 #[.string k, .int .i64 (tl : Int), .int .i64 (ta : Int)]) 23
       obtain ⟨i0, hi0, hz0, hs0, hbb0⟩ := info_bu
       obtain ⟨Y, cy, w9, hrun9, hown9, hgr9⟩ := run_append_rows (P := Try.prog) w8 (w6.alloc (.cells #[.string k, .int .i64 (tl : Int), .int .i64 (ta : Int)] 54)).heap.size 3 (by decide) 23 23 54 i0 _ 32 Try.underlying23 hi0 hz0 hs0 hbb0 rfl _ (p + 1) _ hown8 A3 n3 c3 (bus (M (SL.drop p))) (by rw [bus_length, M_length]; exact congrArg (· * 3) HYS.out) (by rw [M_drop]; exact ((HDW.out.below hb6').below hb7).below hb8) (bus_cell _) (by unfold maxLen; omega) (by omega) hb8.size
       have HB8 := Lib.hid (HB7.out.trans (hb8.mono HB7.out.size))
       have HB9 := Lib.hid (HB8.out.grown hgr9 HB8.out.size (fun j hj => Nat.le_trans HB7.out.size (own_base hown8 hj)))
       have HO9 := Lib.hid hown9
       have HRU8 := Lib.hid hrun8
       have HRU9 := Lib.hid hrun9
       clear hb6 hb6' hb7 hrun8 hown8 hb8 hi0 hz0 hs0 hbb0 hrun9 hown9 hgr9)
    | (refine step_append_run rfl (.tmp 58) (.tmp 62) _ _ rfl _ _ _ rfl rfl HRU8.out ?_)
    | (refine step_append_run rfl (.tmp 63) (.tmp 64) _ _ rfl _ _ _ rfl rfl HRU9.out ?_))
  all_goals go_wp2_with fail
  all_goals go_ret2
  all_goals exact ⟨⟨_, rfl, row_off HO9.out HRES.out HB7.out.size⟩, HB9.out⟩
set_option maxRecDepth 100000 in
set_option maxHeartbeats 8000000 in
theorem TakeO_old {S : Nat → Prop} (A : Option Addr) (cp : Nat) (L : List Bb) (hcp : L.length ≤ cp) (h : Vl L) (k : ByteArray) (now : Nat) (hn : now ≤ 1000000000000) (he : ¬ k = ⟨#[]⟩) (h1 : ¬ Bk.left L k now = 0) (b : Bb) (hf : Bk.find (Bk.sweep L now) k = some b) (w : World) (hA : Lies S w A (bus (M L))) :
    Calls Try.prog 19 #[.slice A L.length cp, .string k, .int .i64 (now : Int)] w fun e w' => (∃ v, e = .returned (.tuple #[v, .int .i64 0]) ∧ Row (fun b => b < w.heap.size) (M (Bk.taken kl L k now)) v w') ∧ Below w.heap.size w w' := by
  have hlen := h.len
  have hml := M_length L
  have hle4 := Bk.left_le L k now
  obtain ⟨m, hm⟩ : ∃ m, Bk.left L k now = m := ⟨_, rfl⟩
  have HL := Lib.hid (Left_any A cp L h k now (by omega) w hA)
  rw [hm] at HL h1 hle4
  have hm1 : ¬ ((m : Int) < 1) := by omega
  obtain ⟨b0, b1⟩ := not_empty (show ¬ k.size = 0 from fun e => he (nil_of_size e))
  have b2 : (k.toList == (⟨#[]⟩ : ByteArray).toList) = false := str_ne he
  have HS := Lib.hid (fun W (hW : Below w.heap.size w W) => Sweep_any A cp L hcp h now (by omega) W (hA.below hW))
  have hC : ∀ W, Below w.heap.size w W → Calls Try.prog 29 #[.slice A L.length cp] W fun e w' => (∃ A' c', e = .returned (.slice A' L.length c') ∧ Row (fun b => b < w.heap.size) (M L) (.slice A' L.length c') w') ∧ Below W.heap.size W w' := fun W hW => by
    have hc := clone_any (S := S) A cp (M L) (by rw [hml]; omega) (by rw [hml]; exact hcp) W (hA.below hW)
    rw [hml] at hc
    refine hc.mono ?_
    rintro e w' ⟨⟨A', c', rfl, ho⟩, hb⟩
    exact ⟨⟨A', c', rfl, ⟨A', c', by rw [hml], by rw [hml]; exact own_cap ho, lies_made ho (fun g hg h => by have := hW.size; omega)⟩⟩, hb⟩
  have HC := Lib.hid hC
  have hvs := vl_sweep h now
  have hlow := h.rise
  obtain ⟨SL, hSL⟩ : ∃ SL, Bk.sweep L now = SL := ⟨_, rfl⟩
  have htk := taken_old hlow k now hf
  rw [hSL] at htk
  rw [hSL] at HS hvs hf
  have hhas : has SL k = true := by unfold has; rw [hf]; rfl
  have HP := Lib.hid (fun (X : Option Addr) (c : Nat) W (hX : Lies (fun b => b < w.heap.size) W X (bus (M SL))) => place_any X c SL hvs.rise k (by have := hvs.len; omega) W hX)
  have hple := pos_le k SL
  have hsl := hvs.len
  obtain ⟨p, hp⟩ : ∃ p, pos k SL = p := ⟨_, rfl⟩
  rw [hp, hhas] at HP
  rw [hp] at hple
  have HTO := Lib.hid (fun (X : Option Addr) (c : Nat) (hc : SL.length ≤ c) W => run_rows_from X SL.length c p hple hc W)
  obtain ⟨hpl, hgt, hkey⟩ := find_at hvs.rise hf
  have hok := hvs.get _ hpl
  rw [hgt] at hok
  have hlb : 1 ≤ Bk.left1 b now := by
    have e := Bk.left_sweep ordK h.rise k now
    rw [hSL] at e
    unfold Bk.left at e
    rw [hf] at e
    simp only at e
    unfold Bk.left at hm
    rw [← e] at hm
    omega
  rw [hp] at htk
  have HGP : Hid (∀ (X : Option Addr) (W : World), Lies (fun b => b < w.heap.size) W X (bus (M SL)) → ∃ a, X = some a ∧ BuAt W (a.add (p * 3)) (up b)) := Lib.hid (fun X W hX => by
    obtain ⟨a, e, hat⟩ := lies_ups hX _ hpl
    rw [hgt] at hat
    rw [← hp]
    exact ⟨a, e, hat⟩)
  rw [hp] at hpl
  obtain ⟨tl, htl⟩ : ∃ t, Bk.left1 b now - 1 = t := ⟨_, rfl⟩
  obtain ⟨ta, hta⟩ : ∃ t, b.at_ + 25 * refl1 b now = t := ⟨_, rfl⟩
  have HT := Lib.hid (fun W => taken_any b hok now (by omega) hlb W)
  rw [htl, hta] at HT
  have HRES : Hid (M (Bk.taken kl L k now) = M (SL.take p) ++ [⟨b.key, (tl : Int), (ta : Int)⟩] ++ M (SL.drop (p + 1))) := Lib.hid (by rw [htk, M_append, M_cons, List.append_assoc]; unfold less1; rw [htl, hta]; rfl)
  have HYS : Hid ((SL.drop (p + 1)).length = (SL.length - (p + 1))) := Lib.hid (List.length_drop)
  have HTO2 := Lib.hid (fun (X : Option Addr) (c : Nat) (hc : SL.length ≤ c) W => run_rows_from X SL.length c (p + 1) hpl hc W)
  clear htk htl hta hgt hkey hok hlb hhas
  clear hm hvs hC hml hlow
  go_enter Try.func19, Try.ntmps19
  go_wp2_with fail
  refine HL.out.mono ?_
  rintro e w1 ⟨rfl, hb1⟩
  have HB1 := Lib.hid hb1
  clear hb1
  go_wp2_with fail
  refine (HS.out w1 HB1.out).mono ?_
  rintro e w2 ⟨⟨v, rfl, hr⟩, hb⟩
  obtain ⟨A2, c2, rfl, hc2, hA2⟩ := hr
  rw [M_length] at hc2
  simp only [M_length]
  have hA2' : Lies (fun b => b < w.heap.size) w2 A2 (bus (M SL)) := hA2.mono (fun _ _ h => Nat.lt_of_lt_of_le h HB1.out.size)
  have HA2 := Lib.hid hA2'
  have HB2 := Lib.hid (HB1.out.trans (hb.mono HB1.out.size))
  have hcut := HTO.out A2 c2 hc2
  have hthree := run_rows_three A2 SL.length c2 p hple hc2
  have HD0 := Lib.hid (fun (A3 : Option Addr) (hA3 : (if c2 = p then A2 else A2.map fun x => x.add (p * 3)) = A3) => lies_drop HA2.out p (A' := A3) (fun hlt a e => by rw [← hA3, if_neg (by rw [M_length] at hlt; omega), e]; rfl))
  obtain ⟨A3, hA3⟩ : ∃ A3, (if c2 = p then A2 else A2.map fun x => x.add (p * 3)) = A3 := ⟨_, rfl⟩
  have HD := Lib.hid (HD0.out A3 hA3)
  rw [hA3] at hcut
  obtain ⟨n3, hn3⟩ : ∃ n, SL.length - p = n := ⟨_, rfl⟩
  obtain ⟨c3, hc3⟩ : ∃ n, c2 - p = n := ⟨_, rfl⟩
  rw [hn3, hc3] at hcut
  have HN3 := Lib.hid hn3
  clear hb hA2 hA2' HD0 hA3 hn3 hc3
  go_wp2_with fail
  refine (HP.out A2 c2 w2 HA2.out).mono ?_
  rintro e w3 ⟨rfl, hb⟩
  have HB3 := Lib.hid (HB2.out.trans (hb.mono HB2.out.size))
  have hb23 := hb
  have HA3 := Lib.hid (HA2.out.below hb)
  have HD3 := Lib.hid (HD.out.below hb)
  clear hb
  have hx5 := (Blk.new w3 54 #[.string k, .int .i64 4, .int .i64 (now : Int)]).drew
  have hb5 := ((Below.refl _ w3).alloc (Nat.le_refl _) (.cells #[.string k, .int .i64 4, .int .i64 (now : Int)] 54)).drew
  have hcut2 := HTO2.out A2 c2 hc2
  have HD9 := Lib.hid (fun (A4 : Option Addr) (hA4 : (if c2 = p + 1 then A2 else A2.map fun x => x.add ((p + 1) * 3)) = A4) => lies_drop HA2.out (p + 1) (A' := A4) (fun hlt a e => by rw [← hA4, if_neg (by rw [M_length] at hlt; omega), e]; rfl))
  obtain ⟨A4, hA4⟩ : ∃ A4, (if c2 = p + 1 then A2 else A2.map fun x => x.add ((p + 1) * 3)) = A4 := ⟨_, rfl⟩
  have HE := Lib.hid (HD9.out A4 hA4)
  have HW23 := Lib.hid hb23
  rw [hA4] at hcut2
  obtain ⟨n4, hn4⟩ : ∃ n, SL.length - (p + 1) = n := ⟨_, rfl⟩
  obtain ⟨c4, hc4⟩ : ∃ n, c2 - (p + 1) = n := ⟨_, rfl⟩
  rw [hn4, hc4] at hcut2
  have HN4 := Lib.hid hn4
  have hcc : ((p + 1 : Nat) : Int) = (p : Int) + 1 := by omega
  rw [hcc] at hcut2
  have HCUT2 := Lib.hid hcut2
  clear HD9 hA4 hn4 hc4 hcc hb23 hcut2
  go_upto_region 5 with fail
  go_region
  generalize (w3.alloc (.cells #[.string k, .int .i64 4, .int .i64 (now : Int)] 54)).drew = W5 at hx5 hb5 ⊢
  obtain ⟨b5, hb5e⟩ : ∃ b, w3.heap.size = b := ⟨_, rfl⟩
  rw [hb5e] at hx5
  simp only [hb5e]
  have HX5 := Lib.hid hx5
  have HB5 := Lib.hid (HB3.out.trans (hb5.mono HB3.out.size))
  have HA5 := Lib.hid (HA3.out.below hb5)
  have HD5 := Lib.hid (HD3.out.below hb5)
  clear hx5
  rw [HN4.out] at HYS
  obtain ⟨a2, rfl, sa⟩ := HGP.out A2 W5 HA5.out
  have HA0 : Hid (some a2 = none → p = 0) := Lib.hid (fun e => by cases e)
  have hn4b : n4 ≤ 1000 := by have := HN4.out; omega
  have hpi : (p : Int) < (SL.length : Int) := by omega
  have hwp : IntKind.i64.wrap ((p : Int) + 1) = (p : Int) + 1 := by rw [IntKind.wrap_i64]; omega
  have hcut2 := HCUT2.out
  have s0 := sa.c0
  have s1 := sa.c1
  have s2 := sa.c2
  simp only [up] at s0 s1 s2
  obtain ⟨q, hq⟩ : ∃ q, a2.add (p * 3) = q := ⟨_, rfl⟩
  rw [hq] at s0 s1 s2
  have x0 := (HX5.out.cell 0).trans rfl
  have x1 := (HX5.out.cell 1).trans rfl
  have x2 := (HX5.out.cell 2).trans rfl
  have y0 := HX5.out.frozen 0
  have y1 := HX5.out.frozen 1
  have y2 := HX5.out.frozen 2
  have hx7 := ((((HX5.out.set_ 0 (.string b.key)).set_ 1 (.int .i64 (b.left : Int))).set_ 2 (.int .i64 (b.at_ : Int))).drew)
  have hb7 := (((((hb5.setCell (p := ⟨b5, 0, none⟩) (by show _ ≤ b5; omega) (.string b.key)).setCell (p := ⟨b5, 1, none⟩) (by show _ ≤ b5; omega) (.int .i64 (b.left : Int))).setCell (p := ⟨b5, 2, none⟩) (by show _ ≤ b5; omega) (.int .i64 (b.at_ : Int))).drew))
  have hx7' : Blk ((((W5.setCell ⟨b5, 0, none⟩ (.string b.key)).setCell ⟨b5, 1, none⟩ (.int .i64 (b.left : Int))).setCell ⟨b5, 2, none⟩ (.int .i64 (b.at_ : Int))).drew) b5 54 #[.string b.key, .int .i64 (b.left : Int), .int .i64 (b.at_ : Int)] := hx7
  clear sa hb5 hx7
  go_upto_region 7 with fail
  go_region
  generalize (((W5.setCell ⟨b5, 0, none⟩ (.string b.key)).setCell ⟨b5, 1, none⟩ (.int .i64 (b.left : Int))).setCell ⟨b5, 2, none⟩ (.int .i64 (b.at_ : Int))).drew = W7 at hx7' hb7 ⊢
  have HX7 := Lib.hid hx7'
  have HBW := Lib.hid (HB3.out.trans (hb7.mono HB3.out.size))
  have HAW := Lib.hid (HA3.out.below hb7)
  have HDW := Lib.hid ((HE.out.below HW23.out).below hb7)
  have z0 := (HX7.out.cell 0).trans rfl
  have z1 := (HX7.out.cell 1).trans rfl
  have z2 := (HX7.out.cell 2).trans rfl
  clear hx7' hb7 x0 x1 x2 y0 y1 y2 s0 s1 s2
  go_wp2_with fail
  go_upto_region 10 with fail
  go_region_law (first
    | (go_simp
       go_at_call 31
       refine (HT.out _).mono ?_
       rintro e w6 ⟨rfl, hb6⟩
       have hb6' : Below W7.heap.size W7 w6 := ⟨hb6.os, hb6.tape, hb6.output, hb6.size, hb6.block⟩
       have HB6 := Lib.hid (HBW.out.trans (hb6'.mono HBW.out.size))
       have hb7 := (Below.refl _ w6).alloc (Nat.le_refl _) (.cells #[.string b.key, .int .i64 (tl : Int), .int .i64 (ta : Int)] 54)
       have HB7 := Lib.hid (HB6.out.trans (hb7.mono HB6.out.size))
       obtain ⟨X, cx, w8, hrun8, hown8, hb8⟩ := append_new (S := fun b => b < w.heap.size) (xs := M (SL.take p)) (by rw [M_length, List.length_take]; omega) (by rw [M_take]; exact lies_take' ((HAW.out.below hb6').below hb7) p) (HA0.out) (by omega) ⟨b.key, (tl : Int), (ta : Int)⟩ (Blk.new w6 54 #[.string b.key, .int .i64 (tl : Int), .int .i64 (ta : Int)]) 23
       obtain ⟨i0, hi0, hz0, hs0, hbb0⟩ := info_bu
       obtain ⟨Y, cy, w9, hrun9, hown9, hgr9⟩ := run_append_rows (P := Try.prog) w8 (w6.alloc (.cells #[.string b.key, .int .i64 (tl : Int), .int .i64 (ta : Int)] 54)).heap.size 3 (by decide) 23 23 54 i0 _ 32 Try.underlying23 hi0 hz0 hs0 hbb0 rfl _ (p + 1) _ hown8 A4 n4 c4 (bus (M (SL.drop (p + 1)))) (by rw [bus_length, M_length]; exact congrArg (· * 3) HYS.out) (by rw [M_drop]; exact ((HDW.out.below hb6').below hb7).below hb8) (bus_cell _) (by unfold maxLen; omega) (by omega) hb8.size
       have HB8 := Lib.hid (HB7.out.trans (hb8.mono HB7.out.size))
       have HB9 := Lib.hid (HB8.out.grown hgr9 HB8.out.size (fun j hj => Nat.le_trans HB7.out.size (own_base hown8 hj)))
       have HO9 := Lib.hid hown9
       have HRU8 := Lib.hid hrun8
       have HRU9 := Lib.hid hrun9
       clear hb6 hb6' hb7 hrun8 hown8 hb8 hi0 hz0 hs0 hbb0 hrun9 hown9 hgr9)
    | (refine step_append_run rfl (.tmp 58) (.tmp 62) _ _ rfl _ _ _ rfl rfl HRU8.out ?_)
    | (refine step_append_run rfl (.tmp 63) (.tmp 64) _ _ rfl _ _ _ rfl rfl HRU9.out ?_))
  all_goals go_wp2_with fail
  all_goals go_ret2
  all_goals exact ⟨⟨_, rfl, row_off HO9.out HRES.out HB7.out.size⟩, HB9.out⟩
set_option maxRecDepth 100000 in
theorem TakeO_any {S : Nat → Prop} (A : Option Addr) (cp : Nat) (L : List Bb) (hcp : L.length ≤ cp) (h : Gd L) (k : ByteArray) (now : Nat) (hn : now ≤ 1000000000000) (w : World) (hA : Lies S w A (bus (M L))) :
    Calls Try.prog 19 #[.slice A L.length cp, .string k, .int .i64 (now : Int)] w fun e w' => (∃ v, e = .returned (.tuple #[v, .int .i64 ((takeB L k now).2 : Int)]) ∧ Row (fun b => b < w.heap.size) (M (takeB L k now).1) v w') ∧ Below w.heap.size w w' := by
  by_cases h1 : k = ⟨#[]⟩ ∨ Bk.left L k now = 0
  · rw [take_a h1]
    exact TakeO_no A cp L hcp h.vl k now hn h1 w hA
  · by_cases h2 : has (Bk.sweep L now) k = false ∧ 24 ≤ (Bk.sweep L now).length
    · rw [take_b h1 h2.1 h2.2]
      exact TakeO_full A cp L hcp h.vl k now hn (fun e => h1 (.inl e)) (fun e => h1 (.inr e)) h2.1 h2.2 w hA
    · rw [take_c h1 h2]
      by_cases h3 : has (Bk.sweep L now) k = false
      · exact TakeO_new A cp L hcp h.vl k now hn (fun e => h1 (.inl e)) (fun e => h1 (.inr e)) h3 (fun e => h2 ⟨h3, e⟩) w hA
      · obtain ⟨b, hb⟩ := has_some h3
        exact TakeO_old A cp L hcp h.vl k now hn (fun e => h1 (.inl e)) (fun e => h1 (.inr e)) b hb w hA
end Go.Proofs.Ytbldonkfboahmaa
