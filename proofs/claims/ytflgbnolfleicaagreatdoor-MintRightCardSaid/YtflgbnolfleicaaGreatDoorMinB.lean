/-
  Contracts of package mint: plain texts and digests. Condition: the tables hold what their text says; texts of 50000 bytes at most.
-/
import Derived.Test.YtflgbnolfleicaaGreatDoorMinA
import Derived.Test.YtflgbnolfleicaaGreatDoorMinM
import Derived.Test.YtflgbnolfleicaaGreatDoorTkE
import Derived.Test.YtflgbnolfleicaaGreatDoorTkI
namespace Go.Proofs.YtflgbnolfleicaaGreatDoor
open Go.RowKit

/-- The library's table of powers of ten. -/
def PowIs (w : World) : Prop := Lib.TabIs Tryz.prog w "internal/strconv.uint64pow10" .u64 Lib.pow10Tab
theorem PowIs.next {w w' : World} (h : PowIs w) (hb : Below w.heap.size w w') : PowIs w' := Lib.tabBelow_of_tabIs h w' hb
def plainB (p : Int) (d : List UInt8) : Bool := decide (1 ≤ p ∧ p ≤ 6) && decide (d.length = 10)
def plainL (p : Int) (d : List UInt8) : List UInt8 := if 1 ≤ p ∧ p ≤ 6 ∧ d.length = 10 then (if p = 4 then Tk.code (Mi.num (d.take 8) % 1000000) else Tk.enc d) else []
theorem plainL_length (p : Int) (d : List UInt8) : (plainL p d).length ≤ 16 := by
  unfold plainL
  split
  · split
    · rw [Tk.code_length]; decide
    · rw [Tk.enc_length]; omega
  · simp
set_option maxRecDepth 100000 in
set_option maxHeartbeats 1000000 in
theorem plain_any (p : Int) (d : List UInt8) (_hd : d.length ≤ 100000) (w : World) (hp : PowIs w) :
    Calls Tryz.prog 18 #[.int .i64 p, .string (ba d)] w fun e w' => e = .returned (.tuple #[.string (ba (plainL p d)), .bool (plainB p d)]) ∧ Below w.heap.size w w' := by
  have HP := Lib.hid (ispurpose_any p w)
  have hz := ba_size d
  unfold plainL plainB
  by_cases h1 : 1 ≤ p ∧ p ≤ 6
  · rw [decide_eq_true h1] at HP ⊢
    by_cases h2 : d.length = 10
    · rw [if_pos ⟨h1.1, h1.2, h2⟩, decide_eq_true h2]
      have hzi : ((ba d).size : Int) = 10 := by omega
      by_cases h4 : p = 4
      · subst h4
        rw [if_pos rfl]
        have HN := Lib.hid (fun W => number_any (ba (d.take 8)) (by rw [ba_size, List.length_take]; omega) W)
        rw [ba_list] at HN
        have HC := Lib.hid (fun W (h : PowIs W) => code_any (Mi.num (d.take 8)) (Mi.num8_lt d) W h)
        have hcut : ∀ W, (Instr.slice 9 (.string (ba d)) none (some (.int .i64 8)) none).run Tryz.prog W = .ok (.string (ba (d.take 8))) W := fun W => run_to d 8 (by omega) W
        generalize Mi.num (d.take 8) = n at HN HC ⊢
        generalize ba (d.take 8) = X at HN hcut
        generalize Tk.code (n % 1000000) = C at HC ⊢
        have HPW := Lib.hid hp
        clear hp hz h2
        go_enter Tryz.func18, Tryz.ntmps18
        go_wp2_with fail
        refine HP.out.mono ?_
        rintro e w1 ⟨rfl, hb1⟩
        have HB1 := Lib.hid hb1
        clear hb1
        go_wp2_with fail
        refine (HN.out _).mono ?_
        rintro e w2 ⟨rfl, hb2⟩
        have HB2 := Lib.hid (HB1.out.trans (hb2.mono HB1.out.size))
        clear hb2
        go_wp2_with fail
        refine (HC.out _ (HPW.out.next HB2.out)).mono ?_
        rintro e w3 ⟨rfl, hb3⟩
        have HB3 := Lib.hid (HB2.out.trans (hb3.mono HB2.out.size))
        clear hb3
        go_wp2_with fail
        go_ret2
        exact ⟨rfl, HB3.out⟩
      · rw [if_neg h4]
        have HE := Lib.hid (fun W => token_any (ba d) (by omega) W)
        unfold tokS at HE
        rw [ba_list, if_pos h2] at HE
        generalize ba (Tk.enc d) = C at HE ⊢
        clear hp hz h2
        go_enter Tryz.func18, Tryz.ntmps18
        go_wp2_with fail
        refine HP.out.mono ?_
        rintro e w1 ⟨rfl, hb1⟩
        have HB1 := Lib.hid hb1
        clear hb1
        go_wp2_with fail
        refine (HE.out _).mono ?_
        rintro e w2 ⟨rfl, hb2⟩
        have HB2 := Lib.hid (HB1.out.trans (hb2.mono HB1.out.size))
        clear hb2
        go_wp2_with fail
        go_ret2
        exact ⟨rfl, HB2.out⟩
    · rw [if_neg (by omega), decide_eq_false h2]
      have hzi : ¬ ((ba d).size : Int) = 10 := by omega
      clear hp hz
      go_enter Tryz.func18, Tryz.ntmps18
      go_wp2_with fail
      refine HP.out.mono ?_
      rintro e w1 ⟨rfl, hb1⟩
      have HB1 := Lib.hid hb1
      clear hb1
      go_wp2_with fail
      go_ret2
      exact ⟨rfl, HB1.out⟩
  · rw [if_neg (by omega)]
    rw [decide_eq_false h1] at HP ⊢
    clear hp hz
    go_enter Tryz.func18, Tryz.ntmps18
    go_wp2_with fail
    refine HP.out.mono ?_
    rintro e w1 ⟨rfl, hb1⟩
    have HB1 := Lib.hid hb1
    clear hb1
    go_wp2_with fail
    go_ret2
    exact ⟨rfl, HB1.out⟩

/-- The byte of a purpose. -/
def pbyte (p : Int) : UInt8 := UInt8.ofNat (p % 256).toNat
theorem pbyte_wrap (p : Int) : IntKind.u8.wrap p = (((pbyte p).toNat : Nat) : Int) := by
  unfold pbyte
  rw [UInt8.toNat_ofNat']
  unfold IntKind.wrap
  simp [IntKind.bits, IntKind.signed]
  omega
noncomputable def digL (p : Int) (l : List UInt8) : List UInt8 := dig (pbyte p :: Tk.clean l)
set_option maxRecDepth 100000 in
set_option maxHeartbeats 800000 in
theorem digest_any {mp : Option Addr} {S : Nat → Prop} {st : World → Nat → Prop} (M : Mt mp S st) (p : Int) (l : List UInt8) (hl : l.length ≤ 50000) (k : Nat) (hk : k ≤ 1000000) (w : World) (hst : st w k) (hT : Tab w) :
    Calls Tryz.prog 16 #[.pointer mp, .int .i64 p, .string (ba l)] w fun e w' => e = .returned (.string (ba (digL p l))) ∧ st w' (k + 1) ∧ Kept S w w' := by
  have hz := ba_size l
  have HC := Lib.hid (fun W => clean_any (ba l) (by omega) W)
  rw [ba_list] at HC
  have hcs : (ba (Tk.clean l)).size ≤ 50000 := by rw [ba_size]; have := Tk.clean_length l; omega
  have hw8 := pbyte_wrap p
  have HS : Hid (∀ (W W2 : World) (g : Nat), g = W.heap.size → W2 = W.alloc (.cells #[.string (ba [pbyte p]), .string (ba (Tk.clean l))] 9) → Below w.heap.size w W →
      Calls Tryz.prog 32 #[.pointer mp, .slice (some ⟨g, 0, none⟩) 2 2] W2 fun e w' => e = .returned (.string (ba (dig ((ba [pbyte p]).data.toList ++ (ba (Tk.clean l)).data.toList)))) ∧ st w' (k + 1) ∧ Kept S w w') :=
    Lib.hid (by rintro W _ _ rfl rfl h; exact M.two (ba [pbyte p]) (ba (Tk.clean l)) (by have : (ba [pbyte p]).size = 1 := rfl; omega) k hk w hst hT W h)
  rw [ba_list, ba_list] at HS
  have hcv : ∀ (W : World) (g : Nat), W.cell? ⟨g, 0, none⟩ = some (.int .u8 ((pbyte p).toNat : Int)) → (convert 46 9 (.slice (some ⟨g, 0, none⟩) 1 1)).run Tryz.prog W = .ok (.string (ba [pbyte p])) W := fun W g h => run_one W g _ (pbyte p) rfl h
  unfold digL
  have HR : Hid (dig (pbyte p :: Tk.clean l) = dig ([pbyte p] ++ Tk.clean l)) := Lib.hid rfl
  rw [HR.out]
  generalize dig ([pbyte p] ++ Tk.clean l) = R at HS HR ⊢
  generalize ba (Tk.clean l) = CL at HC HS hcs
  generalize ba [pbyte p] = X at HS hcv
  obtain ⟨b, hb⟩ : ∃ b, (pbyte p).toNat = b := ⟨_, rfl⟩
  rw [hb] at hw8 hcv
  clear hst hT hb hcs hz HR
  go_enter Tryz.func16, Tryz.ntmps16
  go_wp2_with fail
  go_region_with (first
    | (go_at_call 33
       refine (HC.out _).mono ?_
       rintro e w3 ⟨rfl, hb3⟩
       have hcl := fun (g : Nat) hg => hcv w3 g (cell_on hb3 (b : Int) g hg)
       first
         | have hBa : Below w.heap.size w w3 := (((Below.refl _ w).alloc (Nat.le_refl _) _).drew).trans (hb3.mono (by simp))
         | have hBb : Below w.heap.size w w3 := (Below.refl _ w).drew.trans (hb3.mono (Nat.le_refl _))
       clear hb3)
    | (go_at_call 32
       first
         | (have hB3 := hBa; refine (HS.out w3 _ _ rfl rfl hB3).mono ?_; rintro e w4 ⟨rfl, s4, k4⟩)
         | (have hB3 := hBb; refine (HS.out (w3.alloc (.cells #[.int .u8 (b : Int)] 5)) _ _ (by simp) rfl (hB3.alloc hB3.size _)).mono ?_; rintro e w4 ⟨rfl, s4, k4⟩)))
  all_goals go_wp2_with fail
  all_goals go_ret
  all_goals exact ⟨rfl, s4, k4⟩
end Go.Proofs.YtflgbnolfleicaaGreatDoor
