/-
  Contract of the document's times: a product of two numbers, in halves of 64 bits. Condition: the first number is below 2 ^ 38, the other one below 2 ^ 76.
-/
import Derived.LoopTactic
import Derived.BigQuiet
import Derived.Deep.QuietTactic
import Derived.Deep.WholeRow
import Derived.Test.YthaejfbbefpojaaDoorWords
import Derived.Test.YthaejfbbefpojaaDoorMem
namespace Go.Proofs.YthaejfbbefpojaaDoor
open Go.RowKit

theorem Blk.new2' (w : World) (o1 : Obj) (t : TypeId) (cs : Array Value) : Blk ((w.alloc o1).alloc (.cells cs t)) (w.heap.size + 1) t cs := by
  have := Blk.new (w.alloc o1) t cs
  simpa using this
theorem Blk.new3' (w : World) (o1 o2 : Obj) (t : TypeId) (cs : Array Value) : Blk (((w.alloc o1).alloc o2).alloc (.cells cs t)) (w.heap.size + 1 + 1) t cs := by
  have := Blk.new ((w.alloc o1).alloc o2) t cs
  simpa using this
theorem Blk.new4' (w : World) (o1 o2 o3 : Obj) (t : TypeId) (cs : Array Value) : Blk ((((w.alloc o1).alloc o2).alloc o3).alloc (.cells cs t)) (w.heap.size + 1 + 1 + 1) t cs := by
  have := Blk.new (((w.alloc o1).alloc o2).alloc o3) t cs
  simpa using this
theorem sz2 : (Tryd.prog.info? 87).map (·.size) = some 2 := by kernel_rfl
/-- Numbers of 64 bits as cells. -/
def ul (l : List Nat) : Array Value := (cn l).toArray
theorem ul_size (l : List Nat) : (ul l).size = l.length := by simp [ul, cn]
theorem Blk.ul {w : World} {g : Nat} {t : TypeId} {l : List Nat} (h : Blk w g t (Go.Proofs.YthaejfbbefpojaaDoor.ul l)) (i : Nat) (x : Nat) (hx : l[i]? = some x) : w.cell? ⟨g, i, none⟩ = some (.int .u64 (x : Int)) := by
  rw [h.cell]
  have := (List.getElem?_eq_some_iff.1 hx)
  obtain ⟨h1, h2⟩ := this
  have := cn_get l i h1
  rw [h2] at this
  simpa [Go.Proofs.YthaejfbbefpojaaDoor.ul] using this
theorem Blk.ulSet {w : World} {g : Nat} {t : TypeId} {l : List Nat} (h : Blk w g t (Go.Proofs.YthaejfbbefpojaaDoor.ul l)) (i : Nat) (x : Nat) : Blk (w.setCell ⟨g, i, none⟩ (.int .u64 (x : Int))) g t (Go.Proofs.YthaejfbbefpojaaDoor.ul (l.set i x)) := by
  have e : (Go.Proofs.YthaejfbbefpojaaDoor.ul l).setIfInBounds i (.int .u64 (x : Int)) = Go.Proofs.YthaejfbbefpojaaDoor.ul (l.set i x) := by simp [Go.Proofs.YthaejfbbefpojaaDoor.ul, cn, List.map_set]
  rw [← e]
  exact h.set_ i _
theorem mask32 (t : Nat) (h : t < 18446744073709551616) : bits BinOp.and IntKind.u64 (t : Int) 4294967295 = ((t % 4294967296 : Nat) : Int) := by
  have h1 := u64_and_nat t 4294967295 h (by decide)
  rw [show (4294967295 : Nat) = 2 ^ 32 - 1 from rfl, Nat.and_two_pow_sub_one_eq_mod] at h1
  exact h1
/-- What so many products come to. -/
def Acc (p00 p01 p02 p03 p10 p11 p12 : Nat) : Nat → Nat → Nat
  | 0, 0 => 0
  | 0, 1 => p00 * 1
  | 0, 2 => p00 * 1 + p01 * 4294967296
  | 0, 3 => p00 * 1 + p01 * 4294967296 + p02 * 18446744073709551616
  | 0, 4 => p00 * 1 + p01 * 4294967296 + p02 * 18446744073709551616 + p03 * 79228162514264337593543950336
  | 1, 0 => p00 * 1 + p01 * 4294967296 + p02 * 18446744073709551616 + p03 * 79228162514264337593543950336
  | 1, 1 => p00 * 1 + p01 * 4294967296 + p02 * 18446744073709551616 + p03 * 79228162514264337593543950336 + p10 * 4294967296
  | 1, 2 => p00 * 1 + p01 * 4294967296 + p02 * 18446744073709551616 + p03 * 79228162514264337593543950336 + p10 * 4294967296 + p11 * 18446744073709551616
  | 1, 3 => p00 * 1 + p01 * 4294967296 + p02 * 18446744073709551616 + p03 * 79228162514264337593543950336 + p10 * 4294967296 + p11 * 18446744073709551616 + p12 * 79228162514264337593543950336
  | _, _ => 0

def pw : Nat → Nat → Nat
  | 0, 0 => 1
  | 0, 1 => 4294967296
  | 0, 2 => 18446744073709551616
  | 0, 3 => 79228162514264337593543950336
  | 0, 4 => 340282366920938463463374607431768211456
  | 1, 0 => 4294967296
  | 1, 1 => 18446744073709551616
  | 1, 2 => 79228162514264337593543950336
  | 1, 3 => 340282366920938463463374607431768211456
  | _, _ => 1
structure Mul (p00 p01 p02 p03 p10 p11 p12 i q n0 n1 n2 n3 c : Nat) : Prop where
  b0 : n0 < 4294967296
  b1 : n1 < 4294967296
  b2 : n2 < 4294967296
  b3 : n3 < 4294967296
  bc : c < 4294967296
  eq : n0 + n1 * 4294967296 + n2 * 18446744073709551616 + n3 * 79228162514264337593543950336 + c * pw i q = Acc p00 p01 p02 p03 p10 p11 p12 i q

theorem lin0 (n0 n1 n2 n3 c C p00 p01 p02 p03 p10 p11 p12 N : Nat) (hC : 0 < c → 340282366920938463463374607431768211456 ≤ C) (h : n0 + n1 * 4294967296 + n2 * 18446744073709551616 + n3 * 79228162514264337593543950336 + C = p00 + p01 * 4294967296 + p02 * 18446744073709551616 + p03 * 79228162514264337593543950336) (h1 : p00 + p01 * 4294967296 + p02 * 18446744073709551616 + p03 * 79228162514264337593543950336 + p10 * 4294967296 + p11 * 18446744073709551616 + p12 * 79228162514264337593543950336 = N) (h2 : N < 340282366920938463463374607431768211456) : c = 0 := by
  rcases Nat.eq_zero_or_pos c with h0 | h0
  · exact h0
  · exfalso
    have := hC h0
    grind
theorem lin1 (S c C N : Nat) (hC : 0 < c → 340282366920938463463374607431768211456 ≤ C) (h : S + C = N) (h2 : N < 340282366920938463463374607431768211456) : c = 0 := by
  rcases Nat.eq_zero_or_pos c with h0 | h0
  · exact h0
  · exfalso
    have := hC h0
    grind
theorem le_mul_lit (c K : Nat) (h : 0 < c) : K ≤ c * K := Nat.le_mul_of_pos_left K h
theorem mul_turn {p00 p01 p02 p03 p10 p11 p12 n0 n1 n2 n3 c N : Nat} (hN : Acc p00 p01 p02 p03 p10 p11 p12 1 3 = N ∧ N < 340282366920938463463374607431768211456) (h : Mul p00 p01 p02 p03 p10 p11 p12 0 4 n0 n1 n2 n3 c) : Mul p00 p01 p02 p03 p10 p11 p12 1 0 n0 n1 n2 n3 0 := by
  obtain ⟨b0, b1, b2, b3, bc, heq⟩ := h
  obtain ⟨h1, h2⟩ := hN
  refine Mul.mk b0 b1 b2 b3 (by decide) ?_
  simp only [Acc, pw, Nat.mul_one] at heq h1 ⊢
  have hc := lin0 n0 n1 n2 n3 c _ p00 p01 p02 p03 p10 p11 p12 N (le_mul_lit c 340282366920938463463374607431768211456) heq h1 h2
  rw [hc, Nat.zero_mul] at heq
  rw [Nat.zero_mul]
  exact heq
theorem mul_last {p00 p01 p02 p03 p10 p11 p12 n0 n1 n2 n3 c N : Nat} (hN : Acc p00 p01 p02 p03 p10 p11 p12 1 3 = N ∧ N < 340282366920938463463374607431768211456) (h : Mul p00 p01 p02 p03 p10 p11 p12 1 3 n0 n1 n2 n3 c) : Mul p00 p01 p02 p03 p10 p11 p12 1 3 n0 n1 n2 n3 0 := by
  obtain ⟨b0, b1, b2, b3, bc, heq⟩ := h
  obtain ⟨h1, h2⟩ := hN
  refine Mul.mk b0 b1 b2 b3 (by decide) ?_
  simp only [Acc, pw, Nat.mul_one] at heq h1 ⊢
  have hc := lin1 _ c _ N (le_mul_lit c 340282366920938463463374607431768211456) (heq.trans h1) h2
  rw [hc, Nat.zero_mul] at heq
  rw [Nat.zero_mul]
  exact heq
theorem mul_out {p00 p01 p02 p03 p10 p11 p12 n0 n1 n2 n3 N : Nat} (hN : Acc p00 p01 p02 p03 p10 p11 p12 1 3 = N ∧ N < 340282366920938463463374607431768211456) (h : Mul p00 p01 p02 p03 p10 p11 p12 1 3 n0 n1 n2 n3 0) : N / 18446744073709551616 = n2 + n3 * 4294967296 ∧ N % 18446744073709551616 = n0 + n1 * 4294967296 := by
  obtain ⟨b0, b1, b2, b3, bc, heq⟩ := h
  rw [Nat.zero_mul, Nat.add_zero] at heq
  have e : N = (n0 + n1 * 4294967296) + (n2 + n3 * 4294967296) * 18446744073709551616 := by
    rw [← hN.1, ← heq]
    grind
  have hL : n0 + n1 * 4294967296 < 18446744073709551616 := by omega
  clear heq hN
  subst e
  exact ⟨by rw [Nat.add_mul_div_right _ _ (by decide), Nat.div_eq_of_lt hL, Nat.zero_add], by rw [Nat.add_mul_mod_self_right, Nat.mod_eq_of_lt hL]⟩
theorem mul_lt (x y : Nat) (hx : x < 4294967296) (hy : y < 4294967296) : x * y ≤ 18446744065119617025 := by
  have := Nat.mul_le_mul (show x ≤ 4294967295 by omega) (show y ≤ 4294967295 by omega)
  exact this
structure Prods (x0 x1 y0 y1 y2 y3 p00 p01 p02 p03 p10 p11 p12 : Nat) : Prop where
  e00 : x0 * y0 = p00
  e01 : x0 * y1 = p01
  e02 : x0 * y2 = p02
  e03 : x0 * y3 = p03
  e10 : x1 * y0 = p10
  e11 : x1 * y1 = p11
  e12 : x1 * y2 = p12
  b00 : p00 ≤ 18446744065119617025
  b01 : p01 ≤ 18446744065119617025
  b02 : p02 ≤ 18446744065119617025
  b03 : p03 ≤ 18446744065119617025
  b10 : p10 ≤ 18446744065119617025
  b11 : p11 ≤ 18446744065119617025
  b12 : p12 ≤ 18446744065119617025
theorem times_sum (a hi lo : Nat) (ha : a < 274877906944) (hh : hi < 4096) (hl : lo < 18446744073709551616) :
    Acc (a % 4294967296 * (lo % 4294967296)) (a % 4294967296 * (lo / 4294967296)) (a % 4294967296 * (hi % 4294967296)) (a % 4294967296 * (hi / 4294967296)) (a / 4294967296 * (lo % 4294967296)) (a / 4294967296 * (lo / 4294967296)) (a / 4294967296 * (hi % 4294967296)) 1 3 = a * (hi * 18446744073709551616 + lo) ∧ a * (hi * 18446744073709551616 + lo) < 340282366920938463463374607431768211456 := by
  have h3 : hi / 4294967296 = 0 := by omega
  have h4 : hi % 4294967296 = hi := by omega
  have hx : a = a % 4294967296 + a / 4294967296 * 4294967296 := by omega
  have hy : lo = lo % 4294967296 + lo / 4294967296 * 4294967296 := by omega
  rw [h3, h4]
  constructor
  · simp only [Acc]
    generalize a % 4294967296 = x0 at hx
    generalize a / 4294967296 = x1 at hx
    generalize lo % 4294967296 = y0 at hy
    generalize lo / 4294967296 = y1 at hy
    subst hx hy
    grind
  · have := Nat.mul_le_mul (show a ≤ 274877906943 by omega) (show hi * 18446744073709551616 + lo ≤ 75557863725914323419135 by omega)
    omega

set_option maxRecDepth 100000 in
set_option maxHeartbeats 4000000 in
theorem times_any (a hi lo : Nat) (ha : a < 274877906944) (hh : hi < 4096) (hl : lo < 18446744073709551616) (w : World) :
    Calls Tryd.prog 51 #[.int .u64 (a : Int), .int .u64 (hi : Int), .int .u64 (lo : Int)] w fun e w' => e = .returned (.agg (ul [a * (hi * 18446744073709551616 + lo) / 18446744073709551616, a * (hi * 18446744073709551616 + lo) % 18446744073709551616])) ∧ Below w.heap.size w w' := by
  have m1 := mask32 a (by omega)
  have m2 := mask32 lo (by omega)
  have m3 := mask32 hi (by omega)
  have d1 : (a : Int) / 4294967296 = ((a / 4294967296 : Nat) : Int) := by omega
  have d2 : (lo : Int) / 4294967296 = ((lo / 4294967296 : Nat) : Int) := by omega
  have d3 : (hi : Int) / 4294967296 = ((hi / 4294967296 : Nat) : Int) := by omega
  obtain ⟨x0, hx0⟩ : ∃ x, a % 4294967296 = x := ⟨_, rfl⟩
  obtain ⟨x1, hx1⟩ : ∃ x, a / 4294967296 = x := ⟨_, rfl⟩
  obtain ⟨y0, hy0⟩ : ∃ x, lo % 4294967296 = x := ⟨_, rfl⟩
  obtain ⟨y1, hy1⟩ : ∃ x, lo / 4294967296 = x := ⟨_, rfl⟩
  obtain ⟨y2, hy2⟩ : ∃ x, hi % 4294967296 = x := ⟨_, rfl⟩
  obtain ⟨y3, hy3⟩ : ∃ x, hi / 4294967296 = x := ⟨_, rfl⟩
  rw [hx0] at m1
  rw [hx1] at d1
  rw [hy0] at m2
  rw [hy1] at d2
  rw [hy2] at m3
  rw [hy3] at d3
  have HP := Lib.hid (Prods.mk (x0 := x0) (x1 := x1) (y0 := y0) (y1 := y1) (y2 := y2) (y3 := y3) rfl rfl rfl rfl rfl rfl rfl (mul_lt x0 y0 (by omega) (by omega)) (mul_lt x0 y1 (by omega) (by omega)) (mul_lt x0 y2 (by omega) (by omega)) (mul_lt x0 y3 (by omega) (by omega)) (mul_lt x1 y0 (by omega) (by omega)) (mul_lt x1 y1 (by omega) (by omega)) (mul_lt x1 y2 (by omega) (by omega)))
  have HF := Lib.hid (times_sum a hi lo ha hh hl)
  rw [hx0, hx1, hy0, hy1, hy2, hy3] at HF
  generalize x0 * y0 = p00 at HP HF
  generalize x0 * y1 = p01 at HP HF
  generalize x0 * y2 = p02 at HP HF
  generalize x0 * y3 = p03 at HP HF
  generalize x1 * y0 = p10 at HP HF
  generalize x1 * y1 = p11 at HP HF
  generalize x1 * y2 = p12 at HP HF
  clear hx0 hx1 hy0 hy1 hy2 hy3
  go_enter Tryd.func51, Tryd.ntmps51
  go_wp2_with fail
  go_loopw [10, 11, 12, 13] (fun i _ _ _ wr => ∃ (q n0 n1 n2 n3 : Nat), i = .int .i64 q ∧ q ≤ 2 ∧ (q = 0 ∧ Mul p00 p01 p02 p03 p10 p11 p12 0 0 n0 n1 n2 n3 0 ∨ q = 1 ∧ Mul p00 p01 p02 p03 p10 p11 p12 1 0 n0 n1 n2 n3 0 ∨ q = 2 ∧ Mul p00 p01 p02 p03 p10 p11 p12 1 3 n0 n1 n2 n3 0) ∧ Blk wr w.heap.size 87 (ul [0, 0]) ∧ Blk wr (w.heap.size + 1) 98 (ul [n0, n1, n2, n3]) ∧ Blk wr (w.heap.size + 1 + 1) 87 (ul [x0, x1]) ∧ Blk wr (w.heap.size + 1 + 1 + 1) 98 (ul [y0, y1, y2, y3]) ∧ Below w.heap.size w wr)
    (fun i _ _ _ _ => 2 - (intOf i).toNat)
  case atStart =>
    refine ⟨0, 0, 0, 0, 0, rfl, by omega, .inl ⟨rfl, ⟨by omega, by omega, by omega, by omega, by omega, rfl⟩⟩, (((Blk.new w _ _).alloc _).alloc _).alloc _, (((Blk.new2' w _ _ _).alloc _).alloc _), ?_, ?_, ?_⟩
    · exact (Blk.new3' _ _ _ _ _).alloc _
    · exact Blk.new4' _ _ _ _ _ _
    · exact ((((Below.refl _ w).alloc (Nat.le_refl _) _).alloc (by simp) _).alloc (by simp; omega) _).alloc (by simp; omega) _
  case round =>
    obtain ⟨q, n0, n1, n2, n3, rfl, hq, hmul, E0, E1, E2, E3, EB⟩ := hrel
    rcases hmul with ⟨rfl, hmul⟩ | ⟨rfl, hmul⟩ | ⟨rfl, hmul⟩
    · have HE1 := Lib.hid E1
      have HE2 := Lib.hid E2
      have HE3 := Lib.hid E3
      have HE0 := Lib.hid E0
      have HEB := Lib.hid EB
      have HM := Lib.hid hmul
      clear E0 E1 E2 E3 EB hmul
      go_wp2_with fail
      go_loopw [11, 12, 13] (fun cv k _ wr => ∃ (q n0 n1 n2 n3 c : Nat), k = .int .i64 q ∧ q ≤ 4 ∧ cv = .int .u64 (c : Int) ∧ Mul p00 p01 p02 p03 p10 p11 p12 0 q n0 n1 n2 n3 c ∧ Blk wr w.heap.size 87 (ul [0, 0]) ∧ Blk wr (w.heap.size + 1) 98 (ul [n0, n1, n2, n3]) ∧ Blk wr (w.heap.size + 1 + 1) 87 (ul [x0, x1]) ∧ Blk wr (w.heap.size + 1 + 1 + 1) 98 (ul [y0, y1, y2, y3]) ∧ Below w.heap.size w wr)
        (fun _ k _ _ => 4 - (intOf k).toNat)
      case atStart => exact ⟨0, n0, n1, n2, n3, 0, rfl, by omega, rfl, HM.out, HE0.out, HE1.out, HE2.out, HE3.out, HEB.out⟩
      case round =>
        clear HM HE0 HE1 HE2 HE3 HEB
        obtain ⟨q, n0, n1, n2, n3, c, rfl, hq, rfl, hmul, E0, E1, E2, E3, EB⟩ := hrel
        rcases (by omega : q = 0 ∨ q = 1 ∨ q = 2 ∨ q = 3 ∨ q = 4) with rfl | rfl | rfl | rfl | rfl
        · obtain ⟨b0, b1, b2, b3, bc, heq⟩ := hmul
          have e1 := Blk.ul E1 0 n0 rfl
          have e2 := Blk.ul E2 0 x0 rfl
          have e3 := Blk.ul E3 0 y0 rfl
          have e4 := Blk.frozen E1 0
          have pr : (x0 : Int) * (y0 : Int) = (p00 : Int) := by rw [← Int.natCast_mul]; exact congrArg _ HP.out.e00
          have pb := HP.out.b00
          obtain ⟨t0, ht0⟩ : ∃ t, (n0 + p00 + c) % 4294967296 = t := ⟨_, rfl⟩
          obtain ⟨t1, ht1⟩ : ∃ t, (n0 + p00 + c) / 4294967296 = t := ⟨_, rfl⟩
          have mk : bits BinOp.and IntKind.u64 ((n0 : Int) + (p00 : Int) + (c : Int)) 4294967295 = (t0 : Int) := by have := mask32 (n0 + p00 + c) (by omega); rw [ht0] at this; exact this
          have dv : ((n0 : Int) + (p00 : Int) + (c : Int)) / 4294967296 = (t1 : Int) := by omega
          have HE1 := Lib.hid E1
          have HE2 := Lib.hid E2
          have HE3 := Lib.hid E3
          have HE0 := Lib.hid E0
          have HEB := Lib.hid EB
          have HN : Hid (Mul p00 p01 p02 p03 p10 p11 p12 0 1 t0 n1 n2 n3 t1) := by
            have hdm : t0 + t1 * 4294967296 = n0 + p00 + c := by omega
            refine Lib.hid ⟨by omega, by omega, by omega, by omega, by omega, ?_⟩
            clear ht0 ht1 mk dv pr
            simp only [Acc, pw, Nat.mul_one] at heq ⊢
            grind
          clear E0 E1 E2 E3 EB heq ht0 ht1
          go_wp2_with fail
          go_quiet (fail)
          go_wp2_with fail
          go_roundw
          case rel => exact ⟨1, t0, n1, n2, n3, t1, rfl, by omega, rfl, HN.out, Blk.far (w := wr.drewN _) HE0.out (by dsimp only; omega) _, Blk.ulSet (w := wr.drewN _) HE1.out 0 t0, Blk.far (w := wr.drewN _) HE2.out (by dsimp only; omega) _, Blk.far (w := wr.drewN _) HE3.out (by dsimp only; omega) _, (below_drewN HEB.out _).setCell (by dsimp only; omega) _⟩
          case measure => decide
        · obtain ⟨b0, b1, b2, b3, bc, heq⟩ := hmul
          have e1 := Blk.ul E1 1 n1 rfl
          have e2 := Blk.ul E2 0 x0 rfl
          have e3 := Blk.ul E3 1 y1 rfl
          have e4 := Blk.frozen E1 1
          have pr : (x0 : Int) * (y1 : Int) = (p01 : Int) := by rw [← Int.natCast_mul]; exact congrArg _ HP.out.e01
          have pb := HP.out.b01
          obtain ⟨t0, ht0⟩ : ∃ t, (n1 + p01 + c) % 4294967296 = t := ⟨_, rfl⟩
          obtain ⟨t1, ht1⟩ : ∃ t, (n1 + p01 + c) / 4294967296 = t := ⟨_, rfl⟩
          have mk : bits BinOp.and IntKind.u64 ((n1 : Int) + (p01 : Int) + (c : Int)) 4294967295 = (t0 : Int) := by have := mask32 (n1 + p01 + c) (by omega); rw [ht0] at this; exact this
          have dv : ((n1 : Int) + (p01 : Int) + (c : Int)) / 4294967296 = (t1 : Int) := by omega
          have HE1 := Lib.hid E1
          have HE2 := Lib.hid E2
          have HE3 := Lib.hid E3
          have HE0 := Lib.hid E0
          have HEB := Lib.hid EB
          have HN : Hid (Mul p00 p01 p02 p03 p10 p11 p12 0 2 n0 t0 n2 n3 t1) := by
            have hdm : t0 + t1 * 4294967296 = n1 + p01 + c := by omega
            refine Lib.hid ⟨by omega, by omega, by omega, by omega, by omega, ?_⟩
            clear ht0 ht1 mk dv pr
            simp only [Acc, pw, Nat.mul_one] at heq ⊢
            grind
          clear E0 E1 E2 E3 EB heq ht0 ht1
          go_wp2_with fail
          go_quiet (fail)
          go_wp2_with fail
          go_roundw
          case rel => exact ⟨2, n0, t0, n2, n3, t1, rfl, by omega, rfl, HN.out, Blk.far (w := wr.drewN _) HE0.out (by dsimp only; omega) _, Blk.ulSet (w := wr.drewN _) HE1.out 1 t0, Blk.far (w := wr.drewN _) HE2.out (by dsimp only; omega) _, Blk.far (w := wr.drewN _) HE3.out (by dsimp only; omega) _, (below_drewN HEB.out _).setCell (by dsimp only; omega) _⟩
          case measure => decide
        · obtain ⟨b0, b1, b2, b3, bc, heq⟩ := hmul
          have e1 := Blk.ul E1 2 n2 rfl
          have e2 := Blk.ul E2 0 x0 rfl
          have e3 := Blk.ul E3 2 y2 rfl
          have e4 := Blk.frozen E1 2
          have pr : (x0 : Int) * (y2 : Int) = (p02 : Int) := by rw [← Int.natCast_mul]; exact congrArg _ HP.out.e02
          have pb := HP.out.b02
          obtain ⟨t0, ht0⟩ : ∃ t, (n2 + p02 + c) % 4294967296 = t := ⟨_, rfl⟩
          obtain ⟨t1, ht1⟩ : ∃ t, (n2 + p02 + c) / 4294967296 = t := ⟨_, rfl⟩
          have mk : bits BinOp.and IntKind.u64 ((n2 : Int) + (p02 : Int) + (c : Int)) 4294967295 = (t0 : Int) := by have := mask32 (n2 + p02 + c) (by omega); rw [ht0] at this; exact this
          have dv : ((n2 : Int) + (p02 : Int) + (c : Int)) / 4294967296 = (t1 : Int) := by omega
          have HE1 := Lib.hid E1
          have HE2 := Lib.hid E2
          have HE3 := Lib.hid E3
          have HE0 := Lib.hid E0
          have HEB := Lib.hid EB
          have HN : Hid (Mul p00 p01 p02 p03 p10 p11 p12 0 3 n0 n1 t0 n3 t1) := by
            have hdm : t0 + t1 * 4294967296 = n2 + p02 + c := by omega
            refine Lib.hid ⟨by omega, by omega, by omega, by omega, by omega, ?_⟩
            clear ht0 ht1 mk dv pr
            simp only [Acc, pw, Nat.mul_one] at heq ⊢
            grind
          clear E0 E1 E2 E3 EB heq ht0 ht1
          go_wp2_with fail
          go_quiet (fail)
          go_wp2_with fail
          go_roundw
          case rel => exact ⟨3, n0, n1, t0, n3, t1, rfl, by omega, rfl, HN.out, Blk.far (w := wr.drewN _) HE0.out (by dsimp only; omega) _, Blk.ulSet (w := wr.drewN _) HE1.out 2 t0, Blk.far (w := wr.drewN _) HE2.out (by dsimp only; omega) _, Blk.far (w := wr.drewN _) HE3.out (by dsimp only; omega) _, (below_drewN HEB.out _).setCell (by dsimp only; omega) _⟩
          case measure => decide
        · obtain ⟨b0, b1, b2, b3, bc, heq⟩ := hmul
          have e1 := Blk.ul E1 3 n3 rfl
          have e2 := Blk.ul E2 0 x0 rfl
          have e3 := Blk.ul E3 3 y3 rfl
          have e4 := Blk.frozen E1 3
          have pr : (x0 : Int) * (y3 : Int) = (p03 : Int) := by rw [← Int.natCast_mul]; exact congrArg _ HP.out.e03
          have pb := HP.out.b03
          obtain ⟨t0, ht0⟩ : ∃ t, (n3 + p03 + c) % 4294967296 = t := ⟨_, rfl⟩
          obtain ⟨t1, ht1⟩ : ∃ t, (n3 + p03 + c) / 4294967296 = t := ⟨_, rfl⟩
          have mk : bits BinOp.and IntKind.u64 ((n3 : Int) + (p03 : Int) + (c : Int)) 4294967295 = (t0 : Int) := by have := mask32 (n3 + p03 + c) (by omega); rw [ht0] at this; exact this
          have dv : ((n3 : Int) + (p03 : Int) + (c : Int)) / 4294967296 = (t1 : Int) := by omega
          have HE1 := Lib.hid E1
          have HE2 := Lib.hid E2
          have HE3 := Lib.hid E3
          have HE0 := Lib.hid E0
          have HEB := Lib.hid EB
          have HN : Hid (Mul p00 p01 p02 p03 p10 p11 p12 0 4 n0 n1 n2 t0 t1) := by
            have hdm : t0 + t1 * 4294967296 = n3 + p03 + c := by omega
            refine Lib.hid ⟨by omega, by omega, by omega, by omega, by omega, ?_⟩
            clear ht0 ht1 mk dv pr
            simp only [Acc, pw, Nat.mul_one] at heq ⊢
            grind
          clear E0 E1 E2 E3 EB heq ht0 ht1
          go_wp2_with fail
          go_quiet (fail)
          go_wp2_with fail
          go_roundw
          case rel => exact ⟨4, n0, n1, n2, t0, t1, rfl, by omega, rfl, HN.out, Blk.far (w := wr.drewN _) HE0.out (by dsimp only; omega) _, Blk.ulSet (w := wr.drewN _) HE1.out 3 t0, Blk.far (w := wr.drewN _) HE2.out (by dsimp only; omega) _, Blk.far (w := wr.drewN _) HE3.out (by dsimp only; omega) _, (below_drewN HEB.out _).setCell (by dsimp only; omega) _⟩
          case measure => decide
        · have HM := Lib.hid (mul_turn HF.out hmul)
          have HE1 := Lib.hid E1
          have HE2 := Lib.hid E2
          have HE3 := Lib.hid E3
          have HE0 := Lib.hid E0
          have HEB := Lib.hid EB
          clear E0 E1 E2 E3 EB hmul
          go_wp2_with fail
          go_roundw
          case rel => exact ⟨1, n0, n1, n2, n3, rfl, by omega, .inr (.inl ⟨rfl, HM.out⟩), HE0.out, HE1.out, HE2.out, HE3.out, HEB.out⟩
          case measure => decide
    · have HE1 := Lib.hid E1
      have HE2 := Lib.hid E2
      have HE3 := Lib.hid E3
      have HE0 := Lib.hid E0
      have HEB := Lib.hid EB
      have HM := Lib.hid hmul
      clear E0 E1 E2 E3 EB hmul
      go_wp2_with fail
      go_loopw [11, 12, 13] (fun cv k _ wr => ∃ (q n0 n1 n2 n3 c : Nat), k = .int .i64 q ∧ q ≤ 3 ∧ cv = .int .u64 (c : Int) ∧ Mul p00 p01 p02 p03 p10 p11 p12 1 q n0 n1 n2 n3 c ∧ Blk wr w.heap.size 87 (ul [0, 0]) ∧ Blk wr (w.heap.size + 1) 98 (ul [n0, n1, n2, n3]) ∧ Blk wr (w.heap.size + 1 + 1) 87 (ul [x0, x1]) ∧ Blk wr (w.heap.size + 1 + 1 + 1) 98 (ul [y0, y1, y2, y3]) ∧ Below w.heap.size w wr)
        (fun _ k _ _ => 3 - (intOf k).toNat)
      case atStart => exact ⟨0, n0, n1, n2, n3, 0, rfl, by omega, rfl, HM.out, HE0.out, HE1.out, HE2.out, HE3.out, HEB.out⟩
      case round =>
        clear HM HE0 HE1 HE2 HE3 HEB
        obtain ⟨q, n0, n1, n2, n3, c, rfl, hq, rfl, hmul, E0, E1, E2, E3, EB⟩ := hrel
        rcases (by omega : q = 0 ∨ q = 1 ∨ q = 2 ∨ q = 3) with rfl | rfl | rfl | rfl
        · obtain ⟨b0, b1, b2, b3, bc, heq⟩ := hmul
          have e1 := Blk.ul E1 1 n1 rfl
          have e2 := Blk.ul E2 1 x1 rfl
          have e3 := Blk.ul E3 0 y0 rfl
          have e4 := Blk.frozen E1 1
          have pr : (x1 : Int) * (y0 : Int) = (p10 : Int) := by rw [← Int.natCast_mul]; exact congrArg _ HP.out.e10
          have pb := HP.out.b10
          obtain ⟨t0, ht0⟩ : ∃ t, (n1 + p10 + c) % 4294967296 = t := ⟨_, rfl⟩
          obtain ⟨t1, ht1⟩ : ∃ t, (n1 + p10 + c) / 4294967296 = t := ⟨_, rfl⟩
          have mk : bits BinOp.and IntKind.u64 ((n1 : Int) + (p10 : Int) + (c : Int)) 4294967295 = (t0 : Int) := by have := mask32 (n1 + p10 + c) (by omega); rw [ht0] at this; exact this
          have dv : ((n1 : Int) + (p10 : Int) + (c : Int)) / 4294967296 = (t1 : Int) := by omega
          have HE1 := Lib.hid E1
          have HE2 := Lib.hid E2
          have HE3 := Lib.hid E3
          have HE0 := Lib.hid E0
          have HEB := Lib.hid EB
          have HN : Hid (Mul p00 p01 p02 p03 p10 p11 p12 1 1 n0 t0 n2 n3 t1) := by
            have hdm : t0 + t1 * 4294967296 = n1 + p10 + c := by omega
            refine Lib.hid ⟨by omega, by omega, by omega, by omega, by omega, ?_⟩
            clear ht0 ht1 mk dv pr
            simp only [Acc, pw, Nat.mul_one] at heq ⊢
            grind
          clear E0 E1 E2 E3 EB heq ht0 ht1
          go_wp2_with fail
          go_quiet (fail)
          go_wp2_with fail
          go_roundw
          case rel => exact ⟨1, n0, t0, n2, n3, t1, rfl, by omega, rfl, HN.out, Blk.far (w := wr.drewN _) HE0.out (by dsimp only; omega) _, Blk.ulSet (w := wr.drewN _) HE1.out 1 t0, Blk.far (w := wr.drewN _) HE2.out (by dsimp only; omega) _, Blk.far (w := wr.drewN _) HE3.out (by dsimp only; omega) _, (below_drewN HEB.out _).setCell (by dsimp only; omega) _⟩
          case measure => decide
        · obtain ⟨b0, b1, b2, b3, bc, heq⟩ := hmul
          have e1 := Blk.ul E1 2 n2 rfl
          have e2 := Blk.ul E2 1 x1 rfl
          have e3 := Blk.ul E3 1 y1 rfl
          have e4 := Blk.frozen E1 2
          have pr : (x1 : Int) * (y1 : Int) = (p11 : Int) := by rw [← Int.natCast_mul]; exact congrArg _ HP.out.e11
          have pb := HP.out.b11
          obtain ⟨t0, ht0⟩ : ∃ t, (n2 + p11 + c) % 4294967296 = t := ⟨_, rfl⟩
          obtain ⟨t1, ht1⟩ : ∃ t, (n2 + p11 + c) / 4294967296 = t := ⟨_, rfl⟩
          have mk : bits BinOp.and IntKind.u64 ((n2 : Int) + (p11 : Int) + (c : Int)) 4294967295 = (t0 : Int) := by have := mask32 (n2 + p11 + c) (by omega); rw [ht0] at this; exact this
          have dv : ((n2 : Int) + (p11 : Int) + (c : Int)) / 4294967296 = (t1 : Int) := by omega
          have HE1 := Lib.hid E1
          have HE2 := Lib.hid E2
          have HE3 := Lib.hid E3
          have HE0 := Lib.hid E0
          have HEB := Lib.hid EB
          have HN : Hid (Mul p00 p01 p02 p03 p10 p11 p12 1 2 n0 n1 t0 n3 t1) := by
            have hdm : t0 + t1 * 4294967296 = n2 + p11 + c := by omega
            refine Lib.hid ⟨by omega, by omega, by omega, by omega, by omega, ?_⟩
            clear ht0 ht1 mk dv pr
            simp only [Acc, pw, Nat.mul_one] at heq ⊢
            grind
          clear E0 E1 E2 E3 EB heq ht0 ht1
          go_wp2_with fail
          go_quiet (fail)
          go_wp2_with fail
          go_roundw
          case rel => exact ⟨2, n0, n1, t0, n3, t1, rfl, by omega, rfl, HN.out, Blk.far (w := wr.drewN _) HE0.out (by dsimp only; omega) _, Blk.ulSet (w := wr.drewN _) HE1.out 2 t0, Blk.far (w := wr.drewN _) HE2.out (by dsimp only; omega) _, Blk.far (w := wr.drewN _) HE3.out (by dsimp only; omega) _, (below_drewN HEB.out _).setCell (by dsimp only; omega) _⟩
          case measure => decide
        · obtain ⟨b0, b1, b2, b3, bc, heq⟩ := hmul
          have e1 := Blk.ul E1 3 n3 rfl
          have e2 := Blk.ul E2 1 x1 rfl
          have e3 := Blk.ul E3 2 y2 rfl
          have e4 := Blk.frozen E1 3
          have pr : (x1 : Int) * (y2 : Int) = (p12 : Int) := by rw [← Int.natCast_mul]; exact congrArg _ HP.out.e12
          have pb := HP.out.b12
          obtain ⟨t0, ht0⟩ : ∃ t, (n3 + p12 + c) % 4294967296 = t := ⟨_, rfl⟩
          obtain ⟨t1, ht1⟩ : ∃ t, (n3 + p12 + c) / 4294967296 = t := ⟨_, rfl⟩
          have mk : bits BinOp.and IntKind.u64 ((n3 : Int) + (p12 : Int) + (c : Int)) 4294967295 = (t0 : Int) := by have := mask32 (n3 + p12 + c) (by omega); rw [ht0] at this; exact this
          have dv : ((n3 : Int) + (p12 : Int) + (c : Int)) / 4294967296 = (t1 : Int) := by omega
          have HE1 := Lib.hid E1
          have HE2 := Lib.hid E2
          have HE3 := Lib.hid E3
          have HE0 := Lib.hid E0
          have HEB := Lib.hid EB
          have HN : Hid (Mul p00 p01 p02 p03 p10 p11 p12 1 3 n0 n1 n2 t0 t1) := by
            have hdm : t0 + t1 * 4294967296 = n3 + p12 + c := by omega
            refine Lib.hid ⟨by omega, by omega, by omega, by omega, by omega, ?_⟩
            clear ht0 ht1 mk dv pr
            simp only [Acc, pw, Nat.mul_one] at heq ⊢
            grind
          clear E0 E1 E2 E3 EB heq ht0 ht1
          go_wp2_with fail
          go_quiet (fail)
          go_wp2_with fail
          go_roundw
          case rel => exact ⟨3, n0, n1, n2, t0, t1, rfl, by omega, rfl, HN.out, Blk.far (w := wr.drewN _) HE0.out (by dsimp only; omega) _, Blk.ulSet (w := wr.drewN _) HE1.out 3 t0, Blk.far (w := wr.drewN _) HE2.out (by dsimp only; omega) _, Blk.far (w := wr.drewN _) HE3.out (by dsimp only; omega) _, (below_drewN HEB.out _).setCell (by dsimp only; omega) _⟩
          case measure => decide
        · have HM := Lib.hid (mul_last HF.out hmul)
          have HE1 := Lib.hid E1
          have HE2 := Lib.hid E2
          have HE3 := Lib.hid E3
          have HE0 := Lib.hid E0
          have HEB := Lib.hid EB
          clear E0 E1 E2 E3 EB hmul
          go_wp2_with fail
          go_roundw
          case rel => exact ⟨2, n0, n1, n2, n3, rfl, by omega, .inr (.inr ⟨rfl, HM.out⟩), HE0.out, HE1.out, HE2.out, HE3.out, HEB.out⟩
          case measure => decide
    · obtain ⟨o1, o2⟩ := mul_out HF.out hmul
      obtain ⟨b0, b1, b2, b3, _, _⟩ := hmul
      have e0 := Blk.ul E1 0 n0 rfl
      have e1 := Blk.ul E1 1 n1 rfl
      have e2 := Blk.ul E1 2 n2 rfl
      have e3 := Blk.ul E1 3 n3 rfl
      have s1 : (n3 : Int) * 4294967296 % 18446744073709551616 = (n3 : Int) * 4294967296 := by omega
      have s2 : (n1 : Int) * 4294967296 % 18446744073709551616 = (n1 : Int) * 4294967296 := by omega
      obtain ⟨h1, hh1⟩ : ∃ h, n2 + n3 * 4294967296 = h := ⟨_, rfl⟩
      obtain ⟨l1, hl1⟩ : ∃ h, n0 + n1 * 4294967296 = h := ⟨_, rfl⟩
      have t1 : (n2 : Int) + (n3 : Int) * 4294967296 = (h1 : Int) := by omega
      have t2 : (n0 : Int) + (n1 : Int) * 4294967296 = (l1 : Int) := by omega
      have u1 : h1 < 18446744073709551616 := by omega
      have u2 : l1 < 18446744073709551616 := by omega
      have O1 := Lib.hid (o1.trans hh1)
      have O2 := Lib.hid (o2.trans hl1)
      have HE0 := Lib.hid E0
      have HEB := Lib.hid EB
      have e5 := Blk.ul E0 0 0 rfl
      have e6 := Blk.ul E0 1 0 rfl
      have f5 := Blk.frozen E0 0
      have f6 := Blk.frozen E0 1
      clear E0 E1 E2 E3 EB o1 o2 hh1 hl1
      go_wp2_with fail
      refine bodyPost_ret (results_cell_row rfl _ _ w.heap.size 87 (ul [h1, l1]) (0, 0) _ rfl ((HE0.out.ulSet 0 h1).ulSet 1 l1) Tryd.underlying87 rfl (by rw [ul_size]; exact sz2)) rfl ?_
      exact ⟨by rw [O1.out, O2.out], (HEB.out.setCell (Nat.le_refl _) _).setCell (Nat.le_refl _) _⟩
end Go.Proofs.YthaejfbbefpojaaDoor
