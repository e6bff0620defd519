/-
  Two secrets compared as Go compares structs. No condition.
-/
import Derived.Test.YtfjdcopndkdbmaaGreatDoorVsd
namespace Go.Proofs.YtfjdcopndkdbmaaGreatDoor
open Go.RowKit

theorem sec_same (x : Va.Sec) (W : World) :
    (binOp .neq 26 (.agg #[.string x.digest, .int .i64 x.account, .int .i64 x.purpose, .string x.channel, .int .i64 x.expires, .int .i64 x.tries]) (.agg #[.string x.digest, .int .i64 x.account, .int .i64 x.purpose, .string x.channel, .int .i64 x.expires, .int .i64 x.tries])).run Tryz.prog W = .ok (.bool false) W := by
  obtain ⟨d, a, p, c, e, t⟩ := x
  simp only
  go_simp
theorem sec_diff (x y : Va.Sec) (h : x ≠ y) (W : World) :
    (binOp .neq 26 (.agg #[.string x.digest, .int .i64 x.account, .int .i64 x.purpose, .string x.channel, .int .i64 x.expires, .int .i64 x.tries]) (.agg #[.string y.digest, .int .i64 y.account, .int .i64 y.purpose, .string y.channel, .int .i64 y.expires, .int .i64 y.tries])).run Tryz.prog W = .ok (.bool true) W := by
  obtain ⟨d, a, p, c, e, t⟩ := x
  obtain ⟨d', a', p', c', e', t'⟩ := y
  simp only
  by_cases h0 : d = d'
  · have b0 : (d.toList == d'.toList) = true := by rw [h0]; simp
    by_cases h1 : a = a'
    · have b1 : (a == a') = true := by simpa using h1
      by_cases h2 : p = p'
      · have b2 : (p == p') = true := by simpa using h2
        by_cases h3 : c = c'
        · have b3 : (c.toList == c'.toList) = true := by rw [h3]; simp
          by_cases h4 : e = e'
          · have b4 : (e == e') = true := by simpa using h4
            by_cases h5 : t = t'
            · have b5 : (t == t') = true := by simpa using h5
              exact absurd (by rw [h0, h1, h2, h3, h4, h5]) h
            · have b5 : (t == t') = false := by simpa using h5
              clear h h0 h1 h2 h3 h4 h5
              go_simp
          · have b4 : (e == e') = false := by simpa using h4
            clear h h0 h1 h2 h3 h4
            go_simp
        · have b3 : (c.toList == c'.toList) = false := str_ne h3
          clear h h0 h1 h2 h3
          go_simp
      · have b2 : (p == p') = false := by simpa using h2
        clear h h0 h1 h2
        go_simp
    · have b1 : (a == a') = false := by simpa using h1
      clear h h0 h1
      go_simp
  · have b0 : (d.toList == d'.toList) = false := str_ne h0
    clear h h0
    go_simp
end Go.Proofs.YtfjdcopndkdbmaaGreatDoor
