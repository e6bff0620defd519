/-
  Both Takes told by one function; what a take leaves may be a list again; a valid list is told so. Condition: rows that may be, of at most 24 buckets; times of at most 1000000000000.
-/
import Derived.Test.YtbldonkfboahmaaBcV
import Derived.Test.YtbldonkfboahmaaBcC
import Derived.Test.YtbldonkfboahmaaBcW
namespace Go.Proofs.Ytbldonkfboahmaa
open Go.RowKit

/-- A valid list. -/
structure Gd (L : List Bb) : Prop where
  vl : Vl L
  len : L.length ≤ 24
  keys : ∀ b ∈ L, ¬ b.key = ⟨#[]⟩
theorem vl_of {L : List Bb} (h1 : Bk.Rising kl L) (h2 : ∀ b ∈ L, Ok b ∧ b.left < 4) (h3 : L.length ≤ 24) : Vl L := ⟨h1, fun b hb => (h2 b hb).1, fun b hb => (h2 b hb).2, by omega⟩
theorem take_a {L : List Bb} {k : ByteArray} {now : Nat} (h : k = ⟨#[]⟩ ∨ Bk.left L k now = 0) : takeB L k now = (L, 22) := by unfold takeB; rw [if_pos h]
theorem take_b {L : List Bb} {k : ByteArray} {now : Nat} (h : ¬ (k = ⟨#[]⟩ ∨ Bk.left L k now = 0)) (hf : has (Bk.sweep L now) k = false) (h24 : 24 ≤ (Bk.sweep L now).length) : takeB L k now = (L, 15) := by unfold takeB; rw [if_neg h, if_pos ⟨hf, h24⟩]
theorem take_c {L : List Bb} {k : ByteArray} {now : Nat} (h : ¬ (k = ⟨#[]⟩ ∨ Bk.left L k now = 0)) (hf : ¬ (has (Bk.sweep L now) k = false ∧ 24 ≤ (Bk.sweep L now).length)) : takeB L k now = (Bk.taken kl L k now, 0) := by unfold takeB; rw [if_neg h, if_neg hf]
theorem has_some {L : List Bb} {k : ByteArray} (h : ¬ has L k = false) : ∃ b, Bk.find L k = some b := by
  unfold has at h
  cases hq : Bk.find L k with
  | none => rw [hq] at h; exact absurd rfl h
  | some b => exact ⟨b, rfl⟩
theorem less_ok {b : Bb} (hb : Ok b) (now : Nat) (hn : now ≤ 1000000000000) (h1 : 1 ≤ Bk.left1 b now) : Ok (less1 b now) ∧ (less1 b now).left < 4 := by
  have h4 := left1_le b now
  have hat := hb.at_
  refine ⟨⟨by show Bk.left1 b now - 1 ≤ 4; omega, ?_⟩, by show Bk.left1 b now - 1 < 4; omega⟩
  show b.at_ + 25 * refl1 b now ≤ 1000000000000
  unfold refl1
  omega
theorem gd_taken {L : List Bb} (h : Gd L) (k : ByteArray) (now : Nat) (hn : now ≤ 1000000000000) (hk : ¬ k = ⟨#[]⟩) (h1 : ¬ Bk.left L k now = 0) (hf : ¬ (has (Bk.sweep L now) k = false ∧ 24 ≤ (Bk.sweep L now).length)) : Gd (Bk.taken kl L k now) := by
  have hr := Bk.taken_rising ordK h.vl.rise k now
  have hsl : (Bk.sweep L now).length ≤ 24 := Nat.le_trans (List.length_filter_le _ _) h.len
  have hsub : ∀ c, c ∈ Bk.sweep L now → c ∈ L := fun c hc => (Bk.sweep_sub L now).subset hc
  have hvs := vl_sweep h.vl now
  by_cases hh : has (Bk.sweep L now) k = false
  · have e := taken_new h.vl.rise k now hh
    have hlo := less_ok (b := ⟨k, 4, now⟩) ⟨Nat.le_refl _, hn⟩ now hn (Nat.le_min.2 ⟨by decide, by show 1 ≤ 4 + _; omega⟩)
    have hlen : (Bk.taken kl L k now).length ≤ 24 := by
      rw [e, List.length_append, List.length_cons, List.length_take, List.length_drop]
      have : ¬ 24 ≤ (Bk.sweep L now).length := fun h24 => hf ⟨hh, h24⟩
      omega
    have hm : ∀ c ∈ Bk.taken kl L k now, c = less1 ⟨k, 4, now⟩ now ∨ c ∈ Bk.sweep L now := fun c hc => by
      rw [e] at hc
      rcases List.mem_append.1 hc with hc | hc
      · exact .inr (List.mem_of_mem_take hc)
      · rcases List.mem_cons.1 hc with hc | hc
        · exact .inl hc
        · exact .inr (List.mem_of_mem_drop hc)
    refine ⟨vl_of hr (fun c hc => ?_) hlen, hlen, fun c hc => ?_⟩
    · rcases hm c hc with rfl | hc
      · exact hlo
      · exact ⟨hvs.ok c hc, hvs.few c hc⟩
    · rcases hm c hc with rfl | hc
      · exact hk
      · exact h.keys c (hsub c hc)
  · obtain ⟨b, hb⟩ := has_some hh
    have e := taken_old h.vl.rise k now hb
    have hbm : b ∈ Bk.sweep L now := List.mem_of_find?_eq_some hb
    have hbk : b.key = k := by
      have := List.find?_some hb
      simpa using this
    obtain ⟨hp, _, _⟩ := find_at hvs.rise hb
    have h1' : 1 ≤ Bk.left1 b now := by
      rw [← Bk.left_sweep ordK h.vl.rise] at h1
      unfold Bk.left at h1
      rw [hb] at h1
      simp only at h1
      omega
    have hlo := less_ok (hvs.ok b hbm) now hn h1'
    have hlen : (Bk.taken kl L k now).length ≤ 24 := by
      rw [e, List.length_append, List.length_cons, List.length_take, List.length_drop]
      omega
    have hm : ∀ c ∈ Bk.taken kl L k now, c = less1 b now ∨ c ∈ Bk.sweep L now := fun c hc => by
      rw [e] at hc
      rcases List.mem_append.1 hc with hc | hc
      · exact .inr (List.mem_of_mem_take hc)
      · rcases List.mem_cons.1 hc with hc | hc
        · exact .inl hc
        · exact .inr (List.mem_of_mem_drop hc)
    refine ⟨vl_of hr (fun c hc => ?_) hlen, hlen, fun c hc => ?_⟩
    · rcases hm c hc with rfl | hc
      · exact hlo
      · exact ⟨hvs.ok c hc, hvs.few c hc⟩
    · rcases hm c hc with rfl | hc
      · show ¬ b.key = _
        rw [hbk]
        exact hk
      · exact h.keys c (hsub c hc)
theorem gd_take {L : List Bb} (h : Gd L) (k : ByteArray) (now : Nat) (hn : now ≤ 1000000000000) : Gd (takeB L k now).1 := by
  by_cases h1 : k = ⟨#[]⟩ ∨ Bk.left L k now = 0
  · rw [take_a h1]; exact h
  · by_cases h2 : has (Bk.sweep L now) k = false ∧ 24 ≤ (Bk.sweep L now).length
    · rw [take_b h1 h2.1 h2.2]; exact h
    · rw [take_c h1 h2]
      exact gd_taken h k now hn (fun e => h1 (.inl e)) (fun e => h1 (.inr e)) h2
theorem gd_sweep {L : List Bb} (h : Gd L) (now : Nat) : Gd (Bk.sweep L now) :=
  ⟨vl_sweep h.vl now, Nat.le_trans (List.length_filter_le _ _) h.len, fun b hb => h.keys b ((Bk.sweep_sub L now).subset hb)⟩
theorem gd_nil : Gd [] := ⟨⟨List.Pairwise.nil, fun b hb => by simp at hb, fun b hb => by simp at hb, by simp⟩, by simp, fun b hb => by simp at hb⟩
theorem gd_check {L : List Bb} (h : Gd L) : checkB (M L) = true := by
  refine check_yes (by rw [M_length]; exact h.len) (fun i hi _ => ?_)
  have hi2 : i < L.length := by rw [M_length] at hi; exact hi
  refine ⟨?_, ?_⟩
  · rw [M_get L i hi2]
    cases i with
    | zero => exact kl_first (h.keys _ (List.getElem_mem hi2))
    | succ i =>
      rw [prev_succ (M L) i (by omega), M_get L i (by omega)]
      exact List.pairwise_iff_getElem.1 h.vl.rise i (i + 1) (by omega) hi2 (by omega)
  · rw [M_get L i hi2]
    have h1 := h.vl.few _ (List.getElem_mem hi2)
    have h2 := (h.vl.ok _ (List.getElem_mem hi2)).at_
    unfold rightI up
    rw [decide_eq_true_iff]
    simp only
    omega
set_option maxRecDepth 100000 in
theorem Take_any {S : Nat → Prop} (A : Option Addr) (cp : Nat) (L : List Bb) (hcp : L.length ≤ cp) (h : Gd L) (k : ByteArray) (now : Nat) (hn : now ≤ 1000000000000) (w : World) (hA : Lies S w A (bus (M L))) :
    Calls Try.prog 19 #[.slice A L.length cp, .string k, .int .i64 (now : Int)] w fun e w' => (∃ v, e = .returned (.tuple #[v, .int .i64 ((takeB L k now).2 : Int)]) ∧ Row (fun _ => False) (M (takeB L k now).1) v w') ∧ Below w.heap.size w w' := by
  by_cases h1 : k = ⟨#[]⟩ ∨ Bk.left L k now = 0
  · rw [take_a h1]
    exact Take_no A cp L hcp h.vl k now hn h1 w hA
  · by_cases h2 : has (Bk.sweep L now) k = false ∧ 24 ≤ (Bk.sweep L now).length
    · rw [take_b h1 h2.1 h2.2]
      exact Take_full A cp L hcp h.vl k now hn (fun e => h1 (.inl e)) (fun e => h1 (.inr e)) h2.1 h2.2 w hA
    · rw [take_c h1 h2]
      by_cases h3 : has (Bk.sweep L now) k = false
      · exact Take_new A cp L hcp h.vl k now hn (fun e => h1 (.inl e)) (fun e => h1 (.inr e)) h3 (fun e => h2 ⟨h3, e⟩) w hA
      · obtain ⟨b, hb⟩ := has_some h3
        exact Take_old A cp L hcp h.vl k now hn (fun e => h1 (.inl e)) (fun e => h1 (.inr e)) b hb w hA
set_option maxRecDepth 100000 in
theorem RTake_any {S : Nat → Prop} (A : Option Addr) (cp : Nat) (L : List Bb) (hcp : L.length ≤ cp) (h : Gd L) (k : ByteArray) (now : Nat) (hn : now ≤ 1000000000000) (w : World) (hA : Lies S w A (bus (M L))) :
    Calls Try.prog 20 #[.slice A L.length cp, .string k, .int .i64 (now : Int)] w fun e w' => (∃ v, e = .returned (.tuple #[v, .int .i64 ((takeB L k now).2 : Int)]) ∧ Row (fun _ => False) (M (takeB L k now).1) v w') ∧ Below w.heap.size w w' := by
  by_cases h1 : k = ⟨#[]⟩ ∨ Bk.left L k now = 0
  · rw [take_a h1]
    exact RTake_no A cp L hcp h.vl k now hn h1 w hA
  · by_cases h3 : has (Bk.sweep L now) k = false
    · have hR := RTake_new A cp L hcp h.vl k now hn (fun e => h1 (.inl e)) (fun e => h1 (.inr e)) h3 w hA
      by_cases h2 : 24 ≤ (Bk.sweep L now).length
      · rw [take_b h1 h3 h2]
        rw [if_pos h2, if_pos h2] at hR
        exact hR
      · rw [take_c h1 (fun e => h2 e.2)]
        rw [if_neg h2, if_neg h2] at hR
        exact hR
    · obtain ⟨b, hb⟩ := has_some h3
      rw [take_c h1 (fun e => h3 e.1)]
      exact RTake_old A cp L hcp h.vl k now hn (fun e => h1 (.inl e)) (fun e => h1 (.inr e)) h.len b hb w hA
/-- Two rows that are the same, compared. -/
theorem Same_rows {S T : Nat → Prop} (L : List Bu) (hL : L.length ≤ 1000000) (v u : Value) (w : World) (hv : Row S L v w) (hu : Row T L u w) :
    Calls Try.prog 21 #[v, u] w fun e w' => e = .returned (.bool true) ∧ Below w.heap.size w w' := by
  obtain ⟨A, c, rfl, _, hA⟩ := hv
  obtain ⟨B, d, rfl, _, hB⟩ := hu
  have h := Same_any A B c d L L hL hL w hA hB
  rw [decide_eq_true rfl] at h
  exact h
end Go.Proofs.Ytbldonkfboahmaa
