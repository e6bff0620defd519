/-
  Contract of bucket.Take. Condition: rows that may be, of at most 24 buckets; times of at most 1000000000000.
-/
import Derived.BigRegion
import Derived.Test.YtbldonkfboahmaaBcT
import Derived.Test.YtbldonkfboahmaaAnyI
namespace Go.Proofs.Ytbldonkfboahmaa
open Go.RowKit

/-- What a take comes to. -/
def takeB (L : List Bb) (k : ByteArray) (now : Nat) : List Bb × Nat :=
  if k = ⟨#[]⟩ ∨ Bk.left L k now = 0 then (L, 22) else if has (Bk.sweep L now) k = false ∧ 24 ≤ (Bk.sweep L now).length then (L, 15) else (Bk.taken kl L k now, 0)
theorem run_rows_from (A : Option Addr) (n cp k : Nat) (hk : k ≤ n) (_hn : n ≤ cp) (W : World) : (Instr.slice 23 (.slice A n cp) (some (.int .i64 (k : Int))) none none).run Try.prog W = .ok (.slice (if cp = k then A else A.map fun x => x.add (k * 3)) (n - k) (cp - k)) W := by
  obtain ⟨t, hq, _, hs, _⟩ := info_bu
  cases A <;> simp [Instr.slice, Instr.sliceBounds, Instr.sliceBound, asIntOf, run_underlying Try.underlying23, sizeOf, typeInfo, hq, hs, hk]
theorem run_rows_three (A : Option Addr) (n cp k : Nat) (hk : k ≤ n) (_hn : n ≤ cp) (W : World) : (Instr.slice 23 (.slice A n cp) none (some (.int .i64 (k : Int))) (some (.int .i64 (k : Int)))).run Try.prog W = .ok (.slice A k k) W := by
  obtain ⟨t, hq, _, _, _⟩ := info_bu
  have h1 : k ≤ cp := by omega
  cases A <;> simp [Instr.slice, Instr.sliceBounds, Instr.sliceBound, asIntOf, run_underlying Try.underlying23, sizeOf, typeInfo, hq, h1, add_zero_]
/-- One bucket appended to a row that has no room: a new row. -/
theorem append_new {S : Nat → Prop} {W : World} {A : Option Addr} {i : Nat} {xs : List Bu} (hx : xs.length = i) (hA : Lies S W A (bus xs)) (hA0 : A = none → i = 0) (hi : i ≤ 1000000) (s : Bu) {g : Nat} (hg : Blk W g 54 #[.string s.key, .int .i64 s.left, .int .i64 s.at_]) (ty : TypeId) :
    ∃ A' c' W', (Builtin.append_ #[23, 23] ty #[.slice A i i, .slice (some ⟨g, 0, none⟩) 1 1]).run Try.prog W = .ok (.slice A' (i + 1) c') W' ∧
      W'.ownsRow W.heap.size 54 3 (.slice A' (i + 1) c') (i + 1) (bus (xs ++ [s])) ∧ Below W.heap.size W W' := by
  obtain ⟨i0, hi0, hz, hs, hb⟩ := info_bu
  have hnew : ∀ j v, (buC s)[j]? = some v → W.cell? ((⟨g, 0, none⟩ : Addr).add j) = some v := fun j v hj => by
    rw [Addr.add_mid, Nat.zero_add, hg.cell, ← bu_row, ← Array.getElem?_toList]
    exact hj
  have own : ∀ old, old < i + 1 → (W.drew.alloc (.cells ((bus xs).toArray ++ (buC s).toArray ++ Builtin.zeroCells (Value.cells (.agg #[.string ⟨#[]⟩, .int .i64 0, .int .i64 0])) (grownCap W (i + 1) old 54 - (i + 1))) 54)).ownsRow W.heap.size 54 3 (.slice (some ⟨W.heap.size, 0, none⟩) (i + 1) (grownCap W (i + 1) old 54)) (i + 1) (bus (xs ++ [s])) ∧ Below W.heap.size W (W.drew.alloc (.cells ((bus xs).toArray ++ (buC s).toArray ++ Builtin.zeroCells (Value.cells (.agg #[.string ⟨#[]⟩, .int .i64 0, .int .i64 0])) (grownCap W (i + 1) old 54 - (i + 1))) 54)) := by
    intro old ho
    have hge := grownCap_ge W (i + 1) old 54
    have hcm : grownCap W (i + 1) old 54 ≤ maxLen := grownCap_le_maxLen W (i + 1) old 54 (by unfold maxLen; omega)
    have hl : (bus (xs ++ [s])).length = (i + 1) * 3 := by rw [bus_length, List.length_append, hx]; rfl
    refine ⟨⟨hl, .inr ⟨W.heap.size, _, _, rfl, Nat.le_refl _, heap_alloc_new W.drew _, hge, hcm, ?_, ?_⟩⟩, ((Below.refl _ W).drew.alloc (Nat.le_refl _) _)⟩
    · simp only [Array.size_append, List.size_toArray, size_zeroCells, bus_length, hx]
      show i * 3 + 3 + _ * 3 = _
      omega
    · simp only [Array.toList_append, List.append_assoc]
      rw [← List.append_assoc, bus_append, bus_one, ← hl, bus_append, bus_one]
      exact List.take_left
  cases A with
  | some a =>
    have hr := run_append_grow (P := Try.prog) W 23 ty 54 i0 _ Try.underlying23 hi0 hz a i i (bus xs) (by rw [bus_length, hx, hs]) (fun j v hj => by
      obtain ⟨a', e, _, _, h4⟩ := hA j v hj
      injection e with e
      subst e
      exact h4) ⟨g, 0, none⟩ 1 1 (buC s) (by rw [hs]; rfl) hnew (by omega) (by omega) (by rw [hb]; exact growslice_fits (by omega) (by omega))
    exact ⟨_, _, _, hr, own i (by omega)⟩
  | none =>
    obtain rfl := hA0 rfl
    have hx0 : xs = [] := List.eq_nil_of_length_eq_zero hx
    subst hx0
    have hr := run_append_nil (P := Try.prog) W 23 ty 54 i0 _ Try.underlying23 hi0 hz ⟨g, 0, none⟩ 1 1 (buC s) (by rw [hs]; rfl) hnew (by omega) (by omega) (by rw [hb]; omega)
    have ho := own 0 (by omega)
    simp only [Nat.zero_add, bus_nil, Array.empty_append] at ho hr ⊢
    exact ⟨_, _, _, hr, ho⟩
theorem own_low {w : World} {base low size n : Nat} {e : TypeId} {v : Value} {xs : List Value} (h : w.ownsRow base e size v n xs) (hl : low ≤ base) : w.ownsRow low e size v n xs := by
  refine ⟨h.1, ?_⟩
  rcases h.2 with h2 | ⟨g, cap, cur, hv, hb, r⟩
  · exact .inl h2
  · exact .inr ⟨g, cap, cur, hv, Nat.le_trans hl hb, r⟩
/-- An append whose run is known, as one operation. -/
theorem wp_append_run {P : Program} {w w' : World} {o : Oper} {a : Act} {K : Act → World → Prop} {Q : Exit → Act → World → Prop} (s x : Operand) (t u : TypeId)
    (ho : o.op = .call { callee := .builtin .append, args := #[s, x], argTypes := #[t, u] }) (v y v' : Value) (hs : a.eval s = v) (hx : a.eval x = y)
    (hr : (Builtin.append_ #[t, u] o.type #[v, y]).run P w = .ok v' w') (h : K (a.put o.dst v') w') : Oper.wp P o a w K Q := by
  unfold Oper.wp execOp
  simp only [ho, resolve, invoke, builtin, Sem.run_bind, Sem.run_pure, Result.andThen_ok, List.map_toArray, List.map_cons, List.map_nil, hs, hx, hr]
  exact h
theorem pos_nil (k : ByteArray) : pos k [] = 0 := rfl
theorem pos_cons (k : ByteArray) (b : Bb) (L : List Bb) (h : Bk.Rising kl (b :: L)) : pos k (b :: L) = if kl b.key k = true then pos k L + 1 else 0 := by
  have hb := (List.pairwise_cons.1 h).1
  unfold pos
  rw [List.countP_cons]
  cases hbk : kl b.key k with
  | true => simp
  | false =>
    have h0 : L.countP (fun b => kl b.key k) = 0 := by
      rw [List.countP_eq_zero]
      intro c hc hck
      have h2 := ordK.trans _ _ _ (hb c hc) hck
      rw [hbk] at h2
      cases h2
    simp [h0]
/-- What is put where there is none. -/
theorem put_new_at {L : List Bb} (h : Bk.Rising kl L) (k : ByteArray) (hf : has L k = false) (n now : Nat) : Bk.put kl k n now L = L.take (pos k L) ++ (⟨k, n - 1, now⟩ :: L.drop (pos k L)) := by
  induction L with
  | nil => rfl
  | cons b L ih =>
    rw [pos_cons k b L h]
    unfold Bk.put
    unfold has at hf
    rw [Bk.find_cons] at hf
    by_cases hk : b.key = k
    · rw [if_pos hk] at hf; cases hf
    · rw [if_neg hk] at hf
      by_cases hlt : kl b.key k = true
      · rw [if_pos hlt, if_pos hlt, ih (List.pairwise_cons.1 h).2 hf]
        rfl
      · rw [if_neg hlt, if_neg hlt, if_neg hk]
        rfl
theorem put_old_at {L : List Bb} (h : Bk.Rising kl L) (k : ByteArray) {b : Bb} (hf : Bk.find L k = some b) (n now : Nat) : Bk.put kl k n now L = L.take (pos k L) ++ (⟨k, n - 1, b.at_ + 25 * (n - b.left)⟩ :: L.drop (pos k L + 1)) := by
  induction L with
  | nil => cases hf
  | cons c L ih =>
    rw [pos_cons k c L h]
    unfold Bk.put
    rw [Bk.find_cons] at hf
    by_cases hk : c.key = k
    · rw [if_pos hk] at hf
      injection hf with hf
      subst hf
      have hnl : ¬ kl c.key k = true := by rw [hk, ordK.irrefl]; decide
      rw [if_neg hnl, if_neg hnl, if_pos hk]
      rfl
    · rw [if_neg hk] at hf
      by_cases hlt : kl c.key k = true
      · rw [if_pos hlt, if_pos hlt, ih (List.pairwise_cons.1 h).2 hf]
        rfl
      · exfalso
        have hm : b ∈ L := List.mem_of_find?_eq_some hf
        have hbk : b.key = k := by
          have := List.find?_some hf
          simpa using this
        have h2 := (List.pairwise_cons.1 h).1 b hm
        rw [hbk] at h2
        exact hlt h2
/-- One less, as it is told of the bucket itself. -/
def less1 (b : Bb) (now : Nat) : Bb := ⟨b.key, Bk.left1 b now - 1, b.at_ + 25 * refl1 b now⟩
theorem taken_new {L : List Bb} (h : Bk.Rising kl L) (k : ByteArray) (now : Nat) (hf : has (Bk.sweep L now) k = false) :
    Bk.taken kl L k now = (Bk.sweep L now).take (pos k (Bk.sweep L now)) ++ (less1 ⟨k, 4, now⟩ now :: (Bk.sweep L now).drop (pos k (Bk.sweep L now))) := by
  unfold Bk.taken
  rw [put_new_at (h.sweep now) k hf]
  have hl : Bk.left L k now = 4 := by
    rw [← Bk.left_sweep ordK h]
    unfold Bk.left
    unfold has at hf
    cases hq : Bk.find (Bk.sweep L now) k with
    | none => rfl
    | some b => rw [hq] at hf; cases hf
  rw [hl]
  congr 2
  unfold less1 refl1 Bk.left1
  simp
theorem taken_old {L : List Bb} (h : Bk.Rising kl L) (k : ByteArray) (now : Nat) {b : Bb} (hf : Bk.find (Bk.sweep L now) k = some b) :
    Bk.taken kl L k now = (Bk.sweep L now).take (pos k (Bk.sweep L now)) ++ (less1 b now :: (Bk.sweep L now).drop (pos k (Bk.sweep L now) + 1)) := by
  unfold Bk.taken
  rw [put_old_at (h.sweep now) k hf]
  have hl : Bk.left L k now = Bk.left1 b now := by
    rw [← Bk.left_sweep ordK h]
    unfold Bk.left
    rw [hf]
  have hbk : b.key = k := by
    have := List.find?_some hf
    simpa using this
  have h4 : Bk.left1 b now < 4 := by
    have hm : b ∈ Bk.sweep L now := List.mem_of_find?_eq_some hf
    have := (List.mem_filter.1 hm).2
    simpa using this
  have hr := left1_refl b now
  rw [hl]
  congr 2
  unfold less1
  rw [hbk, show Bk.left1 b now - b.left = refl1 b now by omega]
theorem M_take (L : List Bb) (i : Nat) : M (L.take i) = (M L).take i := by unfold M; rw [List.map_take]
theorem M_drop (L : List Bb) (i : Nat) : M (L.drop i) = (M L).drop i := by unfold M; rw [List.map_drop]
theorem M_cons (b : Bb) (L : List Bb) : M (b :: L) = up b :: M L := rfl
set_option maxRecDepth 100000 in
set_option maxHeartbeats 4000000 in
theorem Take_no {S : Nat → Prop} (A : Option Addr) (cp : Nat) (L : List Bb) (hcp : L.length ≤ cp) (h : Vl L) (k : ByteArray) (now : Nat) (hn : now ≤ 1000000000000) (hno : k = ⟨#[]⟩ ∨ Bk.left L k now = 0) (w : World) (hA : Lies S w A (bus (M L))) :
    Calls Try.prog 19 #[.slice A L.length cp, .string k, .int .i64 (now : Int)] w fun e w' => (∃ v, e = .returned (.tuple #[v, .int .i64 22]) ∧ Row (fun _ => False) (M L) v w') ∧ Below w.heap.size w w' := by
  have hlen := h.len
  have hml := M_length L
  have hC : ∀ W, Below w.heap.size w W → Calls Try.prog 29 #[.slice A L.length cp] W fun e w' => (∃ A' c', e = .returned (.slice A' L.length c') ∧ Row (fun _ => False) (M L) (.slice A' L.length c') w') ∧ Below W.heap.size W w' := fun W hW => by
    have hc := clone_any (S := S) A cp (M L) (by rw [hml]; omega) (by rw [hml]; exact hcp) W (hA.below hW)
    rw [hml] at hc
    refine hc.mono ?_
    rintro e w' ⟨⟨A', c', rfl, ho⟩, hb⟩
    exact ⟨⟨A', c', rfl, ⟨A', c', by rw [hml], by rw [hml]; exact own_cap ho, lies_made ho (fun _ _ h => h)⟩⟩, hb⟩
  have HC := Lib.hid hC
  have HL := Lib.hid (Left_any A cp L h k now (by omega) w hA)
  clear hC hml hA
  by_cases he : k = ⟨#[]⟩
  · subst he
    go_enter Try.func19, Try.ntmps19
    go_wp2_with fail
    refine (HC.out w (Below.refl _ w)).mono ?_
    rintro e w1 ⟨⟨A', c', rfl, hr⟩, hb⟩
    have HR := Lib.hid hr
    have HB := Lib.hid hb
    clear hr hb
    go_wp2_with fail
    go_ret2
    exact ⟨⟨_, rfl, HR.out⟩, HB.out⟩
  · have hz : Bk.left L k now = 0 := by
      rcases hno with h | h
      · exact absurd h he
      · exact h
    rw [hz] at HL
    obtain ⟨b0, b1⟩ := not_empty (show ¬ k.size = 0 from fun e => he (nil_of_size e))
    have b2 : (k.toList == (⟨#[]⟩ : ByteArray).toList) = false := str_ne he
    clear hz hno he
    go_enter Try.func19, Try.ntmps19
    go_wp2_with fail
    refine HL.out.mono ?_
    rintro e w1 ⟨rfl, hb1⟩
    have HB1 := Lib.hid hb1
    clear hb1
    go_wp2_with fail
    refine (HC.out w1 HB1.out).mono ?_
    rintro e w2 ⟨⟨A', c', rfl, hr⟩, hb⟩
    have HR := Lib.hid hr
    have HB := Lib.hid (HB1.out.trans (hb.mono HB1.out.size))
    clear hr hb
    go_wp2_with fail
    go_ret2
    exact ⟨⟨_, rfl, HR.out⟩, HB.out⟩
end Go.Proofs.Ytbldonkfboahmaa
