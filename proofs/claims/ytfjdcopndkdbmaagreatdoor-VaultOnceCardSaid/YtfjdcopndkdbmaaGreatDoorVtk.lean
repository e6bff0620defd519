/-
  The mathematics of VaultOnce (layer 11): flags and times by key, beside a row of secrets. No condition.
  The mathematics of VaultKeeps (layer 11): what stands where it stood behind a put, what is dropped, what is swept. No condition.
-/
import Derived.Test.YtfjdcopndkdbmaaGreatDoorVtA
import Derived.Test.YtfjdcopndkdbmaaGreatDoorVtW
import Derived.Test.YtfjdcopndkdbmaaGreatDoorVsj

namespace Go.Proofs.YtfjdcopndkdbmaaGreatDoor
open Go.RowKit

/-- The forty-eight keys that law 11 draws. -/
def keyOf (i : Nat) : Va.Key := (1 + ((i / 12 : Nat) : Int), 1 + ((i / 2 % 6 : Nat) : Int), if i % 2 = 0 then mailC else phoneC)
def ixOf (q0 q1 q2 : Int) : Nat := (q0 % 4).toNat * 12 + (q1 % 6).toNat * 2 + (q2 % 2).toNat
theorem ixOf_lt (q0 q1 q2 : Int) : ixOf q0 q1 q2 < 48 := by unfold ixOf; omega
theorem mail_phone : mailC ≠ phoneC := by decide
theorem keyOf_ix (q0 q1 q2 : Int) : keyOf (ixOf q0 q1 q2) = (accOf q0, purOf q1, chOf q2) := by
  have h1 : ((ixOf q0 q1 q2 / 12 : Nat) : Int) = q0 % 4 := by unfold ixOf; omega
  have h2 : ((ixOf q0 q1 q2 / 2 % 6 : Nat) : Int) = q1 % 6 := by unfold ixOf; omega
  have h3 : ixOf q0 q1 q2 % 2 = 0 ↔ q2 % 2 = 0 := by unfold ixOf; omega
  unfold keyOf accOf purOf chOf
  rw [h1, h2]
  by_cases h : q2 % 2 = 0
  · rw [if_pos h, if_pos (h3.2 h)]
  · rw [if_neg h, if_neg (fun e => h (h3.1 e))]
theorem keyOf_inj {i j : Nat} (_hi : i < 48) (_hj : j < 48) (h : keyOf i = keyOf j) : i = j := by
  unfold keyOf at h
  simp only [Prod.mk.injEq] at h
  obtain ⟨h1, h2, h3⟩ := h
  have h4 : i % 2 = j % 2 := by
    by_cases e1 : i % 2 = 0
    · by_cases e2 : j % 2 = 0
      · omega
      · rw [if_pos e1, if_neg e2] at h3
        exact absurd h3 mail_phone
    · by_cases e2 : j % 2 = 0
      · rw [if_neg e1, if_pos e2] at h3
        exact absurd h3.symm mail_phone
      · omega
  omega
def upd {α : Type} (F : Nat → α) (i : Nat) (v : α) : Nat → α := fun j => if j = i then v else F j
theorem upd_here {α : Type} (F : Nat → α) (i : Nat) (v : α) : upd F i v i = v := if_pos rfl
theorem upd_other {α : Type} (F : Nat → α) (i : Nat) (v : α) {j : Nat} (h : j ≠ i) : upd F i v j = F j := if_neg h
theorem right_less {s : Va.Sec} (h : rightS s = true) (h1 : 1 < s.tries) : rightS { s with tries := s.tries - 1 } = true := by
  unfold rightS rightB at h ⊢
  simp only [Bool.and_eq_true, decide_eq_true_eq] at h ⊢
  obtain ⟨h2, h3⟩ := h
  exact ⟨h2, by omega, by omega⟩
/-- What the flags and the times say of a row. -/
structure Once (l : List Va.Sec) (F : Nat → Bool) (U : Nat → Int) : Prop where
  uniq : Rw.Uniq Va.Sec.key l
  know : ∀ k s, Rw.find Va.Sec.key l k = some s → rightS s = true ∧ ∃ i, i < 48 ∧ keyOf i = k ∧ F i = true ∧ U i = s.expires
theorem Once.nil (F : Nat → Bool) (U : Nat → Int) : Once [] F U := ⟨Rw.Uniq.nil, fun _ _ h => by cases h⟩
section
variable {l : List Va.Sec} {F : Nat → Bool} {U : Nat → Int}
theorem Once.put (h : Once l F U) (s : Va.Sec) (i : Nat) (hi : i < 48) (hk : s.key = keyOf i) (hr : rightS s = true) : Once (Rw.put Va.Sec.key l s) (upd F i true) (upd U i s.expires) := by
  refine ⟨h.uniq.put s, fun k x hx => ?_⟩
  rw [Rw.find_put] at hx
  by_cases e : s.key = k
  · rw [if_pos e] at hx
    injection hx with hx
    subst hx
    exact ⟨hr, i, hi, by rw [← hk, e], upd_here _ _ _, upd_here _ _ _⟩
  · rw [if_neg e] at hx
    obtain ⟨h1, j, hj, h2, h3, h4⟩ := h.know k x hx
    have hne : j ≠ i := by
      rintro rfl
      exact e (hk.trans h2)
    exact ⟨h1, j, hj, h2, by rw [upd_other _ _ _ hne]; exact h3, by rw [upd_other _ _ _ hne]; exact h4⟩
/-- Behind a presentation that takes the secret away, its flag may be put down. -/
theorem Once.present (h : Once l F U) (d : ByteArray) (i : Nat) (hi : i < 48) (now : Int) (G : Nat → Bool) (hG : ∀ j, j ≠ i → G j = F j)
    (hg : ∀ s, Rw.find Va.Sec.key l (keyOf i) = some s → ¬ s.expires ≤ now → s.digest ≠ d → G i = F i) : Once (Va.present d l (keyOf i) now).1 G U := by
  refine ⟨Va.uniq_present h.uniq, fun k x hx => ?_⟩
  rw [Va.find_present h.uniq] at hx
  by_cases e : k = keyOf i
  · rw [if_pos e] at hx
    cases hf : Rw.find Va.Sec.key l (keyOf i) with
    | none => rw [hf] at hx; cases hx
    | some s =>
      rw [hf] at hx
      simp only at hx
      obtain ⟨h1, j, hj, h2, h3, h4⟩ := h.know _ s hf
      have hji := keyOf_inj hj hi h2
      subst hji
      by_cases c : s.expires ≤ now ∨ s.digest = d ∨ s.tries ≤ 1
      · rw [if_pos c] at hx; cases hx
      · rw [if_neg c] at hx
        injection hx with hx
        subst hx
        have c1 : ¬ s.expires ≤ now := fun q => c (.inl q)
        have c2 : s.digest ≠ d := fun q => c (.inr (.inl q))
        have c3 : ¬ s.tries ≤ 1 := fun q => c (.inr (.inr q))
        exact ⟨right_less h1 (by omega), j, hj, e.symm, by rw [hg s hf c1 c2]; exact h3, h4⟩
  · rw [if_neg e] at hx
    obtain ⟨h1, j, hj, h2, h3, h4⟩ := h.know k x hx
    have hne : j ≠ i := by
      rintro rfl
      exact e h2.symm
    exact ⟨h1, j, hj, h2, by rw [hG j hne]; exact h3, h4⟩
/-- What a presentation tells. -/
theorem Once.told (h : Once l F U) (d : ByteArray) (i : Nat) (hi : i < 48) (now : Int) :
    ((Va.present d l (keyOf i) now).2.2 = 0 ∧ F i = true ∧ now < U i ∧ ∃ s, (Va.present d l (keyOf i) now).2.1 = some s ∧ s.key = keyOf i) ∨
    ((Va.present d l (keyOf i) now).2 = (none, 19) ∧ F i = true) ∨
    ((Va.present d l (keyOf i) now).2 = (none, 21) ∧ F i = true) ∨
    ((Va.present d l (keyOf i) now).2 = (none, 12) ∧ (Va.present d l (keyOf i) now).1 = l) := by
  cases hf : Rw.find Va.Sec.key l (keyOf i) with
  | none => exact .inr (.inr (.inr ⟨by rw [Va.told_present, hf], by rw [Va.present_none hf]⟩))
  | some s =>
    obtain ⟨_, j, hj, h2, h3, h4⟩ := h.know _ s hf
    have hji := keyOf_inj hj hi h2
    subst hji
    have ht := Va.told_present (d := d) (l := l) (k := keyOf j) (now := now)
    rw [hf] at ht
    simp only at ht
    by_cases c1 : s.expires ≤ now
    · rw [if_pos c1] at ht
      exact .inr (.inl ⟨ht, h3⟩)
    · rw [if_neg c1] at ht
      by_cases c2 : s.digest = d
      · rw [if_pos c2] at ht
        exact .inl ⟨by rw [ht], h3, by rw [h4]; omega, s, by rw [ht], Rw.find_key hf⟩
      · rw [if_neg c2] at ht
        exact .inr (.inr (.inl ⟨ht, h3⟩))
end
end Go.Proofs.YtfjdcopndkdbmaaGreatDoor

namespace Go.Proofs.YtfjdcopndkdbmaaGreatDoor
open Go.RowKit

/-- What is known of each secret of the row: it is right, ends behind 9, and its key is plain. -/
structure Kp (s : Va.Sec) : Prop where
  right : rightS s = true
  late : 9 < s.expires
  ch : s.channel.size ≤ 9
theorem Kp.ok {s : Va.Sec} (h : Kp s) : KeyOk s.key := by
  have h1 := h.right
  unfold rightS rightB at h1
  simp only [Bool.and_eq_true, decide_eq_true_eq] at h1
  have h2 := h.ch
  refine ⟨?_, ?_, ?_⟩
  · show (Lit.int .i64 s.account).wf = true
    simp [Lit.wf, IntKind.min, IntKind.max, IntKind.bits, IntKind.signed]
    omega
  · show (Lit.int .i64 s.purpose).wf = true
    simp [Lit.wf, IntKind.min, IntKind.max, IntKind.bits, IntKind.signed]
    omega
  · show s.channel.size ≤ maxLen
    unfold maxLen
    omega
theorem Kp.low {s : Va.Sec} (h : Kp s) : s.expires ≤ 1099511627776 := by
  have h1 := h.right
  unfold rightS rightB at h1
  simp only [Bool.and_eq_true, decide_eq_true_eq] at h1
  omega
theorem ch_nine (q : Int) : (chOf q).size ≤ 9 := by
  unfold chOf
  split <;> decide
theorem kp_sec (q0 q1 q2 q3 : Int) : Kp (secQ q0 q1 q2 q3 9) := by
  have h := Mi.life_at (purOf q1) (pur_in q1)
  exact ⟨sec_right _ _ _ _ _, by rw [sec_expires, Mi.clock_low _ _ (by omega) (by omega) (by omega)]; omega, ch_nine q2⟩
/-- What stands at a place behind a put: what stood there, or it had the key that was put. -/
theorem put_at (l : List Va.Sec) (s : Va.Sec) (k : Nat) (hk : k < l.length) : ∃ h : k < (Rw.put Va.Sec.key l s).length, (Rw.put Va.Sec.key l s)[k] = l[k] ∨ l[k].key = s.key := by
  have hl := Rw.put_length (key := Va.Sec.key) l s
  have hlt : k < (Rw.put Va.Sec.key l s).length := by rw [hl]; split <;> omega
  refine ⟨hlt, ?_⟩
  revert hlt
  clear hl
  unfold Rw.put
  cases hp : Rw.place Va.Sec.key l s.key with
  | none =>
    simp only
    intro _
    exact .inl (List.getElem_append_left hk)
  | some i =>
    simp only
    intro h
    obtain ⟨hi, _, h2, _⟩ := Rw.place_some hp
    rw [List.getElem_set]
    by_cases e : i = k
    · subst e
      exact .inr h2
    · rw [if_neg e]
      exact .inl rfl
/-- All that the law asks behind one put. -/
theorem keeps (l : List Va.Sec) (s : Va.Sec) (hu : Rw.Uniq Va.Sec.key l) (h : ∀ x ∈ l, Kp x) (hs : Kp s) : ∃ L2, Rw.put Va.Sec.key l s = L2 ∧ L2.length ≤ l.length + 1 ∧
    Rw.Uniq Va.Sec.key L2 ∧ (∀ x ∈ L2, Kp x) ∧ Rw.find Va.Sec.key L2 s.key = some s ∧
    L2.length = (if (Rw.find Va.Sec.key l s.key).isSome then l.length else l.length + 1) ∧ (Va.drop L2 s.account 0).length + Va.of L2 s.account = L2.length ∧ Va.of (Va.drop L2 s.account 0) s.account = 0 ∧
    Va.sweep L2 1099511627776 = [] ∧ Va.sweep L2 9 = L2 ∧ (∀ k (hk : k < l.length), ∃ h : k < L2.length, L2[k] = l[k] ∨ l[k].key = s.key) := by
  have hall := Va.all_put (l := l) h hs
  have hf := Rw.find_put (key := Va.Sec.key) l s s.key
  rw [if_pos rfl] at hf
  have hd := Va.drop_of (Rw.put Va.Sec.key l s) s.account
  have hlen := Rw.put_length (key := Va.Sec.key) l s
  exact ⟨_, rfl, by rw [hlen]; split <;> omega, hu.put s, hall, hf, hlen, hd.1, hd.2, Va.sweep_all _ _ (fun x hx => (hall x hx).low), Va.sweep_none _ _ (fun x hx => (hall x hx).late), fun k hk => put_at l s k hk⟩
end Go.Proofs.YtfjdcopndkdbmaaGreatDoor
