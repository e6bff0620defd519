/-
  Mathematics for layers whose state is a row of records, each with a key: the first of a key, put in its place or behind all, taken away, filtered; what then is found of each key. No condition.
  The mathematics of layer 11: rows of secrets, each with a key; one put, presented, dropped, swept; what is found of each key behind each of them. No condition.
  Rows of secrets in memory: a secret's six cells, a row of them that lies somewhere, one element of it, rows appended to a row that a call has made. No condition.
-/
import Derived.Test.YtfjdcopndkdbmaaGreatDoorBas

namespace Go.Proofs.YtfjdcopndkdbmaaGreatDoor.Rw

variable {S : Type} {K : Type}
/-- No two have the same key. -/
def Uniq (key : S → K) (l : List S) : Prop := (l.map key).Nodup
section
variable {key : S → K}
theorem keys_set (l : List S) (i : Nat) (hi : i < l.length) (s : S) (hs : key s = key l[i]) : (l.set i s).map key = l.map key := by
  apply List.ext_getElem
  · simp
  · intro j h1 h2
    rw [List.getElem_map, List.getElem_map, List.getElem_set]
    split
    · rename_i e
      subst e
      exact hs
    · rfl
theorem Uniq.set_ {l : List S} (h : Uniq key l) (i : Nat) (hi : i < l.length) (s : S) (hs : key s = key l[i]) : Uniq key (l.set i s) := by
  unfold Uniq at h ⊢
  rw [keys_set l i hi s hs]
  exact h
/-- In a row in which no two have the same key, the first before is the only one. -/
theorem Uniq.before {l : List S} (h : Uniq key l) (i : Nat) (hi : i < l.length) : ∀ j (hj : j < i), key (l[j]'(by omega)) ≠ key l[i] := by
  intro j hj he
  unfold Uniq List.Nodup at h
  have := List.pairwise_iff_getElem.1 h j i (by simp; omega) (by simpa using hi) hj
  simp only [List.getElem_map] at this
  exact this he
theorem Uniq.sub {l m : List S} (h : Uniq key l) (hs : m.Sublist l) : Uniq key m := by
  unfold Uniq at h ⊢
  exact List.Pairwise.sublist (hs.map key) h
theorem Uniq.erase {l : List S} (h : Uniq key l) (i : Nat) : Uniq key (l.eraseIdx i) := h.sub (List.eraseIdx_sublist l i)
theorem Uniq.filter {l : List S} (h : Uniq key l) (p : S → Bool) : Uniq key (l.filter p) := h.sub List.filter_sublist
theorem Uniq.nil : Uniq key ([] : List S) := List.nodup_nil
end
variable [DecidableEq K]
/-- The first one of a key, and its place. -/
def find (key : S → K) (l : List S) (k : K) : Option S := l.find? fun s => decide (key s = k)
def place (key : S → K) (l : List S) (k : K) : Option Nat := l.findIdx? fun s => decide (key s = k)
/-- One put in the place of the first of its key, or behind all. -/
def put (key : S → K) (l : List S) (s : S) : List S := match place key l (key s) with | some i => l.set i s | none => l ++ [s]
/-- The first one of a key taken away. -/
def away (key : S → K) (l : List S) (k : K) : List S := match place key l k with | some i => l.eraseIdx i | none => l
section
variable {key : S → K}
theorem find_cons (s : S) (l : List S) (k : K) : find key (s :: l) k = if key s = k then some s else find key l k := by
  unfold find
  rw [List.find?_cons]
  by_cases h : key s = k <;> simp [h]
theorem place_cons (s : S) (l : List S) (k : K) : place key (s :: l) k = if key s = k then some 0 else (place key l k).map (· + 1) := by
  unfold place
  rw [List.findIdx?_cons]
  by_cases h : key s = k <;> simp [h]
theorem find_key {l : List S} {k : K} {s : S} (h : find key l k = some s) : key s = k := by
  have := List.find?_some h
  simpa using this
theorem find_mem {l : List S} {k : K} {s : S} (h : find key l k = some s) : s ∈ l := List.mem_of_find?_eq_some h
theorem find_none {l : List S} {k : K} : find key l k = none ↔ ∀ s ∈ l, key s ≠ k := by
  unfold find
  rw [List.find?_eq_none]
  simp
theorem place_none {l : List S} {k : K} : place key l k = none ↔ find key l k = none := by
  induction l with
  | nil => simp [place, find]
  | cons a l ih =>
    rw [place_cons, find_cons]
    by_cases h : key a = k
    · simp [h]
    · simp [h, ih]
theorem place_some {l : List S} {k : K} {i : Nat} (h : place key l k = some i) : ∃ hi : i < l.length, find key l k = some l[i] ∧ key l[i] = k ∧ ∀ j (hj : j < i), key (l[j]'(by omega)) ≠ k := by
  induction l generalizing i with
  | nil => simp [place] at h
  | cons a l ih =>
    rw [place_cons] at h
    by_cases ha : key a = k
    · rw [if_pos ha] at h
      have : i = 0 := (Option.some.inj h).symm
      subst this
      refine ⟨by simp, ?_, ha, fun j hj => by omega⟩
      rw [find_cons, if_pos ha]
      rfl
    · rw [if_neg ha] at h
      cases hp : place key l k with
      | none => rw [hp] at h; cases h
      | some q =>
        rw [hp] at h
        have hq : q + 1 = i := by simpa using h
        subst hq
        obtain ⟨h1, h2, h3, h4⟩ := ih hp
        refine ⟨by simp; omega, ?_, by simpa using h3, ?_⟩
        · rw [find_cons, if_neg ha, h2]
          simp
        · intro j hj
          cases j with
          | zero => simpa using ha
          | succ j => simpa using h4 j (by omega)
/-- A row in which one stands in the place of another of the same key. -/
theorem find_set (l : List S) (i : Nat) (hi : i < l.length) (s : S) (hs : key s = key l[i]) (hf : ∀ j (hj : j < i), key (l[j]'(by omega)) ≠ key s) (k : K) : find key (l.set i s) k = if key s = k then some s else find key l k := by
  induction l generalizing i with
  | nil => simp at hi
  | cons a l ih =>
    cases i with
    | zero =>
      have ha : key s = key a := by simpa using hs
      rw [List.set_cons_zero, find_cons, find_cons]
      by_cases h : key s = k
      · rw [if_pos h, if_pos h]
      · rw [if_neg h, if_neg h, if_neg (by rw [← ha]; exact h)]
    | succ i =>
      have hi' : i < l.length := by simpa using hi
      have h0 : key a ≠ key s := by simpa using hf 0 (by omega)
      have ih2 := ih i hi' (by simpa using hs) (fun j hj => by simpa using hf (j + 1) (by omega))
      rw [List.set_cons_succ, find_cons, find_cons, ih2]
      by_cases h : key a = k
      · rw [if_pos h, if_pos h, if_neg (fun e => h0 (h.trans e.symm))]
      · rw [if_neg h, if_neg h]
theorem find_append_one (l : List S) (s : S) (k : K) : find key (l ++ [s]) k = match find key l k with | some x => some x | none => if key s = k then some s else none := by
  induction l with
  | nil => rw [List.nil_append, find_cons]; rfl
  | cons a l ih =>
    rw [List.cons_append, find_cons, find_cons, ih]
    by_cases h : key a = k <;> simp [h]
/-- WHAT IS FOUND BEHIND A PUT. -/
theorem find_put (l : List S) (s : S) (k : K) : find key (put key l s) k = if key s = k then some s else find key l k := by
  unfold put
  cases hp : place key l (key s) with
  | none =>
    simp only
    rw [find_append_one]
    have hn := place_none.1 hp
    by_cases h : key s = k
    · rw [if_pos h, ← h, hn]
      simp
    · rw [if_neg h, if_neg h]
      cases find key l k <;> rfl
  | some i =>
    simp only
    obtain ⟨hi, _, h2, h3⟩ := place_some hp
    exact find_set l i hi s h2.symm h3 k
theorem put_length (l : List S) (s : S) : (put key l s).length = if (find key l (key s)).isSome then l.length else l.length + 1 := by
  unfold put
  cases hp : place key l (key s) with
  | none => rw [place_none.1 hp]; simp
  | some i =>
    obtain ⟨_, h1, _, _⟩ := place_some hp
    rw [h1]
    simp
theorem Uniq.put {l : List S} (h : Uniq key l) (s : S) : Uniq key (Rw.put key l s) := by
  unfold Rw.put
  cases hp : place key l (key s) with
  | none =>
    simp only
    unfold Uniq at h ⊢
    rw [List.map_append, List.nodup_append]
    refine ⟨h, by simp, ?_⟩
    intro a ha b hb
    have hn := find_none.1 (place_none.1 hp)
    obtain ⟨x, hx, rfl⟩ := List.mem_map.1 ha
    have : b = key s := by simpa using hb
    subst this
    exact hn x hx
  | some i =>
    simp only
    obtain ⟨hi, _, h2, _⟩ := place_some hp
    unfold Uniq at h ⊢
    rw [keys_set l i hi s h2.symm]
    exact h
theorem find_erase {l : List S} (h : Uniq key l) (i : Nat) (hi : i < l.length) (k : K) : find key (l.eraseIdx i) k = if key l[i] = k then none else find key l k := by
  induction l generalizing i with
  | nil => simp at hi
  | cons a l ih =>
    have hu : Uniq key l := (List.nodup_cons.1 h).2
    have ha : key a ∉ l.map key := (List.nodup_cons.1 h).1
    cases i with
    | zero =>
      rw [List.eraseIdx_cons_zero, find_cons]
      simp only [List.getElem_cons_zero]
      by_cases hk : key a = k
      · rw [if_pos hk]
        rw [find_none]
        intro s hs he
        exact ha (List.mem_map.2 ⟨s, hs, he.trans hk.symm⟩)
      · rw [if_neg hk, if_neg hk]
    | succ i =>
      have hi' : i < l.length := by simpa using hi
      rw [List.eraseIdx_cons_succ, find_cons, find_cons, ih hu i hi']
      simp only [List.getElem_cons_succ]
      by_cases hk : key a = k
      · rw [if_pos hk]
        have : key l[i] ≠ k := fun e => ha (List.mem_map.2 ⟨l[i], List.getElem_mem hi', e.trans hk.symm⟩)
        rw [if_neg this, if_pos hk]
      · rw [if_neg hk, if_neg hk]
theorem find_filter {l : List S} (h : Uniq key l) (p : S → Bool) (k : K) : find key (l.filter p) k = match find key l k with | some s => if p s = true then some s else none | none => none := by
  induction l with
  | nil => rfl
  | cons a l ih =>
    have hu : Uniq key l := (List.nodup_cons.1 h).2
    have ha : key a ∉ l.map key := (List.nodup_cons.1 h).1
    rw [List.filter_cons, find_cons]
    by_cases hk : key a = k
    · rw [if_pos hk]
      by_cases hp : p a = true
      · rw [if_pos hp, find_cons, if_pos hk]
        simp [hp]
      · rw [if_neg hp]
        have : find key (l.filter p) k = none := by
          rw [find_none]
          intro s hs he
          exact ha (List.mem_map.2 ⟨s, (List.mem_filter.1 hs).1, he.trans hk.symm⟩)
        rw [this]
        simp [hp]
    · rw [if_neg hk]
      by_cases hp : p a = true
      · rw [if_pos hp, find_cons, if_neg hk, ih hu]
      · rw [if_neg hp, ih hu]
/-- Whether no key comes twice, told by the places of the first ones. -/
theorem uniq_iff (l : List S) : Uniq key l ↔ ∀ i (hi : i < l.length), place key l (key l[i]) = some i := by
  constructor
  · intro h i hi
    cases hp : place key l (key l[i]) with
    | none =>
      have := find_none.1 (place_none.1 hp) l[i] (List.getElem_mem hi)
      exact absurd rfl this
    | some j =>
      obtain ⟨hj, _, h2, h3⟩ := place_some hp
      rcases Nat.lt_trichotomy i j with h4 | h4 | h4
      · exact absurd rfl (h3 i h4)
      · rw [h4]
      · exact absurd h2 (h.before i hi j h4)
  · intro h
    unfold Uniq List.Nodup
    rw [List.pairwise_iff_getElem]
    intro i j hi hj hij he
    have hi' : i < l.length := by simpa using hi
    have hj' : j < l.length := by simpa using hj
    have he' : key l[i] = key l[j] := by simpa using he
    have h1 := h i hi'
    have h2 := h j hj'
    rw [he'] at h1
    rw [h1] at h2
    have := Option.some.inj h2
    omega
end
end Go.Proofs.YtfjdcopndkdbmaaGreatDoor.Rw

namespace Go.Proofs.YtfjdcopndkdbmaaGreatDoor.Va
open Rw

/-- A secret. -/
structure Sec where
  digest : ByteArray
  account : Int
  purpose : Int
  channel : ByteArray
  expires : Int
  tries : Int
abbrev Key := Int × Int × ByteArray
def Sec.key (s : Sec) : Key := (s.account, s.purpose, s.channel)
/-- PUT: what there is then, and the error's number. 'ok': may the secret be? -/
def put (ok : Bool) (l : List Sec) (s : Sec) : List Sec × Nat :=
  if ok = true then match place Sec.key l s.key with
    | some i => (l.set i s, 0)
    | none => if 40 ≤ l.length then (l, 15) else (l ++ [s], 0)
  else (l, 1)
def drop (l : List Sec) (a p : Int) : List Sec := l.filter fun s => !(decide (s.account = a) && (decide (p = 0) || decide (s.purpose = p)))
def sweep (l : List Sec) (now : Int) : List Sec := l.filter fun s => decide (now < s.expires)
def of (l : List Sec) (a : Int) : Nat := l.countP fun s => decide (s.account = a)
def live (l : List Sec) (k : Key) (now : Int) : Int := match find Sec.key l k with | some s => if now < s.expires then s.tries else 0 | none => 0
/-- PRESENT, by the digest that was computed. -/
def present (d : ByteArray) (l : List Sec) (k : Key) (now : Int) : List Sec × Option Sec × Nat :=
  match place Sec.key l k with
  | none => (l, none, 12)
  | some i =>
    match l[i]? with
    | none => (l, none, 12)
    | some s =>
      if s.expires ≤ now then (l.eraseIdx i, none, 19)
      else if s.digest = d then (l.eraseIdx i, some s, 0)
      else if s.tries ≤ 1 then (l.eraseIdx i, none, 21)
      else (l.set i { s with tries := s.tries - 1 }, none, 21)

theorem put_bad (l : List Sec) (s : Sec) : put false l s = (l, 1) := rfl
theorem put_ok (l : List Sec) (s : Sec) (h : l.length < 40) : put true l s = (Rw.put Sec.key l s, 0) := by
  unfold put Rw.put
  rw [if_pos rfl]
  cases place Sec.key l s.key with
  | some i => rfl
  | none => rw [if_neg (by omega)]
theorem put_room (l : List Sec) (s : Sec) (h : (find Sec.key l s.key).isSome = true) : put true l s = (Rw.put Sec.key l s, 0) := by
  unfold put Rw.put
  rw [if_pos rfl]
  cases hp : place Sec.key l s.key with
  | some i => rfl
  | none => rw [place_none.1 hp] at h; cases h
theorem present_none {d : ByteArray} {l : List Sec} {k : Key} {now : Int} (h : find Sec.key l k = none) : present d l k now = (l, none, 12) := by
  unfold present
  rw [place_none.2 h]
theorem present_some {d : ByteArray} {l : List Sec} {k : Key} {now : Int} {s : Sec} (h : find Sec.key l k = some s) :
    ∃ i, place Sec.key l k = some i ∧ ∃ hi : i < l.length, l[i] = s ∧ s.key = k ∧
      present d l k now = if s.expires ≤ now then (l.eraseIdx i, none, 19) else if s.digest = d then (l.eraseIdx i, some s, 0) else if s.tries ≤ 1 then (l.eraseIdx i, none, 21) else (l.set i { s with tries := s.tries - 1 }, none, 21) := by
  cases hp : place Sec.key l k with
  | none => rw [place_none.1 hp] at h; cases h
  | some i =>
    obtain ⟨hi, h1, h2, _⟩ := place_some hp
    rw [h1] at h
    have e : l[i] = s := Option.some.inj h
    refine ⟨i, rfl, hi, e, by rw [← e]; exact h2, ?_⟩
    unfold present
    rw [hp]
    simp only [List.getElem?_eq_getElem hi, e]
/-- WHAT IS FOUND BEHIND AN ATTEMPT, of each key. -/
theorem find_present {d : ByteArray} {l : List Sec} {k : Key} {now : Int} (hu : Uniq Sec.key l) (k' : Key) :
    find Sec.key (present d l k now).1 k' = if k' = k then (match find Sec.key l k with
      | none => none
      | some s => if s.expires ≤ now ∨ s.digest = d ∨ s.tries ≤ 1 then none else some { s with tries := s.tries - 1 }) else find Sec.key l k' := by
  cases hf : find Sec.key l k with
  | none =>
    rw [present_none hf]
    by_cases h : k' = k
    · rw [if_pos h, h, hf]
    · rw [if_neg h]
  | some s =>
    obtain ⟨i, hp, hi, hli, hk, he⟩ := present_some (d := d) (now := now) hf
    rw [he]
    have hkey : Sec.key l[i] = k := by rw [hli, hk]
    have herase : find Sec.key (l.eraseIdx i) k' = if k' = k then none else find Sec.key l k' := by
      rw [find_erase hu i hi k', hkey]
      by_cases h : k' = k
      · rw [if_pos h.symm, if_pos h]
      · rw [if_neg (fun e => h e.symm), if_neg h]
    have hset : find Sec.key (l.set i { s with tries := s.tries - 1 }) k' = if k' = k then some { s with tries := s.tries - 1 } else find Sec.key l k' := by
      have hks : Sec.key { s with tries := s.tries - 1 } = k := hk
      rw [find_set l i hi _ (by rw [hks, hkey]) (fun j hj => by rw [hks, ← hkey]; exact hu.before i hi j hj) k', hks]
      by_cases h : k' = k
      · rw [if_pos h.symm, if_pos h]
      · rw [if_neg (fun e => h e.symm), if_neg h]
    have hgone : (s.expires ≤ now ∨ s.digest = d ∨ s.tries ≤ 1) → (if s.expires ≤ now ∨ s.digest = d ∨ s.tries ≤ 1 then (none : Option Sec) else some { s with tries := s.tries - 1 }) = none := fun h => if_pos h
    have hstay : ¬ (s.expires ≤ now ∨ s.digest = d ∨ s.tries ≤ 1) → (if s.expires ≤ now ∨ s.digest = d ∨ s.tries ≤ 1 then (none : Option Sec) else some { s with tries := s.tries - 1 }) = some { s with tries := s.tries - 1 } := fun h => if_neg h
    simp only
    by_cases h1 : s.expires ≤ now
    · rw [if_pos h1, hgone (.inl h1)]; exact herase
    · rw [if_neg h1]
      by_cases h2 : s.digest = d
      · rw [if_pos h2, hgone (.inr (.inl h2))]; exact herase
      · rw [if_neg h2]
        by_cases h3 : s.tries ≤ 1
        · rw [if_pos h3, hgone (.inr (.inr h3))]; exact herase
        · rw [if_neg h3, hstay (by rintro (h | h | h); exact h1 h; exact h2 h; exact h3 h)]; exact hset
theorem uniq_present {d : ByteArray} {l : List Sec} {k : Key} {now : Int} (hu : Uniq Sec.key l) : Uniq Sec.key (present d l k now).1 := by
  cases hf : find Sec.key l k with
  | none => rw [present_none hf]; exact hu
  | some s =>
    obtain ⟨i, hp, hi, hli, hk, he⟩ := present_some (d := d) (now := now) hf
    rw [he]
    split
    · exact hu.erase i
    · split
      · exact hu.erase i
      · split
        · exact hu.erase i
        · exact hu.set_ i hi _ (by rw [hli]; rfl)
theorem length_present (d : ByteArray) (l : List Sec) (k : Key) (now : Int) : (present d l k now).1.length ≤ l.length := by
  cases hf : find Sec.key l k with
  | none => rw [present_none hf]; exact Nat.le_refl _
  | some s =>
    obtain ⟨i, hp, hi, hli, hk, he⟩ := present_some (d := d) (now := now) hf
    have h1 : (l.eraseIdx i).length ≤ l.length := by rw [List.length_eraseIdx]; split <;> omega
    rw [he]
    split
    · exact h1
    · split
      · exact h1
      · split
        · exact h1
        · simp
/-- What holds of each secret, whatever its tries but at most as many, holds behind an attempt. -/
theorem all_present {P : Sec → Prop} {d : ByteArray} {l : List Sec} {k : Key} {now : Int} (h : ∀ s ∈ l, P s) (hd : ∀ s, P s → 1 < s.tries → P { s with tries := s.tries - 1 }) : ∀ s ∈ (present d l k now).1, P s := by
  cases hf : find Sec.key l k with
  | none => rw [present_none hf]; exact h
  | some s =>
    obtain ⟨i, hp, hi, hli, hk, he⟩ := present_some (d := d) (now := now) hf
    have hs : P s := h s (find_mem hf)
    have h1 : ∀ x ∈ l.eraseIdx i, P x := fun x hx => h x ((List.eraseIdx_sublist l i).subset hx)
    rw [he]
    split
    · exact h1
    · split
      · exact h1
      · split
        · exact h1
        · rename_i h3
          intro x hx
          rcases List.mem_or_eq_of_mem_set hx with hx | rfl
          · exact h x hx
          · exact hd s hs (by omega)
/-- The error and the secret of an attempt. -/
theorem told_present {d : ByteArray} {l : List Sec} {k : Key} {now : Int} : (present d l k now).2 = match find Sec.key l k with
      | none => (none, 12)
      | some s => if s.expires ≤ now then (none, 19) else if s.digest = d then (some s, 0) else (none, 21) := by
  cases hf : find Sec.key l k with
  | none => rw [present_none hf]
  | some s =>
    obtain ⟨i, hp, hi, hli, hk, he⟩ := present_some (d := d) (now := now) hf
    rw [he]
    simp only
    by_cases h1 : s.expires ≤ now
    · rw [if_pos h1, if_pos h1]
    · rw [if_neg h1, if_neg h1]
      by_cases h2 : s.digest = d
      · rw [if_pos h2, if_pos h2]
      · rw [if_neg h2, if_neg h2]
        split <;> rfl
theorem live_present {d : ByteArray} {l : List Sec} {k : Key} {now : Int} (hu : Uniq Sec.key l) (hl : ∀ s ∈ l, 1 ≤ s.tries) :
    live (present d l k now).1 k now = match find Sec.key l k with
      | none => 0
      | some s => if s.expires ≤ now then 0 else if s.digest = d then 0 else s.tries - 1 := by
  unfold live
  rw [find_present hu, if_pos rfl]
  cases hf : find Sec.key l k with
  | none => rfl
  | some s =>
    have h0 := hl s (find_mem hf)
    simp only
    by_cases h1 : s.expires ≤ now
    · rw [if_pos (.inl h1), if_pos h1]
    · rw [if_neg h1]
      by_cases h2 : s.digest = d
      · rw [if_pos (.inr (.inl h2)), if_pos h2]
      · rw [if_neg h2]
        by_cases h3 : s.tries ≤ 1
        · rw [if_pos (.inr (.inr h3))]
          simp only
          omega
        · rw [if_neg (by simp [h1, h2, h3])]
          simp only
          rw [if_pos (by omega)]
theorem sweep_find {l : List Sec} (hu : Uniq Sec.key l) (now : Int) (k : Key) : find Sec.key (sweep l now) k = match find Sec.key l k with | some s => if now < s.expires then some s else none | none => none := by
  unfold sweep
  rw [find_filter hu]
  cases find Sec.key l k with
  | none => rfl
  | some s => simp
theorem drop_of (l : List Sec) (a : Int) : (drop l a 0).length + of l a = l.length ∧ of (drop l a 0) a = 0 := by
  unfold drop of
  constructor
  · induction l with
    | nil => rfl
    | cons s l ih =>
      by_cases h : s.account = a
      · simp [h] at ih ⊢; omega
      · simp [h] at ih ⊢; omega
  · rw [List.countP_eq_zero]
    intro s hs
    simp at hs
    simpa using hs.2
theorem sweep_all (l : List Sec) (now : Int) (h : ∀ s ∈ l, s.expires ≤ now) : sweep l now = [] := by
  unfold sweep
  rw [List.filter_eq_nil_iff]
  intro s hs
  have := h s hs
  simp
  omega
theorem sweep_none (l : List Sec) (now : Int) (h : ∀ s ∈ l, now < s.expires) : sweep l now = l := by
  unfold sweep
  rw [List.filter_eq_self]
  intro s hs
  have := h s hs
  simpa using this
theorem all_put {P : Sec → Prop} {l : List Sec} {s : Sec} (h : ∀ x ∈ l, P x) (hs : P s) : ∀ x ∈ Rw.put Sec.key l s, P x := by
  unfold Rw.put
  intro x hx
  cases hp : place Sec.key l s.key with
  | none =>
    rw [hp] at hx
    rcases List.mem_append.1 hx with hx | hx
    · exact h x hx
    · rw [List.mem_singleton.1 hx]; exact hs
  | some i =>
    rw [hp] at hx
    rcases List.mem_or_eq_of_mem_set hx with hx | rfl
    · exact h x hx
    · exact hs
end Go.Proofs.YtfjdcopndkdbmaaGreatDoor.Va

namespace Go.Proofs.YtfjdcopndkdbmaaGreatDoor
open Go.RowKit

def secC (s : Va.Sec) : List Value := [.string s.digest, .int .i64 s.account, .int .i64 s.purpose, .string s.channel, .int .i64 s.expires, .int .i64 s.tries]
/-- A row's cells. -/
def secs (l : List Va.Sec) : List Value := l.flatMap secC
theorem secs_nil : secs [] = [] := rfl
theorem secs_cons (s : Va.Sec) (l : List Va.Sec) : secs (s :: l) = secC s ++ secs l := by simp [secs]
theorem secs_append (l m : List Va.Sec) : secs (l ++ m) = secs l ++ secs m := by simp [secs]
theorem secs_one (s : Va.Sec) : secs [s] = secC s := by simp [secs]
theorem secs_length (l : List Va.Sec) : (secs l).length = l.length * 6 := by
  induction l with
  | nil => rfl
  | cons s l ih => rw [secs_cons, List.length_append, ih, List.length_cons]; show 6 + l.length * 6 = _; omega
theorem secs_cell (l : List Va.Sec) : ∀ u ∈ secs l, u.oneCell' = true := by
  intro u hu
  obtain ⟨s, _, h⟩ := List.mem_flatMap.1 hu
  simp only [secC, List.mem_cons, List.not_mem_nil, or_false] at h
  rcases h with rfl | rfl | rfl | rfl | rfl | rfl <;> rfl
theorem secs_get (l : List Va.Sec) (i k : Nat) (hi : i < l.length) (hk : k < 6) : (secs l)[i * 6 + k]? = (secC l[i])[k]? := by
  induction l generalizing i with
  | nil => simp at hi
  | cons s l ih =>
    rw [secs_cons]
    cases i with
    | zero =>
      rw [Nat.zero_mul, Nat.zero_add, List.getElem?_append_left (by show k < 6; exact hk)]
      rfl
    | succ i =>
      rw [List.getElem?_append_right (by show 6 ≤ _; omega), show (i + 1) * 6 + k - (secC s).length = i * 6 + k by show _ - 6 = _; omega, ih i (by simpa using hi)]
      rfl
theorem secs_take (l : List Va.Sec) (n : Nat) : secs (l.take n) = (secs l).take (n * 6) := by
  induction l generalizing n with
  | nil => simp [secs]
  | cons s l ih =>
    cases n with
    | zero => simp [secs]
    | succ n =>
      rw [List.take_succ_cons, secs_cons, secs_cons, ih, List.take_append, show (secC s).length = 6 from rfl, List.take_of_length_le (l := secC s) (by show 6 ≤ (n + 1) * 6; omega), show (n + 1) * 6 - 6 = n * 6 by omega]
theorem secs_drop (l : List Va.Sec) (n : Nat) : secs (l.drop n) = (secs l).drop (n * 6) := by
  induction l generalizing n with
  | nil => simp [secs]
  | cons s l ih =>
    cases n with
    | zero => simp [secs]
    | succ n =>
      rw [List.drop_succ_cons, secs_cons, ih, List.drop_append, show (secC s).length = 6 from rfl, show (secC s).drop ((n + 1) * 6) = [] from List.drop_eq_nil_of_le (by show 6 ≤ (n + 1) * 6; omega), show (n + 1) * 6 - 6 = n * 6 by omega, List.nil_append]
theorem secs_set (l : List Va.Sec) (i : Nat) (s : Va.Sec) (hi : i < l.length) : secs (l.set i s) = splice (secs l) (i * 6) (secC s) := by
  unfold splice
  rw [List.set_eq_take_append_cons_drop, if_pos hi, secs_append, secs_cons, secs_take, secs_drop, show (secC s).length = 6 from rfl, show (i + 1) * 6 = i * 6 + 6 by omega]
/-- One secret at an address. -/
structure SecAt (W : World) (p : Addr) (s : Va.Sec) : Prop where
  c0 : W.cell? p = some (.string s.digest)
  c1 : W.cell? ⟨p.block, p.off + 1, none⟩ = some (.int .i64 s.account)
  c2 : W.cell? ⟨p.block, p.off + 2, none⟩ = some (.int .i64 s.purpose)
  c3 : W.cell? ⟨p.block, p.off + 3, none⟩ = some (.string s.channel)
  c4 : W.cell? ⟨p.block, p.off + 4, none⟩ = some (.int .i64 s.expires)
  c5 : W.cell? ⟨p.block, p.off + 5, none⟩ = some (.int .i64 s.tries)
  lt : p.block < W.heap.size
theorem SecAt.below {W w : World} {p : Addr} {s : Va.Sec} (h : SecAt W p s) (hb : Below W.heap.size W w) : SecAt w p s :=
  ⟨(hb.cell h.lt).trans h.c0, (hb.cell (p := ⟨p.block, p.off + 1, none⟩) h.lt).trans h.c1, (hb.cell (p := ⟨p.block, p.off + 2, none⟩) h.lt).trans h.c2, (hb.cell (p := ⟨p.block, p.off + 3, none⟩) h.lt).trans h.c3, (hb.cell (p := ⟨p.block, p.off + 4, none⟩) h.lt).trans h.c4, (hb.cell (p := ⟨p.block, p.off + 5, none⟩) h.lt).trans h.c5, Nat.lt_of_lt_of_le h.lt hb.size⟩
theorem add_add (a : Addr) (i k : Nat) (hk : 0 < k) : a.add (i + k) = ⟨(a.add i).block, (a.add i).off + k, none⟩ := by
  unfold Addr.add
  rw [if_neg (by omega)]
  split
  · rename_i h; subst h; simp
  · simp; omega
/-- ONE ELEMENT OF A ROW. -/
theorem lies_sec {S : Nat → Prop} {w : World} {A : Option Addr} {l : List Va.Sec} (h : Lies S w A (secs l)) (i : Nat) (hi : i < l.length) : ∃ a, A = some a ∧ SecAt w (a.add (i * 6)) l[i] := by
  obtain ⟨a, rfl, hb, _, h0⟩ := h (i * 6 + 0) _ ((secs_get l i 0 hi (by decide)).trans rfl)
  have at_ : ∀ k u, 0 < k → (secC l[i])[k]? = some u → k < 6 → w.cell? ⟨(a.add (i * 6)).block, (a.add (i * 6)).off + k, none⟩ = some u := by
    intro k u hk hu h6
    obtain ⟨a', e, _, _, hc⟩ := h (i * 6 + k) u ((secs_get l i k hi h6).trans hu)
    injection e with e
    subst e
    rw [← add_add _ _ _ hk]
    exact hc
  exact ⟨a, rfl, h0, at_ 1 _ (by decide) rfl (by decide), at_ 2 _ (by decide) rfl (by decide), at_ 3 _ (by decide) rfl (by decide), at_ 4 _ (by decide) rfl (by decide), at_ 5 _ (by decide) rfl (by decide), by rw [add_block]; exact hb⟩
/-- A row that a call has made. -/
theorem lies_made {S : Nat → Prop} {w : World} {base n c size : Nat} {e : TypeId} {A : Option Addr} {vs : List Value} (h : w.ownsRow base e size (.slice A n c) n vs) (hS : ∀ g, base ≤ g → ¬ S g) : Lies S w A vs := fun i u hi => by
  rcases h.2 with ⟨hv, h0⟩ | ⟨g, cap, cur, hv, hb, hh, h1, h2, h3, h4⟩
  · have := h.1
    rw [h0, Nat.zero_mul] at this
    have hn := List.eq_nil_of_length_eq_zero this
    subst hn
    simp at hi
  · have hA : A = some ⟨g, 0, none⟩ := by injection hv
    subst hA
    have hlt : g < w.heap.size := by
      rcases Nat.lt_or_ge g w.heap.size with hlt | hge
      · exact hlt
      · rw [Array.getElem?_eq_none hge] at hh; cases hh
    refine ⟨⟨g, 0, none⟩, rfl, hlt, hS g hb, ?_⟩
    have hadd : (⟨g, 0, none⟩ : Addr).add i = ⟨g, i, none⟩ := by unfold Addr.add; split <;> simp_all
    rw [hadd, cell_of_row w g i cur e (0, 0) hh, ← Array.getElem?_toList]
    rw [← h4] at hi
    have hl : i < n * size := by
      rcases Nat.lt_or_ge i (n * size) with h | h
      · exact h
      · rw [List.getElem?_take, if_neg (by omega)] at hi; cases hi
    rw [List.getElem?_take, if_pos hl] at hi
    exact hi
section
variable {P : Program}
/-- A slice of values of some cells each, wherever it lies, appended to a row that a call has made. -/
theorem run_append_rows (w : World) (base size : Nat) (hsz : 0 < size) (t ty e : TypeId) (i : TypeInfo) (z : Value) (bytes : Nat) (ht : P.underlying t = some (.slice e)) (hi : P.info? e = some i) (hz : i.zero = some z) (hsize : i.size = size) (hby : i.bytes = bytes) (hzs : z.cells.size = size)
    (v : Value) (n : Nat) (xs : List Value) (hown : w.ownsRow base e size v n xs) {S : Nat → Prop} (A : Option Addr) (m c : Nat) (vs : List Value) (hm : vs.length = m * size) (hA : Lies S w A vs) (h1 : ∀ u ∈ vs, u.oneCell' = true)
    (h63 : n + m ≤ maxLen) (hbytes : (n + m) * bytes ≤ 140737488355328) (hbase : base ≤ w.heap.size) :
    ∃ A' c' w', (Builtin.append_ #[t, t] ty #[v, .slice A m c]).run P w = .ok (.slice A' (n + m) c') w' ∧ w'.ownsRow base e size (.slice A' (n + m) c') (n + m) (xs ++ vs) ∧ w.grownBy w' v.ownBlock := by
  have form : ∀ {w : World} {n : Nat} {v : Value} {xs : List Value}, w.ownsRow base e size v n xs → ∃ A c, v = .slice A n c := by
    intro w n v xs h
    rcases h.2 with ⟨rfl, rfl⟩ | ⟨g, cap, cur, rfl, _⟩
    · exact ⟨_, _, rfl⟩
    · exact ⟨_, _, rfl⟩
  cases A with
  | some a =>
    obtain ⟨v', w', hr, ho, hg, _⟩ := run_append_own (P := P) w base t ty e i z size bytes ht hi hz hsize hby hzs hsz v n xs hown a m c vs hm (fun j u hj => by
      obtain ⟨a', h1, _, _, h4⟩ := hA j u hj
      injection h1 with h1
      subst h1
      exact h4) h1 h63 hbytes hbase
    obtain ⟨A', c', rfl⟩ := form ho
    exact ⟨A', c', w', hr, ho, hg⟩
  | none =>
    have h0 : vs = [] := by
      cases vs with
      | nil => rfl
      | cons u r =>
        obtain ⟨a', h1, _⟩ := hA 0 u rfl
        cases h1
    subst h0
    have hm0 : m = 0 := by
      rcases Nat.eq_zero_or_pos m with h | h
      · exact h
      · have := Nat.mul_pos h hsz
        simp at hm
        omega
    subst hm0
    have hroom : ∃ A' c', v = .slice A' n c' ∧ n ≤ c' := by
      rcases hown.2 with ⟨rfl, rfl⟩ | ⟨g, cap, cur, rfl, _, _, h, _⟩
      · exact ⟨_, _, rfl, Nat.le_refl _⟩
      · exact ⟨_, _, rfl, h⟩
    obtain ⟨A', c', rfl, hc⟩ := hroom
    refine ⟨A', c', w, ?_, ?_, World.grownBy.refl w _⟩
    · cases A' with
      | none => simp [Builtin.append_, run_underlying ht, sizeOf, typeInfo, hi, Builtin.lenOf, hc, Builtin.firstCells]
      | some a => simp [Builtin.append_, run_underlying ht, sizeOf, typeInfo, hi, Builtin.lenOf, hc, Builtin.firstCells, storeCells]
    · simpa using hown
end
end Go.Proofs.YtfjdcopndkdbmaaGreatDoor
