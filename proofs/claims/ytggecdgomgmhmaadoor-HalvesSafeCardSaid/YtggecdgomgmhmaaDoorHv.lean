/-
  The mathematics of layer 5: what a half of a disk holds, whole or torn: heads, logs, what is found of them. No condition.
-/
import Derived.Test.YtggecdgomgmhmaaDoorPk
import Derived.Test.YtggecdgomgmhmaaDoorFr
namespace Go.Proofs.YtggecdgomgmhmaaDoor.Hv

def head (e : Nat) (s : List UInt8) : List UInt8 := Pk.num e ++ Pk.text s
def hd (t : List UInt8) : Option (Nat × List UInt8) := match Pk.dec 18446744073709551615 0 0 t with
  | none => none
  | some (e, r) => match Pk.rtext 32768 r with
    | none => none
    | some (s, q) => if q = [] ∧ e ≠ 0 then some (e, s) else none
theorem hd_head (e : Nat) (s : List UInt8) (he : 1 ≤ e) (he' : e ≤ 18446744073709551615) (hs : s.length ≤ 32768) : hd (head e s) = some (e, s) := by
  have h1 := Pk.dec_num 18446744073709551615 e (Pk.text s) (by omega)
  have h2 := Pk.rtext_text 32768 s [] (by omega) (by omega)
  rw [List.append_nil] at h2
  unfold hd head
  rw [h1, if_pos he']
  simp only
  rw [h2]
  show (if ([] : List UInt8) = [] ∧ e ≠ 0 then some (e, s) else none) = some (e, s)
  rw [if_pos ⟨rfl, by omega⟩]
/-- A head has one encoding. -/
theorem head_of_hd {t s : List UInt8} {e : Nat} (h : hd t = some (e, s)) : t = head e s ∧ 1 ≤ e ∧ e ≤ 18446744073709551615 ∧ s.length ≤ 32768 := by
  unfold hd at h
  cases hd' : Pk.dec 18446744073709551615 0 0 t with
  | none => rw [hd'] at h; cases h
  | some p =>
    obtain ⟨v, r⟩ := p
    rw [hd'] at h
    obtain ⟨rfl, hv, _⟩ := Pk.dec_some hd'
    simp only at h
    cases hr : Pk.rtext 32768 r with
    | none => rw [hr] at h; cases h
    | some p2 =>
      obtain ⟨x, q⟩ := p2
      rw [hr] at h
      obtain ⟨rfl, hx, _⟩ := Pk.rtext_some hr
      simp only at h
      by_cases hc : q = [] ∧ v ≠ 0
      · rw [if_pos hc] at h
        injection h with h
        injection h with h1 h2
        subst h1; subst h2
        obtain ⟨rfl, h0⟩ := hc
        refine ⟨by rw [List.append_nil]; rfl, by omega, hv, by omega⟩
      · rw [if_neg hc] at h; cases h

/-- What a half holds: its epoch, its snapshot, its records, where it ends. -/
def held (h : List UInt8) : Option (Nat × List UInt8 × List (List UInt8) × Nat) := match Fr.scan h with
  | ([], _) => none
  | (t :: ts, n) => match hd t with
    | none => none
    | some (e, s) => some (e, s, ts, n)
theorem held_none {h : List UInt8} (hn : Fr.next h = none) : held h = none := by
  unfold held
  rw [Fr.scan_none hn]
/-- A log's bytes. -/
def log (e : Nat) (s : List UInt8) (ts : List (List UInt8)) : List UInt8 := Fr.all (head e s :: ts)
theorem log_snoc (e : Nat) (s : List UInt8) (ts : List (List UInt8)) (t : List UInt8) : log e s (ts ++ [t]) = log e s ts ++ Fr.wrap t := by
  unfold log
  rw [← List.cons_append, Fr.all_snoc]
structure Good (e : Nat) (s : List UInt8) (ts : List (List UInt8)) : Prop where
  low : 1 ≤ e
  high : e ≤ 18446744073709551615
  snap : s.length ≤ 32768
  head : Fr.ok (head e s).length
  recs : ∀ t ∈ ts, Fr.ok t.length
section
variable {e : Nat} {s : List UInt8} {ts : List (List UInt8)} {t : List UInt8}
theorem held_log (g : Good e s ts) (r : List UInt8) (hr : Fr.next r = none) : held (log e s ts ++ r) = some (e, s, ts, (log e s ts).length) := by
  unfold held log
  rw [Fr.scan_back (Hv.head e s :: ts) r (fun t ht => by
    rcases List.mem_cons.1 ht with rfl | ht
    · exact g.head
    · exact g.recs t ht) hr]
  simp only
  rw [hd_head e s g.low g.high g.snap]
/-- Behind it nothing but bytes 0. -/
theorem held_zeros (g : Good e s ts) (m : Nat) : held (log e s ts ++ List.replicate m 0) = some (e, s, ts, (log e s ts).length) := held_log g _ (Fr.next_zeros m)
/-- A torn record behind it. -/
theorem held_torn (g : Good e s ts) (ht : Fr.ok t.length) (k m : Nat) (hk : k < (Fr.rec_ t).length) : held (log e s ts ++ ((Fr.rec_ t).take k ++ List.replicate m 0)) = some (e, s, ts, (log e s ts).length) :=
  held_log g _ (Fr.next_torn t k m ht hk)
/-- A whole record behind it. -/
theorem held_whole (g : Good e s ts) (ht : Fr.ok t.length) (m : Nat) : held (log e s ts ++ (Fr.rec_ t ++ List.replicate m 0)) = some (e, s, ts ++ [t], (log e s (ts ++ [t])).length) := by
  have g' : Good e s (ts ++ [t]) := ⟨g.low, g.high, g.snap, g.head, fun u hu => by
    rcases List.mem_append.1 hu with h | h
    · exact g.recs u h
    · simp at h; subst h; exact ht⟩
  have := held_zeros g' m
  rw [log_snoc, Fr.wrap_ok ht, List.append_assoc] at this
  rw [log_snoc, Fr.wrap_ok ht]
  exact this
/-- Whatever is kept of a record that was under way: all ahead of it, and it, or not. -/
theorem held_kept (g : Good e s ts) (ht : Fr.ok t.length) (k m : Nat) : held (log e s ts ++ ((Fr.rec_ t).take k ++ List.replicate m 0)) = some (e, s, ts, (log e s ts).length) ∨
    ((Fr.rec_ t).length ≤ k ∧ held (log e s ts ++ ((Fr.rec_ t).take k ++ List.replicate m 0)) = some (e, s, ts ++ [t], (log e s (ts ++ [t])).length)) := by
  rcases Nat.lt_or_ge k (Fr.rec_ t).length with h | h
  · exact .inl (held_torn g ht k m h)
  · refine .inr ⟨h, ?_⟩
    rw [List.take_of_length_le h]
    exact held_whole g ht m
end
/-- A half that is being overwritten by bytes 0, one at least, is no log's. -/
theorem held_wiped (h : List UInt8) (k : Nat) (hk : 1 ≤ k) : held (List.replicate k 0 ++ h.drop k) = none := by
  obtain ⟨j, rfl⟩ : ∃ j, k = j + 1 := ⟨k - 1, by omega⟩
  rw [List.replicate_succ, List.cons_append]
  exact held_none (Fr.next_head 0 _ (by decide))
/-- A head that is being written on bytes 0 is none, or whole. -/
theorem held_head (e : Nat) (s : List UInt8) (k m : Nat) (h : Fr.ok (head e s).length) (hk : k < (Fr.rec_ (head e s)).length) : held ((Fr.rec_ (head e s)).take k ++ List.replicate m 0) = none :=
  held_none (Fr.next_torn _ k m h hk)
end Go.Proofs.YtggecdgomgmhmaaDoor.Hv
