/-
  The mathematics of a log in two halves of a disk's bytes: what appending, a snapshot, formatting and opening make of them, whole or torn. No condition.
-/
import Derived.Test.YtggecdgomgmhmaaDoorHalL
import Derived.Test.YtggecdgomgmhmaaDoorHalK
namespace Go.Proofs.YtggecdgomgmhmaaDoor

def seg (l : List UInt8) (k m : Nat) : List UInt8 := (l.drop k).take m
theorem seg_get (l : List UInt8) (k m i : Nat) : (seg l k m)[i]? = if i < m then l[k + i]? else none := by
  unfold seg
  rw [List.getElem?_take, List.getElem?_drop]
theorem seg_len (l : List UInt8) (k m : Nat) (h : k + m ≤ l.length) : (seg l k m).length = m := by
  unfold seg
  rw [List.length_take, List.length_drop]
  omega
theorem seg_put_in (l R : List UInt8) (st i hf : Nat) (hl : st + hf ≤ l.length) (h : i + R.length ≤ hf) : seg (Dk.put l (st + i) R) st hf = (seg l st hf).take i ++ (R ++ (seg l st hf).drop (i + R.length)) := by
  have hs := seg_len l st hf hl
  apply List.ext_getElem?
  intro j
  rw [seg_get, Dk.put_getElem? _ _ _ (by omega), List.getElem?_append, List.length_take, hs, Nat.min_eq_left (by omega), List.getElem?_take, List.getElem?_append, List.getElem?_drop, seg_get, seg_get]
  by_cases h1 : j < i
  · rw [if_pos h1, if_pos h1, if_pos (by omega), if_neg (by omega), if_pos (by omega)]
  · rw [if_neg h1]
    by_cases h2 : j - i < R.length
    · rw [if_pos h2, if_pos (by omega), if_pos (by omega), show st + j - (st + i) = j - i by omega]
    · rw [if_neg h2]
      by_cases h3 : j < hf
      · rw [if_pos h3, if_neg (by omega), if_pos (by omega)]
        congr 1
        omega
      · rw [if_neg h3, if_neg (by omega)]
theorem seg_put_off (l R : List UInt8) (k ot hf : Nat) (hk : k + R.length ≤ l.length) (h : k + R.length ≤ ot ∨ ot + hf ≤ k) : seg (Dk.put l k R) ot hf = seg l ot hf := by
  apply List.ext_getElem?
  intro j
  rw [seg_get, seg_get, Dk.put_getElem? _ _ _ hk]
  by_cases h3 : j < hf
  · rw [if_pos h3, if_pos h3, if_neg (by omega)]
  · rw [if_neg h3, if_neg h3]
theorem seg_all (l R : List UInt8) (st hf : Nat) (hl : st + hf ≤ l.length) (h : R.length ≤ hf) : seg (Dk.put l st R) st hf = R ++ (seg l st hf).drop R.length := by
  have := seg_put_in l R st 0 hf hl (by omega)
  simpa using this

/-- A log on a disk as it is found behind a crash. -/
structure LO (l : List UInt8) (n hf st ot e : Nat) (s : List UInt8) (ts : List (List UInt8)) (u : Nat) : Prop where
  len : l.length = n
  two : 2 * hf ≤ n
  half : (st = 0 ∧ ot = hf) ∨ (st = hf ∧ ot = 0)
  good : Hv.Good e s ts
  used : u = (Hv.log e s ts).length
  fit : u ≤ hf
  act : ∃ r, seg l st hf = Hv.log e s ts ++ r
  held : Hv.held (seg l st hf) = some (e, s, ts, u)
  oth : ∀ x, Hv.held (seg l ot hf) = some x → x.1 < e
/-- A log on a disk, with bytes 0 behind it. -/
structure LD (l : List UInt8) (n hf st ot e : Nat) (s : List UInt8) (ts : List (List UInt8)) (u : Nat) : Prop where
  len : l.length = n
  two : 2 * hf ≤ n
  half : (st = 0 ∧ ot = hf) ∨ (st = hf ∧ ot = 0)
  good : Hv.Good e s ts
  used : u = (Hv.log e s ts).length
  fit : u ≤ hf
  act : seg l st hf = Hv.log e s ts ++ zb (hf - u)
  oth : ∀ x, Hv.held (seg l ot hf) = some x → x.1 < e
section
variable {l : List UInt8} {n hf st ot e u : Nat} {s t : List UInt8} {ts : List (List UInt8)}
theorem LD.open_ (h : LD l n hf st ot e s ts u) : LO l n hf st ot e s ts u :=
  ⟨h.len, h.two, h.half, h.good, h.used, h.fit, ⟨_, h.act⟩, by rw [h.act, h.used]; exact Hv.held_zeros h.good _, h.oth⟩
theorem bestAt_two (l : List UInt8) (hf : Nat) : newestOf l hf = pickB (pickB none 0 (Hv.held (seg l 0 hf))) hf (Hv.held (seg l hf hf)) := rfl
theorem LO.newest (h : LO l n hf st ot e s ts u) : newestOf l hf = some (st, e, s, ts, u) := by
  have hlow := h.good.low
  rw [bestAt_two]
  have hh := h.held
  have ho := h.oth
  rcases h.half with ⟨rfl, rfl⟩ | ⟨rfl, rfl⟩
  · rw [hh]
    have h1 : pickB none 0 (some (e, s, ts, u)) = some (0, e, s, ts, u) := by
      unfold pickB eOf
      simp only
      rw [if_pos (by omega)]
    rw [h1]
    cases hx : Hv.held (seg l ot ot) with
    | none => rfl
    | some x =>
      have := ho x hx
      unfold pickB eOf
      simp only
      rw [if_neg (by omega)]
  · rw [hh]
    have h2 : eOf (pickB none 0 (Hv.held (seg l 0 st))) < e := by
      cases hx : Hv.held (seg l 0 st) with
      | none => show 0 < e; omega
      | some x =>
        have := ho x hx
        unfold pickB
        simp only
        split
        · exact this
        · show 0 < e; omega
    generalize pickB none 0 (Hv.held (seg l 0 st)) = b at h2
    unfold pickB
    simp only
    rw [if_pos h2]
theorem LO.wipe (h : LO l n hf st ot e s ts u) : LD (Dk.put l (st + u) (zb (hf - u))) n hf st ot e s ts u := by
  have hf' := h.fit
  have hlen := h.len
  have h2 := h.two
  have hh := h.half
  obtain ⟨r, hr⟩ := h.act
  have hu : (Hv.log e s ts).length = u := h.used.symm
  refine ⟨by rw [Dk.put_length _ _ _ (by rw [zb_len]; omega), hlen], h2, hh, h.good, h.used, hf', ?_, ?_⟩
  · rw [seg_put_in _ _ _ _ _ (by omega) (by rw [zb_len]; omega), hr, zb_len]
    have e1 : (Hv.log e s ts ++ r).take u = Hv.log e s ts := by rw [← hu, List.take_left]
    have e2 : (Hv.log e s ts ++ r).drop (u + (hf - u)) = [] := by
      have := seg_len l st hf (by omega)
      rw [hr] at this
      exact List.drop_eq_nil_of_le (by omega)
    rw [e1, e2, List.append_nil]
  · rw [seg_put_off _ _ _ _ _ (by rw [zb_len]; omega) (by rw [zb_len]; omega)]
    exact h.oth

/-- A record's bytes over the bytes behind the log. -/
theorem LD.over (h : LD l n hf st ot e s ts u) (R : List UInt8) (hR : u + R.length ≤ hf) : seg (Dk.put l (st + u) R) st hf = Hv.log e s ts ++ (R ++ zb (hf - u - R.length)) ∧ seg (Dk.put l (st + u) R) ot hf = seg l ot hf ∧ (Dk.put l (st + u) R).length = n := by
  have hlen := h.len
  have h2 := h.two
  have hh := h.half
  have hu : (Hv.log e s ts).length = u := h.used.symm
  refine ⟨?_, seg_put_off _ _ _ _ _ (by omega) (by omega), by rw [Dk.put_length _ _ _ (by omega), hlen]⟩
  rw [seg_put_in _ _ _ _ _ (by omega) hR, h.act]
  have e1 : (Hv.log e s ts ++ zb (hf - u)).take u = Hv.log e s ts := by rw [← hu, List.take_left]
  have e2 : (Hv.log e s ts ++ zb (hf - u)).drop (u + R.length) = zb (hf - u - R.length) := by
    rw [← hu, List.drop_append, List.drop_eq_nil_of_le (by omega), List.nil_append]
    simp [zb]
  rw [e1, e2]
theorem log_more (e : Nat) (s : List UInt8) (ts : List (List UInt8)) (t : List UInt8) (ht : Fr.ok t.length) : (Hv.log e s (ts ++ [t])).length = (Hv.log e s ts).length + (t.length + 8) := by
  rw [Hv.log_snoc, Fr.wrap_ok ht, List.length_append, Fr.rec_length]
theorem good_more (g : Hv.Good e s ts) (ht : Fr.ok t.length) : Hv.Good e s (ts ++ [t]) := ⟨g.low, g.high, g.snap, g.head, fun x hx => by
  rcases List.mem_append.1 hx with h | h
  · exact g.recs x h
  · simp at h; subst h; exact ht⟩
theorem LD.app (h : LD l n hf st ot e s ts u) (ht : Fr.ok t.length) (hr : u + (t.length + 8) ≤ hf) : LD (Dk.put l (st + u) (Fr.rec_ t)) n hf st ot e s (ts ++ [t]) (u + (t.length + 8)) := by
  obtain ⟨h1, h2, h3⟩ := h.over (Fr.rec_ t) (by rw [Fr.rec_length]; exact hr)
  refine ⟨h3, h.two, h.half, good_more h.good ht, by rw [log_more _ _ _ _ ht, h.used], hr, ?_, by rw [h2]; exact h.oth⟩
  rw [h1, Hv.log_snoc, Fr.wrap_ok ht, Fr.rec_length, List.append_assoc, Nat.sub_sub]
theorem LD.torn (h : LD l n hf st ot e s ts u) (ht : Fr.ok t.length) (hr : u + (t.length + 8) ≤ hf) (k : Nat) :
    LO (Dk.put l (st + u) ((Fr.rec_ t).take k)) n hf st ot e s ts u ∨ LO (Dk.put l (st + u) ((Fr.rec_ t).take k)) n hf st ot e s (ts ++ [t]) (u + (t.length + 8)) := by
  have hl : ((Fr.rec_ t).take k).length ≤ t.length + 8 := by rw [List.length_take, Fr.rec_length]; omega
  obtain ⟨h1, h2, h3⟩ := h.over ((Fr.rec_ t).take k) (by omega)
  have ho : ∀ x, Hv.held (seg (Dk.put l (st + u) ((Fr.rec_ t).take k)) ot hf) = some x → x.1 < e := by rw [h2]; exact h.oth
  rcases Hv.held_kept h.good ht k (hf - u - ((Fr.rec_ t).take k).length) with hk | ⟨hk, hk2⟩
  · exact .inl ⟨h3, h.two, h.half, h.good, h.used, h.fit, ⟨_, h1⟩, by rw [h1, h.used]; rw [h.used] at hk; exact hk, ho⟩
  · refine .inr ⟨h3, h.two, h.half, good_more h.good ht, by rw [log_more _ _ _ _ ht, h.used], hr, ⟨zb (hf - u - ((Fr.rec_ t).take k).length), ?_⟩, ?_, ho⟩
    · rw [h1, Hv.log_snoc, Fr.wrap_ok ht, List.take_of_length_le hk, List.append_assoc]
    · rw [h1, log_more _ _ _ _ ht, ← h.used] at *
      exact hk2
theorem next_zb (m : Nat) : Hv.held (zb m) = none := Hv.held_none (Fr.next_zeros m)
theorem log_one (e : Nat) (s : List UInt8) (h : Fr.ok (Hv.head e s).length) : Hv.log e s [] = Fr.rec_ (Hv.head e s) := by
  unfold Hv.log
  rw [Fr.all_cons, Fr.wrap_ok h, Fr.all_nil, List.append_nil]
/-- The other half, begun anew. -/
theorem LD.begun (h : LD l n hf st ot e s ts u) (R : List UInt8) (hR : R.length ≤ hf) : seg (Dk.put (Dk.put l ot (zb hf)) ot R) ot hf = R ++ zb (hf - R.length) ∧ seg (Dk.put (Dk.put l ot (zb hf)) ot R) st hf = seg l st hf ∧ (Dk.put (Dk.put l ot (zb hf)) ot R).length = n := by
  have hlen := h.len
  have h2 := h.two
  have hh := h.half
  have l1 : (Dk.put l ot (zb hf)).length = n := by rw [Dk.put_length _ _ _ (by rw [zb_len]; omega), hlen]
  refine ⟨?_, ?_, by rw [Dk.put_length _ _ _ (by omega), l1]⟩
  · rw [seg_all _ _ _ _ (by omega) hR, seg_all _ _ _ _ (by omega) (by rw [zb_len]; exact Nat.le_refl _), zb_len]
    have : (seg l ot hf).drop hf = [] := List.drop_eq_nil_of_le (by rw [seg_len _ _ _ (by omega)]; exact Nat.le_refl _)
    rw [this, List.append_nil]
    simp [zb]
  · rw [seg_put_off _ _ _ _ _ (by omega) (by omega), seg_put_off _ _ _ _ _ (by rw [zb_len]; omega) (by rw [zb_len]; omega)]
theorem good_head {e : Nat} {s : List UInt8} (h0 : 1 ≤ e) (he : e ≤ 18446744073709551615) (hs : s.length ≤ 32768) (hk : Fr.ok (Hv.head e s).length) : Hv.Good e s [] := ⟨h0, he, hs, hk, fun t ht => by cases ht⟩
theorem LD.snap (h : LD l n hf st ot e s ts u) (he : e + 1 ≤ 18446744073709551615) (hs : t.length ≤ 32768) (hk : Fr.ok (Hv.head (e + 1) t).length) (hR : (Fr.rec_ (Hv.head (e + 1) t)).length ≤ hf) :
    LD (Dk.put (Dk.put l ot (zb hf)) ot (Fr.rec_ (Hv.head (e + 1) t))) n hf ot st (e + 1) t [] (Fr.rec_ (Hv.head (e + 1) t)).length := by
  obtain ⟨h1, h2, h3⟩ := h.begun (Fr.rec_ (Hv.head (e + 1) t)) hR
  have hlow := h.good.low
  refine ⟨h3, h.two, by have := h.half; omega, good_head (by omega) he hs hk, by rw [log_one _ _ hk], hR, by rw [h1, log_one _ _ hk], fun x hx => ?_⟩
  rw [h2, h.open_.held] at hx
  injection hx with hx
  subst hx
  show e < e + 1
  omega
theorem LD.wiped (h : LD l n hf st ot e s ts u) (k : Nat) (hk : k ≤ hf) : LO (Dk.put l ot (zb k)) n hf st ot e s ts u := by
  have hlen := h.len
  have h2 := h.two
  have hh := h.half
  have e1 : seg (Dk.put l ot (zb k)) st hf = seg l st hf := seg_put_off _ _ _ _ _ (by rw [zb_len]; omega) (by rw [zb_len]; omega)
  have e2 : seg (Dk.put l ot (zb k)) ot hf = zb k ++ (seg l ot hf).drop k := by rw [seg_all _ _ _ _ (by omega) (by rw [zb_len]; exact hk), zb_len]
  refine ⟨by rw [Dk.put_length _ _ _ (by rw [zb_len]; omega), hlen], h2, hh, h.good, h.used, h.fit, ⟨_, by rw [e1]; exact h.act⟩, by rw [e1]; exact h.open_.held, ?_⟩
  rw [e2]
  by_cases h0 : k = 0
  · subst h0
    exact h.oth
  · rw [show zb k = List.replicate k 0 from rfl, Hv.held_wiped _ _ (by omega)]
    intro x hx
    cases hx
theorem LD.headed (h : LD l n hf st ot e s ts u) (he : e + 1 ≤ 18446744073709551615) (hs : t.length ≤ 32768) (hk : Fr.ok (Hv.head (e + 1) t).length) (hR : (Fr.rec_ (Hv.head (e + 1) t)).length ≤ hf) (k : Nat) :
    LO (Dk.put (Dk.put l ot (zb hf)) ot ((Fr.rec_ (Hv.head (e + 1) t)).take k)) n hf st ot e s ts u ∨ LO (Dk.put (Dk.put l ot (zb hf)) ot ((Fr.rec_ (Hv.head (e + 1) t)).take k)) n hf ot st (e + 1) t [] (Fr.rec_ (Hv.head (e + 1) t)).length := by
  have hl : ((Fr.rec_ (Hv.head (e + 1) t)).take k).length ≤ hf := by rw [List.length_take]; omega
  obtain ⟨h1, h2, h3⟩ := h.begun ((Fr.rec_ (Hv.head (e + 1) t)).take k) hl
  rcases Nat.lt_or_ge k (Fr.rec_ (Hv.head (e + 1) t)).length with hlt | hge
  · refine .inl ⟨h3, h.two, h.half, h.good, h.used, h.fit, ⟨_, by rw [h2]; exact h.act⟩, by rw [h2]; exact h.open_.held, ?_⟩
    rw [h1, show zb (hf - ((Fr.rec_ (Hv.head (e + 1) t)).take k).length) = List.replicate (hf - ((Fr.rec_ (Hv.head (e + 1) t)).take k).length) 0 from rfl, Hv.held_head _ _ _ _ hk hlt]
    intro x hx
    cases hx
  · rw [List.take_of_length_le hge]
    exact .inr (h.snap he hs hk hR).open_
/-- Formatting, whatever was there. -/
theorem formatted (hlen : l.length = n) (h2 : 2 * hf ≤ n) {e : Nat} (h0 : 1 ≤ e) (he : e ≤ 18446744073709551615) (hs : t.length ≤ 32768) (hk : Fr.ok (Hv.head e t).length) (hR : (Fr.rec_ (Hv.head e t)).length ≤ hf) :
    LD (Dk.put (Dk.put (Dk.put l 0 (zb hf)) 0 (Fr.rec_ (Hv.head e t))) hf (zb hf)) n hf 0 hf e t [] (Fr.rec_ (Hv.head e t)).length := by
  have l1 : (Dk.put l 0 (zb hf)).length = n := by rw [Dk.put_length _ _ _ (by rw [zb_len]; omega), hlen]
  have l2 : (Dk.put (Dk.put l 0 (zb hf)) 0 (Fr.rec_ (Hv.head e t))).length = n := by rw [Dk.put_length _ _ _ (by omega), l1]
  have a1 : seg (Dk.put (Dk.put (Dk.put l 0 (zb hf)) 0 (Fr.rec_ (Hv.head e t))) hf (zb hf)) 0 hf = Fr.rec_ (Hv.head e t) ++ zb (hf - (Fr.rec_ (Hv.head e t)).length) := by
    rw [seg_put_off _ _ _ _ _ (by rw [zb_len]; omega) (by omega), seg_all _ _ _ _ (by omega) hR, seg_all _ _ _ _ (by omega) (by rw [zb_len]; exact Nat.le_refl _), zb_len]
    have : (seg l 0 hf).drop hf = [] := List.drop_eq_nil_of_le (by rw [seg_len _ _ _ (by omega)]; exact Nat.le_refl _)
    rw [this, List.append_nil]
    simp [zb]
  have a2 : seg (Dk.put (Dk.put (Dk.put l 0 (zb hf)) 0 (Fr.rec_ (Hv.head e t))) hf (zb hf)) hf hf = zb hf := by
    rw [seg_all _ _ _ _ (by omega) (by rw [zb_len]; exact Nat.le_refl _), zb_len]
    have : (seg (Dk.put (Dk.put l 0 (zb hf)) 0 (Fr.rec_ (Hv.head e t))) hf hf).drop hf = [] := List.drop_eq_nil_of_le (by rw [seg_len _ _ _ (by omega)]; exact Nat.le_refl _)
    rw [this, List.append_nil]
  refine ⟨by rw [Dk.put_length _ _ _ (by rw [zb_len]; omega), l2], h2, .inl ⟨rfl, rfl⟩, good_head h0 he hs hk, by rw [log_one _ _ hk], hR, by rw [a1, log_one _ _ hk], fun x hx => ?_⟩
  rw [a2, next_zb] at hx
  cases hx
/-- A disk of bytes 0 holds no log. -/
theorem newest_zb (n hf : Nat) : newestOf (zb n) hf = none := by
  have h : ∀ k, ∃ m, seg (zb n) k hf = zb m := fun k => ⟨min hf (n - k), by unfold seg zb; rw [List.drop_replicate, List.take_replicate]⟩
  obtain ⟨m1, h1⟩ := h 0
  obtain ⟨m2, h2⟩ := h hf
  rw [bestAt_two, h1, h2, next_zb, next_zb]
  rfl
end
/-- How long a head is. -/
theorem head_ok {e : Nat} {t : List UInt8} (he : e ≤ 18446744073709551615) (ht : t.length ≤ 1000) : Fr.ok (Hv.head e t).length ∧ (Fr.rec_ (Hv.head e t)).length ≤ t.length + 28 := by
  have h1 := head_len e t he (by omega)
  have h2 : 1 ≤ (Hv.head e t).length := by
    unfold Hv.head
    rw [List.length_append]
    have := Pk.num_pos e
    omega
  refine ⟨⟨h2, by omega⟩, by rw [Fr.rec_length]; omega⟩
theorem hrec_ok {hf e : Nat} {t : List UInt8} (h0 : e ≠ 0) (he : e ≤ 18446744073709551615) (ht : t.length ≤ 1000) (hf' : t.length + 28 ≤ hf) : hrec hf e t = Fr.rec_ (Hv.head e t) := by
  obtain ⟨h1, h2⟩ := head_ok he ht
  rw [hrec_fits h0 (by rw [Fr.wrap_ok h1]; omega), Fr.wrap_ok h1]
end Go.Proofs.YtggecdgomgmhmaaDoor
