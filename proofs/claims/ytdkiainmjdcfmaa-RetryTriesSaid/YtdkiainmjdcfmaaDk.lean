/-
  The disk's mathematics, without memory: bytes that are put over others; what a crash keeps of pending writes. No condition.
-/
namespace Go.Proofs.Ytdkiainmjdcfmaa.Dk

/-- s over l, from place k on. -/
def put (l : List UInt8) (k : Nat) (s : List UInt8) : List UInt8 := l.take k ++ (s ++ l.drop (k + s.length))
theorem put_length (l : List UInt8) (k : Nat) (s : List UInt8) (h : k + s.length ≤ l.length) : (put l k s).length = l.length := by
  simp [put]; omega
theorem put_nil (l : List UInt8) (k : Nat) : put l k [] = l := by simp [put]
theorem put_getElem? (l : List UInt8) (k : Nat) (s : List UInt8) (h : k + s.length ≤ l.length) (i : Nat) :
    (put l k s)[i]? = if k ≤ i ∧ i < k + s.length then s[i - k]? else l[i]? := by
  unfold put
  rw [List.getElem?_append, List.length_take, Nat.min_eq_left (by omega)]
  by_cases h1 : i < k
  · rw [if_pos h1, if_neg (by omega), List.getElem?_take, if_pos h1]
  · rw [if_neg h1, List.getElem?_append]
    by_cases h2 : i - k < s.length
    · rw [if_pos h2, if_pos (by omega)]
    · rw [if_neg h2, if_neg (by omega), List.getElem?_drop]
      congr 1
      omega

/-- Writes put one over the other. -/
def puts (l : List UInt8) (ps : List (Nat × ByteArray)) : List UInt8 := ps.foldl (fun l p => put l p.1 p.2.data.toList) l
theorem puts_nil (l : List UInt8) : puts l [] = l := rfl
theorem puts_snoc (l : List UInt8) (ps : List (Nat × ByteArray)) (p : Nat × ByteArray) : puts l (ps ++ [p]) = put (puts l ps) p.1 p.2.data.toList := by
  simp [puts, List.foldl_append]
/-- All writes lie within n bytes. -/
def Within (n : Nat) (ps : List (Nat × ByteArray)) : Prop := ∀ p ∈ ps, p.1 + p.2.size ≤ n
theorem puts_length (l : List UInt8) : ∀ (ps : List (Nat × ByteArray)), Within l.length ps → (puts l ps).length = l.length := by
  intro ps
  induction ps generalizing l with
  | nil => intro _; rfl
  | cons p r ih =>
    intro h
    have h1 : (put l p.1 p.2.data.toList).length = l.length := put_length _ _ _ (by have := h p (by simp); simpa using this)
    show (puts (put l p.1 p.2.data.toList) r).length = _
    rw [ih _ (by rw [h1]; exact fun q hq => h q (by simp [hq])), h1]

/-- How many bytes a crash keeps of one write. -/
def keepN (k : Int) (s : ByteArray) : Nat := (min (max k 0) (s.size : Int)).toNat
theorem keepN_le (k : Int) (s : ByteArray) : keepN k s ≤ s.size := by unfold keepN; omega
def cuts : List (Nat × ByteArray) → Int → List (Nat × ByteArray)
  | [], _ => []
  | p :: r, k => (p.1, p.2.extract 0 (keepN k p.2)) :: cuts r (k - keepN k p.2)
def rest : List (Nat × ByteArray) → Int → Int
  | [], k => k
  | p :: r, k => rest r (k - keepN k p.2)
def lost : List (Nat × ByteArray) → Int → Int
  | [], _ => 0
  | p :: r, k => ((p.2.size : Int) - keepN k p.2) + lost r (k - keepN k p.2)
theorem cuts_snoc (p : Nat × ByteArray) : ∀ (ps : List (Nat × ByteArray)) (k : Int), cuts (ps ++ [p]) k = cuts ps k ++ [(p.1, p.2.extract 0 (keepN (rest ps k) p.2))]
  | [], _ => rfl
  | q :: r, k => by simp [cuts, rest, cuts_snoc p r]
theorem rest_snoc (p : Nat × ByteArray) : ∀ (ps : List (Nat × ByteArray)) (k : Int), rest (ps ++ [p]) k = rest ps k - keepN (rest ps k) p.2
  | [], _ => rfl
  | q :: r, k => by simp [rest, rest_snoc p r]
theorem lost_snoc (p : Nat × ByteArray) : ∀ (ps : List (Nat × ByteArray)) (k : Int), lost (ps ++ [p]) k = lost ps k + ((p.2.size : Int) - keepN (rest ps k) p.2)
  | [], _ => by simp [lost, rest]
  | q :: r, k => by simp only [List.cons_append, lost, rest, lost_snoc p r]; omega
theorem rest_bd : ∀ (ps : List (Nat × ByteArray)) (k : Int), rest ps k ≤ k ∧ (k ≤ 0 → rest ps k = k) ∧ (0 ≤ k → 0 ≤ rest ps k)
  | [], k => by simp [rest]
  | p :: r, k => by
    have h := rest_bd r (k - keepN k p.2)
    have hk : (keepN k p.2 : Int) = min (max k 0) (p.2.size : Int) := by unfold keepN; omega
    simp only [rest]
    refine ⟨by omega, fun h0 => ?_, fun h0 => h.2.2 (by omega)⟩
    rw [h.2.1 (by omega)]
    omega
/-- The bytes of all writes. -/
def bytes (ps : List (Nat × ByteArray)) : Nat := (ps.map fun p => p.2.size).sum
theorem bytes_snoc (ps : List (Nat × ByteArray)) (p : Nat × ByteArray) : bytes (ps ++ [p]) = bytes ps + p.2.size := by simp [bytes]
theorem bytes_le (n : Nat) (ps : List (Nat × ByteArray)) (h : Within n ps) : bytes ps ≤ ps.length * n := by
  induction ps with
  | nil => simp [bytes]
  | cons p r ih =>
    have h1 := ih (fun q hq => h q (by simp [hq]))
    have h2 := h p (by simp)
    simp only [bytes, List.map_cons, List.sum_cons, List.length_cons] at h1 ⊢
    rw [Nat.add_mul]
    omega
theorem lost_bd : ∀ (ps : List (Nat × ByteArray)) (k : Int), 0 ≤ lost ps k ∧ lost ps k ≤ bytes ps
  | [], _ => by simp [lost, bytes]
  | p :: r, k => by
    have h := lost_bd r (k - keepN k p.2)
    have h2 := keepN_le k p.2
    simp only [lost, bytes, List.map_cons, List.sum_cons] at h ⊢
    omega
theorem within_take {n : Nat} {ps : List (Nat × ByteArray)} (h : Within n ps) (k : Nat) : Within n (ps.take k) := fun p hp => h p (List.mem_of_mem_take hp)
theorem within_cuts {n : Nat} : ∀ {ps : List (Nat × ByteArray)} (k : Int), Within n ps → Within n (cuts ps k)
  | [], _, _ => by intro p hp; simp [cuts] at hp
  | q :: r, k, h => by
    intro p hp
    simp only [cuts, List.mem_cons] at hp
    rcases hp with rfl | hp
    · have := h q (by simp)
      have h2 := keepN_le k q.2
      simp
      omega
    · exact within_cuts _ (fun q hq => h q (by simp [hq])) p hp
theorem take_snoc' {α : Type} (l : List α) (k : Nat) (h : k < l.length) : l.take (k + 1) = l.take k ++ [l[k]] := List.take_succ_eq_append_getElem h
theorem bytes_take_le (ps : List (Nat × ByteArray)) (k : Nat) : bytes (ps.take k) ≤ bytes ps := by
  conv => rhs; rw [← List.take_append_drop k ps]
  simp only [bytes, List.map_append, List.sum_append]
  omega
end Go.Proofs.Ytdkiainmjdcfmaa.Dk
