/-
  The mathematics of layer 8: bits of bytes and of digits, base 32 both ways, codes, cleaned texts, texts in groups. No condition.
  The mathematics of layer 8, second part: bits that are collected, and put out in groups as soon as they are whole; what a register of 64 bits then holds. No condition.
-/


namespace Go.Proofs.YtfjdcopndkdbmaaGreatDoor.Tk

/-- So many bits of a number, the highest first. -/
def bitsN : Nat → Nat → List Bool
  | 0, _ => []
  | k + 1, n => n.testBit k :: bitsN k n
/-- The number of bits. -/
def num (l : List Bool) : Nat := l.foldl (fun a b => 2 * a + b.toNat) 0
theorem bitsN_length (k n : Nat) : (bitsN k n).length = k := by
  induction k with
  | zero => rfl
  | succ k ih => simp [bitsN, ih]
theorem fold_num (l : List Bool) (a : Nat) : l.foldl (fun a b => 2 * a + b.toNat) a = a * 2 ^ l.length + num l := by
  induction l generalizing a with
  | nil => simp [num]
  | cons b l ih =>
    rw [List.foldl_cons, ih, List.length_cons, Nat.pow_succ]
    have h : num (b :: l) = b.toNat * 2 ^ l.length + num l := by
      unfold num
      rw [List.foldl_cons, ih]
      simp [num]
    rw [h, Nat.add_mul, Nat.mul_comm (2 ^ l.length) 2, ← Nat.mul_assoc, Nat.mul_comm a 2]
    omega
theorem num_append (l m : List Bool) : num (l ++ m) = num l * 2 ^ m.length + num m := by
  show (l ++ m).foldl _ 0 = _
  rw [List.foldl_append, fold_num]
  rfl
theorem num_cons (b : Bool) (l : List Bool) : num (b :: l) = b.toNat * 2 ^ l.length + num l := by
  have := num_append [b] l
  simpa [num] using this
theorem num_lt (l : List Bool) : num l < 2 ^ l.length := by
  induction l with
  | nil => simp [num]
  | cons b l ih =>
    rw [num_cons, List.length_cons, Nat.pow_succ]
    have : b.toNat ≤ 1 := by cases b <;> decide
    have h2 : b.toNat * 2 ^ l.length ≤ 1 * 2 ^ l.length := Nat.mul_le_mul_right _ this
    omega
theorem num_bitsN (k n : Nat) : num (bitsN k n) = n % 2 ^ k := by
  induction k with
  | zero => simp [bitsN, num, Nat.mod_one]
  | succ k ih =>
    rw [bitsN, num_cons, ih, bitsN_length, Nat.pow_succ, Nat.mod_mul, Nat.testBit_eq_decide_div_mod_eq]
    have h := Nat.mod_two_eq_zero_or_one (n / 2 ^ k)
    rcases h with h | h
    · rw [h]; simp
    · rw [h]; simp; omega
theorem bits_eq {l m : List Bool} (h : l.length = m.length) (e : num l = num m) : l = m := by
  induction l generalizing m with
  | nil => cases m with
    | nil => rfl
    | cons _ _ => simp at h
  | cons b l ih => cases m with
    | nil => simp at h
    | cons c m =>
      have hl : l.length = m.length := by simpa using h
      rw [num_cons, num_cons, hl] at e
      have h1 := num_lt l
      have h2 := num_lt m
      rw [hl] at h1
      have hb : b = c := by
        cases b <;> cases c <;> simp at e ⊢ <;> omega
      subst hb
      rw [ih hl (by omega)]
theorem bitsN_num (l : List Bool) : bitsN l.length (num l) = l :=
  bits_eq (bitsN_length _ _) (by rw [num_bitsN, Nat.mod_eq_of_lt (num_lt l)])
theorem num_zeros (k : Nat) : num (List.replicate k false) = 0 := by
  induction k with
  | zero => rfl
  | succ k ih => rw [List.replicate_succ, num_cons, ih]; simp
theorem zeros_num (l : List Bool) (h : num l = 0) : l = List.replicate l.length false :=
  bits_eq (by simp) (by rw [h, num_zeros])

/-- A text's bits. -/
def bits (s : List UInt8) : List Bool := s.flatMap fun b => bitsN 8 b.toNat
theorem bits_length (s : List UInt8) : (bits s).length = 8 * s.length := by
  induction s with
  | nil => rfl
  | cons b s ih =>
    have : (bits (b :: s)).length = (bitsN 8 b.toNat).length + (bits s).length := by simp [bits]
    rw [this, ih, bitsN_length, List.length_cons]
    omega
theorem bits_append (s t : List UInt8) : bits (s ++ t) = bits s ++ bits t := by simp [bits]
/-- A digit, of 0 to 31. -/
def dig (n : Nat) : UInt8 := if n < 26 then UInt8.ofNat (97 + n) else UInt8.ofNat (24 + n)
/-- Whether a byte is a digit, and which number it is. -/
def isDig (c : UInt8) : Bool := (97 ≤ c.toNat && c.toNat ≤ 122) || (50 ≤ c.toNat && c.toNat ≤ 55)
def val (c : UInt8) : Nat := if 97 ≤ c.toNat then c.toNat - 97 else c.toNat - 24
theorem val_dig (n : Nat) (h : n < 32) : val (dig n) = n ∧ isDig (dig n) = true := by
  have : ∀ n, n < 32 → val (dig n) = n ∧ isDig (dig n) = true := by decide
  exact this n h
theorem dig_val (c : UInt8) (h : isDig c = true) : dig (val c) = c ∧ val c < 32 := by
  unfold isDig at h
  simp only [Bool.or_eq_true, Bool.and_eq_true, decide_eq_true_eq] at h
  have hc := c.toNat_lt
  rcases h with h | h
  · have hv : val c = c.toNat - 97 := by unfold val; rw [if_pos h.1]
    rw [hv]
    refine ⟨?_, by omega⟩
    unfold dig
    rw [if_pos (by omega)]
    apply UInt8.toNat_inj.1
    rw [UInt8.toNat_ofNat']
    omega
  · have hv : val c = c.toNat - 24 := by unfold val; rw [if_neg (by omega)]
    rw [hv]
    refine ⟨?_, by omega⟩
    unfold dig
    rw [if_neg (by omega)]
    apply UInt8.toNat_inj.1
    rw [UInt8.toNat_ofNat']
    omega
/-- The i-th digit's number: five bits, bits 0 behind the last. -/
def at5 (l : List Bool) (i : Nat) : Nat := num ((l.drop (5 * i)).take 5 ++ List.replicate (5 - ((l.drop (5 * i)).take 5).length) false)
theorem at5_lt (l : List Bool) (i : Nat) : at5 l i < 32 := by
  have := num_lt ((l.drop (5 * i)).take 5 ++ List.replicate (5 - ((l.drop (5 * i)).take 5).length) false)
  have h : ((l.drop (5 * i)).take 5 ++ List.replicate (5 - ((l.drop (5 * i)).take 5).length) false).length = 5 := by simp; omega
  rw [h] at this
  exact this
/-- ENCODE. -/
def enc (s : List UInt8) : List UInt8 := (List.range ((8 * s.length + 4) / 5)).map fun i => dig (at5 (bits s) i)
theorem enc_length (s : List UInt8) : (enc s).length = (8 * s.length + 4) / 5 := by simp [enc]
/-- The bits that digits tell. -/
def dbits (d : List UInt8) : List Bool := d.flatMap fun c => bitsN 5 (val c)
theorem dbits_length (d : List UInt8) : (dbits d).length = 5 * d.length := by
  induction d with
  | nil => rfl
  | cons b s ih =>
    have : (dbits (b :: s)).length = (bitsN 5 (val b)).length + (dbits s).length := by simp [dbits]
    rw [this, ih, bitsN_length, List.length_cons]
    omega
theorem dbits_append (s t : List UInt8) : dbits (s ++ t) = dbits s ++ dbits t := by simp [dbits]
def valid (d : List UInt8) : Bool := d.all isDig
/-- The bytes that bits tell. -/
def byteAt (l : List Bool) (i : Nat) : UInt8 := UInt8.ofNat (num ((l.drop (8 * i)).take 8))
def bytes (l : List Bool) : List UInt8 := (List.range (l.length / 8)).map (byteAt l)
theorem bytes_length (l : List Bool) : (bytes l).length = l.length / 8 := by simp [bytes]
theorem bytes_succ (l : List Bool) (k : Nat) : (List.range (k + 1)).map (byteAt l) = (List.range k).map (byteAt l) ++ [byteAt l k] := by
  rw [List.range_succ, List.map_append, List.map_cons, List.map_nil]
theorem bits_bytes_at (l : List Bool) (k : Nat) (h : 8 * k ≤ l.length) : bits ((List.range k).map (byteAt l)) = l.take (8 * k) := by
  induction k with
  | zero => rfl
  | succ k ih =>
    rw [bytes_succ, bits_append, ih (by omega)]
    have h8 : ((l.drop (8 * k)).take 8).length = 8 := by simp; omega
    have e : bits [byteAt l k] = (l.drop (8 * k)).take 8 := by
      have h1 : bits [byteAt l k] = bitsN 8 (byteAt l k).toNat := by simp [bits]
      rw [h1]
      unfold byteAt
      rw [UInt8.toNat_ofNat']
      have := num_lt ((l.drop (8 * k)).take 8)
      rw [h8] at this
      rw [Nat.mod_eq_of_lt (by omega)]
      have := bitsN_num ((l.drop (8 * k)).take 8)
      rw [h8] at this
      exact this
    rw [e, ← List.take_add]
    congr 1
theorem bits_bytes (l : List Bool) : bits (bytes l) = l.take (8 * (l.length / 8)) := bits_bytes_at l _ (by omega)
theorem bits_inj {s t : List UInt8} (h : bits s = bits t) : s = t := by
  induction s generalizing t with
  | nil =>
    cases t with
    | nil => rfl
    | cons c t => have := congrArg List.length h; rw [bits_length, bits_length] at this; simp at this
  | cons b s ih =>
    cases t with
    | nil => have := congrArg List.length h; rw [bits_length, bits_length] at this; simp at this
    | cons c t =>
      have e1 : bits (b :: s) = bitsN 8 b.toNat ++ bits s := by simp [bits]
      have e2 : bits (c :: t) = bitsN 8 c.toNat ++ bits t := by simp [bits]
      rw [e1, e2] at h
      have h2 := List.append_inj h (by rw [bitsN_length, bitsN_length])
      have h3 := congrArg num h2.1
      rw [num_bitsN, num_bitsN, Nat.mod_eq_of_lt b.toNat_lt, Nat.mod_eq_of_lt c.toNat_lt] at h3
      rw [UInt8.toNat_inj.1 h3, ih h2.2]
theorem bytes_of (s : List UInt8) (r : List Bool) (h : r.length < 8) : bytes (bits s ++ r) = s := by
  apply bits_inj
  rw [bits_bytes]
  have hl := bits_length s
  have : (bits s ++ r).length / 8 = s.length := by rw [List.length_append, hl]; omega
  rw [this, List.take_append_of_le_length (by omega), List.take_of_length_le (by omega)]
theorem at5_full (l : List Bool) (i : Nat) (h : 5 * i + 5 ≤ l.length) : bitsN 5 (at5 l i) = (l.drop (5 * i)).take 5 := by
  have h5 : ((l.drop (5 * i)).take 5).length = 5 := by simp; omega
  unfold at5
  rw [h5, Nat.sub_self, List.replicate_zero, List.append_nil]
  have := bitsN_num ((l.drop (5 * i)).take 5)
  rw [h5] at this
  exact this
theorem at5_bits (l : List Bool) (i : Nat) : bitsN 5 (at5 l i) = (l.drop (5 * i)).take 5 ++ List.replicate (5 - ((l.drop (5 * i)).take 5).length) false := by
  have h5 : ((l.drop (5 * i)).take 5 ++ List.replicate (5 - ((l.drop (5 * i)).take 5).length) false).length = 5 := by simp; omega
  have := bitsN_num ((l.drop (5 * i)).take 5 ++ List.replicate (5 - ((l.drop (5 * i)).take 5).length) false)
  rw [h5] at this
  exact this
/-- The bits of so many digits of a text. -/
theorem dbits_enc_at (l : List Bool) (k : Nat) : dbits ((List.range k).map fun i => dig (at5 l i)) = l.take (5 * k) ++ List.replicate (5 * k - l.length) false := by
  induction k with
  | zero => simp [dbits]
  | succ k ih =>
    rw [List.range_succ, List.map_append, dbits_append, ih]
    have e : dbits [dig (at5 l k)] = (l.drop (5 * k)).take 5 ++ List.replicate (5 - ((l.drop (5 * k)).take 5).length) false := by
      have h1 : dbits [dig (at5 l k)] = bitsN 5 (val (dig (at5 l k))) := by simp [dbits]
      rw [h1, (val_dig _ (at5_lt l k)).1, at5_bits]
    rw [List.map_cons, List.map_nil, e]
    by_cases h : 5 * k ≤ l.length
    · rw [show 5 * k - l.length = 0 by omega, List.replicate_zero, List.append_nil, ← List.append_assoc, ← List.take_add]
      congr 2
      simp
      omega
    · rw [List.drop_eq_nil_of_le (by omega), List.take_nil, List.nil_append, List.length_nil, List.append_assoc, List.replicate_append_replicate, List.take_of_length_le (by omega), List.take_of_length_le (by omega)]
      congr 2
      omega
theorem dbits_enc (s : List UInt8) : dbits (enc s) = bits s ++ List.replicate (5 * ((8 * s.length + 4) / 5) - 8 * s.length) false := by
  have := dbits_enc_at (bits s) ((8 * s.length + 4) / 5)
  rw [bits_length, List.take_of_length_le (by rw [bits_length]; omega)] at this
  exact this
theorem valid_enc (s : List UInt8) : valid (enc s) = true := by
  unfold valid enc
  rw [List.all_eq_true]
  intro c hc
  obtain ⟨i, -, rfl⟩ := List.mem_map.1 hc
  exact (val_dig _ (at5_lt _ _)).2
theorem bytes_enc (s : List UInt8) : bytes (dbits (enc s)) = s := by
  rw [dbits_enc]
  exact bytes_of s _ (by simp; omega)
theorem enc_inj {s t : List UInt8} (h : enc s = enc t) : s = t := by rw [← bytes_enc s, h, bytes_enc]
theorem dbits_inj {d e : List UInt8} (hd : valid d = true) (he : valid e = true) (h : dbits d = dbits e) : d = e := by
  induction d generalizing e with
  | nil =>
    cases e with
    | nil => rfl
    | cons c t => have := congrArg List.length h; rw [dbits_length, dbits_length] at this; simp at this
  | cons b s ih =>
    cases e with
    | nil => have := congrArg List.length h; rw [dbits_length, dbits_length] at this; simp at this
    | cons c t =>
      have e1 : dbits (b :: s) = bitsN 5 (val b) ++ dbits s := by simp [dbits]
      have e2 : dbits (c :: t) = bitsN 5 (val c) ++ dbits t := by simp [dbits]
      rw [e1, e2] at h
      have h2 := List.append_inj h (by rw [bitsN_length, bitsN_length])
      have h3 := congrArg num h2.1
      simp only [valid, List.all_cons, Bool.and_eq_true] at hd he
      have hb := dig_val b hd.1
      have hc := dig_val c he.1
      rw [num_bitsN, num_bitsN, Nat.mod_eq_of_lt hb.2, Nat.mod_eq_of_lt hc.2] at h3
      rw [← hb.1, ← hc.1, h3, ih hd.2 he.2 h2.2]
/-- DECODE: the text whose digits these are, if there is one. -/
def dec (d : List UInt8) : Option (List UInt8) := if valid d = true ∧ enc (bytes (dbits d)) = d then some (bytes (dbits d)) else none
theorem dec_enc (s : List UInt8) : dec (enc s) = some s := by
  unfold dec
  rw [bytes_enc, if_pos ⟨valid_enc s, rfl⟩]
theorem dec_some {d s : List UInt8} : dec d = some s ↔ enc s = d := by
  constructor
  · intro h
    unfold dec at h
    split at h
    · rename_i h1
      rw [← Option.some.inj h]
      exact h1.2
    · cases h
  · rintro rfl
    exact dec_enc s
theorem dec_none {d : List UInt8} (h : ¬ (valid d = true ∧ enc (bytes (dbits d)) = d)) : dec d = none := by unfold dec; rw [if_neg h]
/-- .. told by what is left behind the last byte: fewer than five bits, all 0. -/
theorem dec_left (d : List UInt8) (hv : valid d = true) : enc (bytes (dbits d)) = d ↔ (5 * d.length % 8 < 5 ∧ num ((dbits d).drop (8 * (5 * d.length / 8))) = 0) := by
  have hl := dbits_length d
  have hbl : (bytes (dbits d)).length = 5 * d.length / 8 := by rw [bytes_length, hl]
  have hbb := bits_bytes (dbits d)
  rw [hl] at hbb
  constructor
  · intro h
    have h1 := congrArg List.length h
    rw [enc_length, hbl] at h1
    have hlt : 5 * d.length % 8 < 5 := by omega
    refine ⟨hlt, ?_⟩
    have h2 := dbits_enc (bytes (dbits d))
    rw [h, hbb, hbl] at h2
    have h3 : (dbits d).drop (8 * (5 * d.length / 8)) = List.replicate (5 * ((8 * (5 * d.length / 8) + 4) / 5) - 8 * (5 * d.length / 8)) false := by
      have h4 := congrArg (List.drop (8 * (5 * d.length / 8))) h2
      rw [List.drop_append_of_le_length (by simp; omega), List.drop_take, Nat.sub_self, List.take_zero, List.nil_append] at h4
      exact h4
    rw [h3, num_zeros]
  · rintro ⟨h1, h2⟩
    apply dbits_inj (valid_enc _) hv
    rw [dbits_enc, hbb, hbl]
    have h3 := zeros_num _ h2
    have h4 : 5 * ((8 * (5 * d.length / 8) + 4) / 5) - 8 * (5 * d.length / 8) = ((dbits d).drop (8 * (5 * d.length / 8))).length := by
      rw [List.length_drop, hl]
      omega
    rw [h4, ← h3, List.take_append_drop]

/-! ### Codes -/
/-- A code's digit, and a code. -/
def cd (n i : Nat) : UInt8 := UInt8.ofNat (48 + n / 10 ^ (5 - i) % 10)
def code (n : Nat) : List UInt8 := [cd n 0, cd n 1, cd n 2, cd n 3, cd n 4, cd n 5]
theorem cd_nat (n i : Nat) : (cd n i).toNat = 48 + n / 10 ^ (5 - i) % 10 := by
  unfold cd
  rw [UInt8.toNat_ofNat']
  omega
/-- What so many of a code's digits tell. -/
def told (l : List UInt8) : Nat := l.foldl (fun a c => 10 * a + (c.toNat - 48)) 0
theorem told_snoc (l : List UInt8) (c : UInt8) : told (l ++ [c]) = 10 * told l + (c.toNat - 48) := by simp [told]
theorem told_code (n : Nat) (h : n < 1000000) : told (code n) = n := by
  simp only [told, code, List.foldl_cons, List.foldl_nil, cd_nat]
  simp only [show (5 - 0 : Nat) = 5 from rfl, show (5 - 1 : Nat) = 4 from rfl, show (5 - 2 : Nat) = 3 from rfl, show (5 - 3 : Nat) = 2 from rfl, show (5 - 4 : Nat) = 1 from rfl, show (5 - 5 : Nat) = 0 from rfl]
  simp only [show (10 : Nat) ^ 5 = 100000 from rfl, show (10 : Nat) ^ 4 = 10000 from rfl, show (10 : Nat) ^ 3 = 1000 from rfl, show (10 : Nat) ^ 2 = 100 from rfl, show (10 : Nat) ^ 1 = 10 from rfl, show (10 : Nat) ^ 0 = 1 from rfl]
  omega
theorem code_inj {a b : Nat} (ha : a < 1000000) (hb : b < 1000000) : code a = code b ↔ a = b := by
  constructor
  · intro h
    rw [← told_code a ha, h, told_code b hb]
  · rintro rfl
    rfl
/-- Whether a text is a code. -/
def num10 (c : UInt8) : Bool := 48 ≤ c.toNat && c.toNat ≤ 57
def isCode (s : List UInt8) : Bool := s.all num10 && s.length == 6
theorem isCode_code (n : Nat) : isCode (code n) = true := by
  have h : ∀ i, num10 (cd n i) = true := fun i => by
    unfold num10
    rw [cd_nat]
    simp only [Bool.and_eq_true, decide_eq_true_eq]
    omega
  simp [isCode, code, h]
theorem code_length (n : Nat) : (code n).length = 6 := rfl

/-! ### Cleaned texts -/
def lower (c : UInt8) : UInt8 := if 65 ≤ c.toNat ∧ c.toNat ≤ 90 then c + 32 else c
def keep (c : UInt8) : Bool := c != 32 && c != 9 && c != 45
def clean (s : List UInt8) : List UInt8 := (s.map lower).filter keep
theorem clean_append (s t : List UInt8) : clean (s ++ t) = clean s ++ clean t := by simp [clean]
theorem clean_one (c : UInt8) : clean [c] = if keep (lower c) = true then [lower c] else [] := by
  by_cases h : keep (lower c) = true <;> simp [clean, h]
theorem clean_length (s : List UInt8) : (clean s).length ≤ s.length := by
  unfold clean
  exact Nat.le_trans (List.length_filter_le _ _) (by simp)
theorem lower_twice (c : UInt8) : lower (lower c) = lower c := by
  have : ∀ n, n < 256 → lower (lower (UInt8.ofNat n)) = lower (UInt8.ofNat n) := by decide +kernel
  have h := this c.toNat c.toNat_lt
  rwa [UInt8.ofNat_toNat] at h
theorem clean_twice (s : List UInt8) : clean (clean s) = clean s := by
  induction s with
  | nil => rfl
  | cons c s ih =>
    have e : clean (c :: s) = clean [c] ++ clean s := clean_append [c] s
    rw [e, clean_append, ih, clean_one]
    by_cases h : keep (lower c) = true
    · rw [if_pos h, clean_one, lower_twice, if_pos h]
    · rw [if_neg h]
      rfl
/-- What is cleaned to itself, byte by byte. -/
def still (c : UInt8) : Prop := lower c = c ∧ keep c = true
theorem still_dig (n : Nat) (h : n < 32) : still (dig n) := by
  have : ∀ n, n < 32 → lower (dig n) = dig n ∧ keep (dig n) = true := by decide
  exact this n h
theorem clean_still (s : List UInt8) (h : ∀ c ∈ s, still c) : clean s = s := by
  induction s with
  | nil => rfl
  | cons c s ih =>
    have e : clean (c :: s) = clean [c] ++ clean s := clean_append [c] s
    have hc := h c (by simp)
    rw [e, ih (fun x hx => h x (by simp [hx])), clean_one, hc.1, if_pos hc.2]
    rfl
theorem still_enc (s : List UInt8) : ∀ c ∈ enc s, still c := by
  intro c hc
  obtain ⟨i, -, rfl⟩ := List.mem_map.1 hc
  exact still_dig _ (at5_lt _ _)

/-! ### Groups -/
/-- The i-th byte of a text in groups. -/
def gat (l : List UInt8) (n i : Nat) : UInt8 := if i % (n + 1) = n then 45 else l.getD (i - i / (n + 1)) 0
def grpTo (l : List UInt8) (n m : Nat) : List UInt8 := (List.range m).map (gat l n)
/-- How long the first so many bytes are, in groups. -/
def glen (n k : Nat) : Nat := if k = 0 then 0 else k + (k - 1) / n
/-- A TEXT IN GROUPS. -/
def grp (l : List UInt8) (n : Nat) : List UInt8 := grpTo l n (glen n l.length)
theorem grpTo_length (l : List UInt8) (n m : Nat) : (grpTo l n m).length = m := by simp [grpTo]
theorem grpTo_succ (l : List UInt8) (n m : Nat) : grpTo l n (m + 1) = grpTo l n m ++ [gat l n m] := by
  unfold grpTo
  rw [List.range_succ, List.map_append, List.map_cons, List.map_nil]
theorem gat_place (l : List UInt8) (n k : Nat) (hn : 1 ≤ n) : gat l n (k + k / n) = l.getD k 0 := by
  have h1 : k = n * (k / n) + k % n := (Nat.div_add_mod k n).symm
  have h2 : k % n < n := Nat.mod_lt _ hn
  have e : k + k / n = k % n + (n + 1) * (k / n) := by rw [Nat.add_mul, Nat.one_mul]; omega
  unfold gat
  rw [e, Nat.add_mul_mod_self_left, Nat.mod_eq_of_lt (by omega), if_neg (by omega), Nat.add_mul_div_left _ _ (by omega), Nat.div_eq_of_lt (by omega : k % n < n + 1), Nat.zero_add]
  congr 1
  rw [Nat.add_mul, Nat.one_mul]
  omega
theorem div_pred (n k : Nat) (hn : 1 ≤ n) (hk : 1 ≤ k) : (k - 1) / n + (if k % n = 0 then 1 else 0) = k / n := by
  have h1 : k = n * (k / n) + k % n := (Nat.div_add_mod k n).symm
  have h2 : k % n < n := Nat.mod_lt _ hn
  by_cases h : k % n = 0
  · rw [if_pos h]
    have hq : 1 ≤ k / n := by
      rcases Nat.eq_zero_or_pos (k / n) with h0 | h0
      · rw [h0, Nat.mul_zero] at h1; omega
      · exact h0
    obtain ⟨q, hq⟩ : ∃ q, k / n = q + 1 := ⟨k / n - 1, by generalize k / n = z at hq ⊢; omega⟩
    have e : k - 1 = (n - 1) + n * q := by rw [hq, Nat.mul_add, Nat.mul_one] at h1; omega
    rw [e, Nat.add_mul_div_left _ _ (by omega), Nat.div_eq_of_lt (by omega), hq]
    omega
  · rw [if_neg h]
    have e : k - 1 = (k % n - 1) + n * (k / n) := by omega
    rw [e, Nat.add_mul_div_left _ _ (by omega), Nat.div_eq_of_lt (by omega)]
    omega
/-- Ahead of a byte that begins a group, but the first, there stands a dash. -/
theorem gat_dash (l : List UInt8) (n k : Nat) (hn : 1 ≤ n) (hk : 1 ≤ k) (h : k % n = 0) : gat l n (k + (k - 1) / n) = 45 := by
  have hd := div_pred n k hn hk
  rw [if_pos h] at hd
  have h1 : k = n * (k / n) + k % n := (Nat.div_add_mod k n).symm
  obtain ⟨q, hq2⟩ : ∃ q, (k - 1) / n = q := ⟨_, rfl⟩
  have hq : k / n = q + 1 := by rw [← hd, hq2]
  rw [h, hq, Nat.mul_add, Nat.mul_one] at h1
  have e : k + (k - 1) / n = n + (n + 1) * q := by rw [hq2, Nat.add_mul, Nat.one_mul]; omega
  unfold gat
  rw [e, Nat.add_mul_mod_self_left, Nat.mod_eq_of_lt (by omega), if_pos rfl]
theorem glen_succ (n k : Nat) : glen n (k + 1) = k + k / n + 1 := by
  unfold glen
  rw [if_neg (by omega), Nat.add_sub_cancel]
  omega
/-- One byte more, in groups. -/
theorem grp_step (l : List UInt8) (n k : Nat) (hn : 1 ≤ n) (hk : k < l.length) : grpTo l n (glen n (k + 1)) = grpTo l n (glen n k) ++ (if k ≠ 0 ∧ k % n = 0 then [45] else []) ++ [l.getD k 0] := by
  rw [glen_succ, grpTo_succ, gat_place l n k hn]
  congr 1
  by_cases h0 : k = 0
  · subst h0
    rw [if_neg (by omega), List.append_nil]
    simp [glen]
  · have hd := div_pred n k hn (by omega)
    have hg : glen n k = k + (k - 1) / n := by unfold glen; rw [if_neg h0]
    by_cases h : k % n = 0
    · rw [if_pos ⟨h0, h⟩, hg, ← gat_dash l n k hn (by omega) h, ← grpTo_succ]
      congr 1
      rw [if_pos h] at hd
      omega
    · rw [if_neg (fun hh => h hh.2), List.append_nil, hg]
      congr 1
      rw [if_neg h] at hd
      omega
theorem clean_grp (l : List UInt8) (n : Nat) (hn : 1 ≤ n) (hs : ∀ c ∈ l, still c) (k : Nat) (hk : k ≤ l.length) : clean (grpTo l n (glen n k)) = l.take k := by
  induction k with
  | zero => rfl
  | succ k ih =>
    have hlt : k < l.length := by omega
    have hg : l.getD k 0 = l[k] := by rw [List.getD_eq_getElem?_getD, List.getElem?_eq_getElem hlt]; rfl
    rw [grp_step l n k hn hlt, clean_append, clean_append, ih (by omega), hg]
    have h1 : clean (if k ≠ 0 ∧ k % n = 0 then [45] else []) = [] := by
      split
      · decide
      · rfl
    have h2 : clean [l[k]] = [l[k]] := clean_still _ (fun c hc => by rw [List.mem_singleton.1 hc]; exact hs _ (List.getElem_mem _))
    rw [h1, h2, List.append_nil]
    exact List.take_append_getElem hlt
theorem clean_grp_all (l : List UInt8) (n : Nat) (hn : 1 ≤ n) (hs : ∀ c ∈ l, still c) : clean (grp l n) = l := by
  unfold grp
  rw [clean_grp l n hn hs l.length (Nat.le_refl _), List.take_of_length_le (Nat.le_refl _)]
/-- Of groups that are as long as the text there is one. -/
theorem grp_great (l : List UInt8) (n : Nat) (h1 : 1 ≤ n) (h : l.length ≤ n) : grp l n = l := by
  have : ∀ k, k ≤ l.length → grpTo l n (glen n k) = l.take k := by
    intro k
    induction k with
    | zero => intro _; rfl
    | succ k ih =>
      intro hk
      have hlt : k < l.length := by omega
      have hg : l.getD k 0 = l[k] := by rw [List.getD_eq_getElem?_getD, List.getElem?_eq_getElem hlt]; rfl
      rw [grp_step l n k h1 hlt, ih (by omega), hg, if_neg (fun hh => by have := Nat.mod_eq_of_lt (show k < n by omega); omega), List.append_nil]
      exact List.take_append_getElem hlt
  unfold grp
  rw [this _ (Nat.le_refl _), List.take_of_length_le (Nat.le_refl _)]

/-! ### Texts of whole fives -/
theorem at5_right (l m : List Bool) (i j : Nat) (h : l.length = 5 * i) : at5 (l ++ m) (i + j) = at5 m j := by
  have e : (l ++ m).drop (5 * (i + j)) = m.drop (5 * j) := by
    rw [Nat.mul_add, ← h, ← List.drop_drop]
    simp
  unfold at5
  rw [e]
theorem at5_left (l m : List Bool) (i j : Nat) (h : l.length = 5 * i) (hj : j < i) : at5 (l ++ m) j = at5 l j := by
  have e : ((l ++ m).drop (5 * j)).take 5 = (l.drop (5 * j)).take 5 := by
    rw [List.drop_append_of_le_length (by omega), List.take_append_of_le_length (by rw [List.length_drop]; omega)]
  unfold at5
  rw [e]
theorem enc_append (s t : List UInt8) (h : s.length % 5 = 0) : enc (s ++ t) = enc s ++ enc t := by
  have hl := bits_length s
  obtain ⟨q, hq⟩ : ∃ q, s.length = 5 * q := ⟨s.length / 5, by omega⟩
  have hb : (bits s).length = 5 * (8 * q) := by omega
  unfold enc
  rw [bits_append, List.length_append, hq]
  rw [show (8 * (5 * q + t.length) + 4) / 5 = 8 * q + (8 * t.length + 4) / 5 by omega, show (8 * (5 * q) + 4) / 5 = 8 * q by omega]
  rw [List.range_add, List.map_append, List.map_map]
  congr 1
  · apply List.map_congr_left
    intro i hi
    rw [at5_left _ _ (8 * q) i hb (List.mem_range.1 hi)]
  · apply List.map_congr_left
    intro i _
    show dig (at5 (bits s ++ bits t) (8 * q + i)) = _
    rw [at5_right _ _ (8 * q) i hb]
end Go.Proofs.YtfjdcopndkdbmaaGreatDoor.Tk

namespace Go.Proofs.YtfjdcopndkdbmaaGreatDoor.Tk

/-- The first k groups of m bits, as numbers; all of them; what is left behind them. -/
def grpsTo (m k : Nat) (l : List Bool) : List Nat := (List.range k).map fun i => num ((l.drop (m * i)).take m)
def grps (m : Nat) (l : List Bool) : List Nat := grpsTo m (l.length / m) l
def left (m : Nat) (l : List Bool) : List Bool := l.drop (m * (l.length / m))
theorem grpsTo_succ (m k : Nat) (l : List Bool) : grpsTo m (k + 1) l = grpsTo m k l ++ [num ((l.drop (m * k)).take m)] := by
  unfold grpsTo
  rw [List.range_succ, List.map_append, List.map_cons, List.map_nil]
theorem grpsTo_length (m k : Nat) (l : List Bool) : (grpsTo m k l).length = k := by simp [grpsTo]
theorem grps_length (m : Nat) (l : List Bool) : (grps m l).length = l.length / m := grpsTo_length _ _ _
theorem left_length (m : Nat) (l : List Bool) : (left m l).length = l.length % m := by
  unfold left
  rw [List.length_drop]
  have := Nat.div_add_mod l.length m
  omega
theorem add_div_mod (m a b : Nat) (hm : 0 < m) : (a + b) / m = a / m + (a % m + b) / m := by
  have h := Nat.div_add_mod a m
  conv => lhs; rw [← h]
  rw [Nat.add_assoc, Nat.mul_add_div hm]
theorem drop_left (m : Nat) (l b : List Bool) : (l ++ b).drop (m * (l.length / m)) = left m l ++ b := by
  have := Nat.div_add_mod l.length m
  unfold left
  rw [List.drop_append_of_le_length (by omega)]
theorem grps_append (m : Nat) (hm : 0 < m) (l b : List Bool) : grps m (l ++ b) = grps m l ++ grps m (left m l ++ b) := by
  have h1 : (l ++ b).length / m = l.length / m + (left m l ++ b).length / m := by
    rw [List.length_append, List.length_append, left_length, add_div_mod m _ _ hm]
  unfold grps
  rw [h1]
  generalize hq2 : (left m l ++ b).length / m = q2
  unfold grpsTo
  rw [List.range_add, List.map_append, List.map_map]
  congr 1
  · apply List.map_congr_left
    intro i hi
    have hi' := List.mem_range.1 hi
    have hle : m * i + m ≤ l.length := by
      have h2 : m * (i + 1) ≤ m * (l.length / m) := Nat.mul_le_mul_left m hi'
      have := Nat.div_add_mod l.length m
      rw [Nat.mul_add, Nat.mul_one] at h2
      omega
    rw [List.drop_append_of_le_length (by omega), List.take_append_of_le_length (by rw [List.length_drop]; omega)]
  · apply List.map_congr_left
    intro i _
    show num (((l ++ b).drop (m * (l.length / m + i))).take m) = _
    rw [Nat.mul_add, ← List.drop_drop, drop_left]
theorem left_append (m : Nat) (hm : 0 < m) (l b : List Bool) : left m (l ++ b) = left m (left m l ++ b) := by
  have h1 : (l ++ b).length / m = l.length / m + (left m l ++ b).length / m := by
    rw [List.length_append, List.length_append, left_length, add_div_mod m _ _ hm]
  conv => lhs; unfold left
  rw [h1, Nat.mul_add, ← List.drop_drop, drop_left]
  rfl

/-- A register that holds so many bits takes in some more. -/
theorem held_in (H c b v : Nat) (hv : v < 2 ^ b) (hcb : c + b ≤ 64) : (H * 2 ^ b % 2 ^ 64 ||| v) < 2 ^ 64 ∧ (H * 2 ^ b % 2 ^ 64 ||| v) % 2 ^ (c + b) = H % 2 ^ c * 2 ^ b + v := by
  have e64 : (2 : Nat) ^ 64 = 2 ^ (64 - b) * 2 ^ b := by rw [← Nat.pow_add]; congr 1; omega
  have e1 : H * 2 ^ b % 2 ^ 64 = H % 2 ^ (64 - b) * 2 ^ b := by rw [e64, Nat.mul_mod_mul_right]
  have e2 : (H * 2 ^ b % 2 ^ 64 ||| v) = H % 2 ^ (64 - b) * 2 ^ b + v := by
    rw [e1, ← Nat.shiftLeft_eq, ← Nat.shiftLeft_add_eq_or_of_lt hv]
  refine ⟨?_, ?_⟩
  · apply Nat.or_lt_two_pow
    · exact Nat.mod_lt _ (Nat.two_pow_pos _)
    · exact Nat.lt_of_lt_of_le hv (Nat.pow_le_pow_right (by decide) (by omega))
  · rw [e2, Nat.pow_add, Nat.add_mod, Nat.mul_mod_mul_right, Nat.mod_mod_of_dvd _ (Nat.pow_dvd_pow 2 (by omega)), ← Nat.pow_add]
    have h1 : v < 2 ^ (c + b) := Nat.lt_of_lt_of_le hv (Nat.pow_le_pow_right (by decide) (by omega))
    rw [Nat.mod_eq_of_lt h1]
    apply Nat.mod_eq_of_lt
    have h2 : H % 2 ^ c < 2 ^ c := Nat.mod_lt _ (Nat.two_pow_pos _)
    have h3 : (H % 2 ^ c + 1) * 2 ^ b ≤ 2 ^ c * 2 ^ b := Nat.mul_le_mul_right _ h2
    rw [Nat.add_mul, Nat.one_mul, ← Nat.pow_add] at h3
    omega
/-- .. and puts out a group. -/
theorem held_out (H m : Nat) (p : List Bool) (hm : m ≤ p.length) (h : H % 2 ^ p.length = num p) :
    H / 2 ^ (p.length - m) % 2 ^ m = num (p.take m) ∧ H % 2 ^ (p.length - m) = num (p.drop m) := by
  have hp : num p = num (p.take m) * 2 ^ (p.length - m) + num (p.drop m) := by
    conv => lhs; rw [← List.take_append_drop m p]
    rw [num_append, List.length_drop]
  have hlt : num (p.drop m) < 2 ^ (p.length - m) := by
    have := num_lt (p.drop m)
    rwa [List.length_drop] at this
  obtain ⟨c, hc⟩ : ∃ c, p.length = c + m := ⟨p.length - m, by omega⟩
  rw [hc] at h hp hlt ⊢
  rw [Nat.add_sub_cancel] at hp hlt ⊢
  constructor
  · rw [← Nat.mod_mul_right_div_self, ← Nat.pow_add, h, hp, Nat.mul_comm, Nat.mul_add_div (Nat.two_pow_pos c), Nat.div_eq_of_lt hlt, Nat.add_zero]
  · rw [← Nat.mod_mod_of_dvd H (Nat.pow_dvd_pow 2 (show c ≤ c + m by omega)), h, hp, Nat.mul_comm, Nat.mul_add_mod, Nat.mod_eq_of_lt hlt]
theorem held_more (H b v : Nat) (p : List Bool) (hv : v < 2 ^ b) (hcb : p.length + b ≤ 64) (h : H % 2 ^ p.length = num p) : (H * 2 ^ b % 2 ^ 64 ||| v) % 2 ^ (p ++ bitsN b v).length = num (p ++ bitsN b v) := by
  rw [List.length_append, bitsN_length, (held_in H p.length b v hv hcb).2, num_append, bitsN_length, num_bitsN, Nat.mod_eq_of_lt hv, h]

/-- What comes out of all bits: digits, bytes. -/
theorem enc_grps (s : List UInt8) (k : Nat) (hk : (8 * s.length + k) % 5 = 0) (h5 : k < 5) : (grps 5 (bits s ++ bitsN k 0)).map dig = enc s := by
  have hz : bitsN k 0 = List.replicate k false := bits_eq (by rw [bitsN_length, List.length_replicate]) (by rw [num_bitsN, num_zeros]; simp)
  have hl : (bits s ++ bitsN k 0).length / 5 = (8 * s.length + 4) / 5 := by rw [List.length_append, bits_length, bitsN_length]; omega
  unfold grps enc
  rw [hl]
  unfold grpsTo
  rw [List.map_map]
  apply List.map_congr_left
  intro i hi
  have hi' := List.mem_range.1 hi
  show dig (num _) = dig (at5 (bits s) i)
  congr 1
  unfold at5
  congr 1
  rw [hz]
  have hb := bits_length s
  by_cases h : 5 * i + 5 ≤ (bits s).length
  · rw [List.drop_append_of_le_length (by omega), List.take_append_of_le_length (by rw [List.length_drop]; omega)]
    have e : (List.take 5 (List.drop (5 * i) (bits s))).length = 5 := by simp; omega
    rw [e, Nat.sub_self, List.replicate_zero, List.append_nil]
  · rw [List.drop_append_of_le_length (by omega), List.take_of_length_le (by simp; omega), List.take_of_length_le (by simp; omega)]
    congr 2
    simp
    omega
theorem bytes_grps (l : List Bool) : (grps 8 l).map (fun n => UInt8.ofNat n) = bytes l := by
  unfold grps grpsTo bytes
  rw [List.map_map]
  rfl
theorem bits_take_succ (s : List UInt8) (i : Nat) (h : i < s.length) : bits (s.take (i + 1)) = bits (s.take i) ++ bitsN 8 s[i].toNat := by
  rw [List.take_succ_eq_append_getElem h, bits_append]
  simp [bits]
theorem dbits_take_succ (s : List UInt8) (i : Nat) (h : i < s.length) : dbits (s.take (i + 1)) = dbits (s.take i) ++ bitsN 5 (val s[i]) := by
  rw [List.take_succ_eq_append_getElem h, dbits_append]
  simp [dbits]
end Go.Proofs.YtfjdcopndkdbmaaGreatDoor.Tk
