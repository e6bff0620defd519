/-
  Contracts of package pack, the writer: text, Num, Text, Row, String. Condition: the writer lies in memory as its calls lay it, what is written lies elsewhere.
-/
import Derived.Test.YtkfkaijaenjngaaPackB
namespace Go.Proofs.Ytkfkaijaenjngaa
open Go.RowKit

/-- An append whose run is known, at the list of operations. -/
theorem wpList_append_run {P : Program} {w w' : World} {ops : Array Oper} {rest : List Oper} {o : Oper} {a : Act} {Q : Exit → Act → World → Prop} (hgd : o.guard = none) (s x : Operand) (t u : TypeId)
    (ho : o.op = .call { callee := .builtin .append, args := #[s, x], argTypes := #[t, u] }) (v y v' : Value) (hs : a.eval s = v) (hx : a.eval x = y)
    (hr : (Builtin.append_ #[t, u] o.type #[v, y]).run P w = .ok v' w') (h : wpList P ops Q rest (a.put o.dst v') w') : wpList P ops Q (o :: rest) a w := by
  refine wpList_plain hgd fun K hK => ?_
  unfold Oper.wp execOp
  simp only [ho, resolve, invoke, builtin, Sem.run_bind, Sem.run_pure, Result.andThen_ok, List.map_toArray, List.map_cons, List.map_nil, hs, hx, hr]
  exact hK _ _ h

theorem text_any (w : World) (d : Nat) (v : Value) (l : List UInt8) (h : WrAt w d v l) (s : ByteArray) (hl : l.length + s.size ≤ 1000000) :
    Calls Try.prog 32 #[.pointer (some ⟨d, 0, none⟩), .string s] w fun e w' => e = .returned (.tuple #[]) ∧ Wrote w d v (l ++ Pk.text s.data.toList) w' := by
  have HN := Lib.hid (Pk.num_len_le s.size (by omega))
  have HC := Lib.hid (number_any w d v l h s.size (by omega) (by omega))
  go_enter Try.func32, Try.ntmps32
  go_wp2_with fail
  refine HC.out.mono ?_
  rintro e w1 ⟨rfl, v1, h1, k1, f1⟩
  have hl1 : (l ++ Pk.num s.size).length ≤ l.length + 10 := by have := HN.out; simp; omega
  generalize hL : l ++ Pk.num s.size = l1 at h1 hl1
  have HL := Lib.hid hL
  clear hL
  obtain ⟨i0, hi0, hz0, hz1, hz2⟩ := info_u8
  obtain ⟨A', c', w2, hr, hown, hgrow, hat⟩ := run_append_text (P := Try.prog) w1 27 9 27 5 i0 Try.underlying27 Try.underlying9 hi0 hz0 hz1 hz2 v1 _ _ h1.own s (by omega)
  have HP := Lib.hid (Wrote.trans k1 f1 (h1.push (m := s.data.toList) (Below.refl _ _) (by simp) hown hgrow hat))
  have hd := h1.blk.of (hgrow.block _ h1.blk.lt (fun e => h1.ne_ e.symm))
  have d0 := hd.cell 0
  have f0 := hd.frozen 0
  have c0 := h1.blk.cell 0
  simp only [List.getElem?_toArray, List.getElem?_cons_zero] at c0 d0
  obtain ⟨A, c, rfl⟩ := h1.form
  clear HC hi0 hz0 hz1 hz2 hown hgrow hat hd h1 k1 f1
  have HR := Lib.hid hr
  clear hr
  go_wp2_with
    (at_builtin
     refine wpList_append_run rfl (.tmp 13) (.tmp 14) 27 9 rfl _ _ _ rfl rfl HR.out ?_
     clear c0)
  go_end0
  refine ⟨rfl, ?_⟩
  have e : l ++ Pk.text s.data.toList = l1 ++ s.data.toList := by rw [← HL.out, List.append_assoc]; rfl
  rw [e]
  exact HP.out

/-- A row of values that lies in memory, off some blocks. -/
def Lies (S : Nat → Prop) (w : World) (A : Option Addr) (vs : List Value) : Prop := ∀ i u, vs[i]? = some u → ∃ a, A = some a ∧ a.block < w.heap.size ∧ ¬ S a.block ∧ w.cell? (a.add i) = some u
theorem add_block (a : Addr) (i : Nat) : (a.add i).block = a.block := by unfold Addr.add; split <;> rfl
section
variable {S T : Nat → Prop} {w w' : World} {A : Option Addr} {vs : List Value}
theorem Lies.kept (h : Lies S w A vs) (hk : Kept S w w') : Lies S w' A vs := fun i u hi => by
  obtain ⟨a, h1, h2, h3, h4⟩ := h i u hi
  refine ⟨a, h1, Nat.lt_of_lt_of_le h2 hk.size, h3, ?_⟩
  rw [← h4]
  exact World.cell?_of_block (by rw [add_block]; exact hk.block _ h2 h3)
theorem Lies.mono (h : Lies S w A vs) (hT : ∀ k, k < w.heap.size → T k → S k) : Lies T w A vs := fun i u hi => by
  obtain ⟨a, h1, h2, h3, h4⟩ := h i u hi
  exact ⟨a, h1, h2, fun ht => h3 (hT _ h2 ht), h4⟩
theorem Lies.below (h : Lies S w A vs) (hb : Below w.heap.size w w') : Lies S w' A vs := h.kept (Kept.of_below hb)
theorem Lies.none (w : World) (A : Option Addr) : Lies S w A [] := fun i u hi => by simp at hi
/-- A row that a call has made. -/
theorem Lies.own {base n : Nat} {e : TypeId} {c : Nat} (h : w.ownsRow base e 1 (.slice A n c) n vs) (hS : ∀ g, A = some ⟨g, 0, .none⟩ → base ≤ g → ¬ S g) : Lies S w A vs := fun i u hi => by
  have hlen := h.1
  have hi' := (List.getElem?_eq_some_iff.1 hi).1
  rcases h.2 with ⟨_, h0⟩ | ⟨g, cap, cur, hv, hb, hh, _⟩
  · omega
  · have : A = some ⟨g, 0, .none⟩ := by injection hv
    subst this
    refine ⟨_, rfl, Blk.lt (t := e) (cs := cur) hh, hS g rfl hb, ?_⟩
    exact h.cells (g := g) rfl i u hi
end
def cn (l : List Nat) : List Value := l.map fun n : Nat => .int .u64 (n : Int)
def cs (l : List ByteArray) : List Value := l.map .string
def tx (l : List ByteArray) : List (List UInt8) := l.map fun s => s.data.toList
theorem cn_get (l : List Nat) (i : Nat) (h : i < l.length) : (cn l)[i]? = some (.int .u64 (l[i] : Int)) := by simp [cn, h]
theorem cs_get (l : List ByteArray) (i : Nat) (h : i < l.length) : (cs l)[i]? = some (.string l[i]) := by simp [cs, h]
theorem take_snoc {α : Type} (l : List α) (i : Nat) (h : i < l.length) : l.take (i + 1) = l.take i ++ [l[i]] := by simp

def nums (l : List Nat) : List UInt8 := l.flatMap Pk.num
theorem nums_snoc (l : List Nat) (n : Nat) : nums (l ++ [n]) = nums l ++ Pk.num n := by simp [nums]
theorem nums_len (l : List Nat) (h : ∀ n ∈ l, n ≤ 18446744073709551615) : (nums l).length ≤ 10 * l.length := by
  induction l with
  | nil => simp [nums]
  | cons a r ih =>
    have h1 := Pk.num_len_le a (by have := h a (by simp); omega)
    have h2 := ih (fun n hn => h n (by simp [hn]))
    have : nums (a :: r) = Pk.num a ++ nums r := by simp [nums]
    rw [this, List.length_append, List.length_cons]
    omega
theorem texts_len (l : List ByteArray) (h : ∀ s ∈ l, s.size ≤ 1000) : (Pk.texts (tx l)).length ≤ 1010 * l.length := by
  induction l with
  | nil => simp [tx, Pk.texts]
  | cons a r ih =>
    have h0 := h a (by simp)
    have h1 := Pk.num_len_le a.size (by omega)
    have h2 := ih (fun n hn => h n (by simp [hn]))
    have : Pk.texts (tx (a :: r)) = Pk.text a.data.toList ++ Pk.texts (tx r) := by simp [tx, Pk.texts]
    have h3 : (Pk.text a.data.toList).length = (Pk.num a.size).length + a.size := by simp [Pk.text]
    rw [this, List.length_append, List.length_cons]
    omega

/-- Where a loop stands that writes. -/
def WRel (w : World) (d : Nat) (v : Value) (f : Nat → List UInt8) (n : Nat) (x : Value) (wr : World) : Prop :=
  ∃ (j : Nat) (v' : Value), j ≤ n ∧ x = .int .i64 (j : Int) ∧ WrAt wr d v' (f j) ∧ Kept (foot d v) w wr ∧ ∀ k, foot d v' k → foot d v k ∨ w.heap.size ≤ k

theorem wnum_any (w : World) (d : Nat) (v : Value) (l : List UInt8) (h : WrAt w d v l) (A : Option Addr) (c : Nat) (ns : List Nat) (hns : ∀ n ∈ ns, n ≤ 18446744073709551615) (hA : Lies (foot d v) w A (cn ns)) (hl : l.length + 10 * ns.length ≤ 1000000) :
    Calls Try.prog 11 #[.pointer (some ⟨d, 0, none⟩), .slice A ns.length c] w fun e w' => e = .returned (.pointer (some ⟨d, 0, none⟩)) ∧ Wrote w d v (l ++ nums ns) w' := by
  have HA := Lib.hid hA
  have HS := Lib.hid hns
  clear hA hns
  go_enter Try.func11, Try.ntmps11
  go_wp2_with fail
  go_loopw [11] (WRel w d v (fun j => l ++ nums (ns.take j)) ns.length) (fun i _ => ns.length - (intOf i).toNat)
  case atStart => exact ⟨0, v, by omega, rfl, by simpa [nums] using h, Kept.refl _ _, fun _ hk => .inl hk⟩
  case round =>
    clear h
    obtain ⟨j, v1, hj, rfl, h1, k1, f1⟩ := hrel
    by_cases hlt : j < ns.length
    · obtain ⟨a, rfl, _, _, hc⟩ := HA.out.kept k1 j _ (cn_get ns j hlt)
      have hlen := nums_len (ns.take j) (fun n hn => HS.out n (List.mem_of_mem_take hn))
      have HC := Lib.hid (number_any wr d v1 _ h1 ns[j] (HS.out _ (List.getElem_mem hlt)) (by simp at hlen ⊢; omega))
      have HK := Lib.hid k1
      have HF := Lib.hid f1
      clear k1 f1 h1 hlen
      go_wp2_with fail
      refine HC.out.mono ?_
      rintro e w1 ⟨rfl, h2⟩
      clear HC
      go_wp2_with fail
      go_roundw
      case rel =>
        obtain ⟨v2, r1, r2, r3⟩ := Wrote.trans HK.out HF.out h2
        refine ⟨j + 1, v2, by omega, by go_num, ?_, r2, r3⟩
        show WrAt w1 d v2 (l ++ nums (ns.take (j + 1)))
        rw [take_snoc ns j hlt, nums_snoc, ← List.append_assoc]
        exact r1
      case measure => simp [intOf]; omega
    · obtain rfl : j = ns.length := by omega
      go_wp2_with fail
      go_ret
      have h2 : WrAt wr d v1 (l ++ nums (ns.take ns.length)) := h1
      rw [List.take_length] at h2
      exact ⟨rfl, v1, h2, k1, f1⟩

theorem wtext_any (w : World) (d : Nat) (v : Value) (l : List UInt8) (h : WrAt w d v l) (A : Option Addr) (c : Nat) (ss : List ByteArray) (hns : ∀ s ∈ ss, s.size ≤ 1000) (hA : Lies (foot d v) w A (cs ss)) (hl : l.length + 1010 * ss.length ≤ 900000) :
    Calls Try.prog 13 #[.pointer (some ⟨d, 0, none⟩), .slice A ss.length c] w fun e w' => e = .returned (.pointer (some ⟨d, 0, none⟩)) ∧ Wrote w d v (l ++ Pk.texts (tx ss)) w' := by
  have HA := Lib.hid hA
  have HS := Lib.hid hns
  clear hA hns
  go_enter Try.func13, Try.ntmps13
  go_wp2_with fail
  go_loopw [11] (WRel w d v (fun j => l ++ Pk.texts (tx (ss.take j))) ss.length) (fun i _ => ss.length - (intOf i).toNat)
  case atStart => exact ⟨0, v, by omega, rfl, by simpa [tx, Pk.texts] using h, Kept.refl _ _, fun _ hk => .inl hk⟩
  case round =>
    clear h
    obtain ⟨j, v1, hj, rfl, h1, k1, f1⟩ := hrel
    by_cases hlt : j < ss.length
    · obtain ⟨a, rfl, _, _, hc⟩ := HA.out.kept k1 j _ (cs_get ss j hlt)
      have hlen := texts_len (ss.take j) (fun n hn => HS.out n (List.mem_of_mem_take hn))
      have HC := Lib.hid (text_any wr d v1 _ h1 ss[j] (by have := HS.out _ (List.getElem_mem hlt); simp at hlen ⊢; omega))
      have HK := Lib.hid k1
      have HF := Lib.hid f1
      clear k1 f1 h1 hlen
      go_wp2_with fail
      refine HC.out.mono ?_
      rintro e w1 ⟨rfl, h2⟩
      clear HC
      go_wp2_with fail
      go_roundw
      case rel =>
        obtain ⟨v2, r1, r2, r3⟩ := Wrote.trans HK.out HF.out h2
        refine ⟨j + 1, v2, by omega, by go_num, ?_, r2, r3⟩
        show WrAt w1 d v2 (l ++ Pk.texts (tx (ss.take (j + 1))))
        have e : tx (ss.take j ++ [ss[j]]) = tx (ss.take j) ++ [ss[j].data.toList] := by unfold tx; rw [List.map_append]; rfl
        rw [take_snoc ss j hlt, e, Pk.texts_snoc, ← List.append_assoc]
        exact r1
      case measure => simp [intOf]; omega
    · obtain rfl : j = ss.length := by omega
      go_wp2_with fail
      go_ret
      have h2 : WrAt wr d v1 (l ++ Pk.texts (tx (ss.take ss.length))) := h1
      rw [List.take_length] at h2
      exact ⟨rfl, v1, h2, k1, f1⟩

theorem wrow_any (w : World) (d : Nat) (v : Value) (l : List UInt8) (h : WrAt w d v l) (A : Option Addr) (c : Nat) (ss : List ByteArray) (hns : ∀ s ∈ ss, s.size ≤ 1000) (hA : Lies (foot d v) w A (cs ss)) (hl : l.length + 1010 * ss.length ≤ 800000) :
    Calls Try.prog 14 #[.pointer (some ⟨d, 0, none⟩), .slice A ss.length c] w fun e w' => e = .returned (.pointer (some ⟨d, 0, none⟩)) ∧ Wrote w d v (l ++ Pk.row (tx ss)) w' := by
  have hb0 : Below w.heap.size w (w.alloc (.cells #[.int .u64 (ss.length : Int)] 33)) := (Below.refl _ w).alloc (Nat.le_refl _) _
  have HN := Lib.hid (Pk.num_len_le ss.length (by omega))
  have hl1 : Lies (foot d v) (w.alloc (.cells #[.int .u64 (ss.length : Int)] 33)) (some ⟨w.heap.size, 0, none⟩) (cn [ss.length]) := by
    intro i u hi
    have hi' := (List.getElem?_eq_some_iff.1 hi).1
    have : i = 0 := by simp [cn] at hi'; omega
    subst this
    refine ⟨_, rfl, by simp, fun hf => by have := h.lt _ hf; simp at this, ?_⟩
    rw [show (⟨w.heap.size, 0, none⟩ : Addr).add 0 = ⟨w.heap.size, 0, none⟩ from rfl, (Blk.new w 33 _).cell]
    simpa [cn] using hi
  have HC := Lib.hid (wnum_any _ d v l (h.below hb0) _ 1 [ss.length] (by intro n hn; simp at hn; omega) hl1 (by simp; omega))
  have HA := Lib.hid hA
  have HB := Lib.hid hb0
  have HL := Lib.hid h.lt
  clear hA hb0 hl1 h
  go_enter Try.func14, Try.ntmps14
  go_wp2_with fail
  refine HC.out.mono ?_
  rintro e w1 ⟨rfl, v1, h1, k1, f1⟩
  have e1 : nums [ss.length] = Pk.num ss.length := by simp [nums]
  rw [e1] at h1
  have hk : Kept (foot d v) w w1 := (Kept.of_below HB.out).trans k1 (fun x hx => .inl hx)
  have hf : ∀ k, foot d v1 k → foot d v k ∨ w.heap.size ≤ k := fun k hk => by
    rcases f1 k hk with h | h
    · exact .inl h
    · have := HB.out.size; exact .inr (by omega)
  have hA1 : Lies (foot d v1) w1 A (cs ss) := fun i u hi => by
    obtain ⟨a, h1, h2, h3, h4⟩ := HA.out i u hi
    obtain ⟨a', h1', h2', h3', h4'⟩ := HA.out.kept hk i u hi
    obtain rfl : a = a' := by rw [h1] at h1'; exact Option.some.inj h1'
    refine ⟨a, h1, h2', fun hx => ?_, h4'⟩
    rcases hf _ hx with h | h
    · exact h3 h
    · omega
  have HD := Lib.hid (wtext_any w1 d v1 _ h1 A c ss hns hA1 (by have := HN.out; simp; omega))
  have HK := Lib.hid hk
  have HF := Lib.hid hf
  clear HC h1 k1 f1 hk hf hA1 e1
  go_wp2_with fail
  refine HD.out.mono ?_
  rintro e w2 ⟨rfl, h2⟩
  clear HD
  go_wp2_with fail
  go_ret
  refine ⟨rfl, ?_⟩
  have := Wrote.trans HK.out HF.out h2
  rw [List.append_assoc] at this
  have e2 : Pk.row (tx ss) = Pk.num ss.length ++ Pk.texts (tx ss) := by simp [Pk.row, tx]
  rw [e2]
  exact this

def ba (l : List UInt8) : ByteArray := ⟨l.toArray⟩
theorem ba_list (l : List UInt8) : (ba l).data.toList = l := by simp [ba]
theorem ba_back (s : ByteArray) : ba s.data.toList = s := by simp [ba]
theorem ba_size (l : List UInt8) : (ba l).size = l.length := by simp [ba, ByteArray.size]
theorem ba_append (a b : List UInt8) : ba a ++ ba b = ba (a ++ b) := by
  apply ByteArray.ext
  simp [ba]
theorem ba_inj {a b : List UInt8} (h : ba a = ba b) : a = b := by
  have := congrArg (fun s : ByteArray => s.data.toList) h
  simpa [ba] using this

theorem str_any (w : World) (d : Nat) (v : Value) (l : List UInt8) (h : WrAt w d v l) :
    Calls Try.prog 17 #[.pointer (some ⟨d, 0, none⟩)] w fun e w' => e = .returned (.string (ba l)) ∧ w = w' := by
  have c0 := h.blk.cell 0
  simp only [List.getElem?_toArray, List.getElem?_cons_zero] at c0
  obtain ⟨A, c, rfl⟩ := h.form
  have hcv : (convert 27 9 (.slice A l.length c)).run Try.prog w = .ok (.string (ba l)) w := by
    rcases h.own.2 with ⟨hv, h0⟩ | ⟨g, cap, cur, hv, hb, hh, _⟩
    · have hl0 : l = [] := List.eq_nil_of_length_eq_zero h0
      subst hl0
      have : A = none := by injection hv
      subst this
      rw [run_convert_bytes_string w 27 9 5 none _ _ Try.underlying27 Try.underlying5 Try.underlying9]
      simp [ba, Conv.bytesToString]
      rfl
    · have : A = some ⟨g, 0, none⟩ := by injection hv
      subst this
      have hr := run_convert_bytes_back (P := Try.prog) w 27 9 5 ⟨g, 0, none⟩ c l Try.underlying27 Try.underlying5 Try.underlying9 (by
        intro i hi
        exact h.own.cells (g := g) rfl i _ (cb_get l i hi))
      exact hr
  clear h
  go_enter Try.func17, Try.ntmps17
  go_wp2_with fail
  go_ret
  exact ⟨rfl, rfl⟩
end Go.Proofs.Ytkfkaijaenjngaa
