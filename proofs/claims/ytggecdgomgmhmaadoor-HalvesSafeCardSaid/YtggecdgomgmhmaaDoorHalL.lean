/-
  Contract of halves.Format. Condition: the disk lies in memory as New lays it, has at most 80000 bytes, is not broken and does not break in Format; fewer than 900 writes are pending; the table of crc holds what its text says.
-/
import Derived.Test.YtggecdgomgmhmaaDoorHalJ
namespace Go.Proofs.YtggecdgomgmhmaaDoor
open Go.RowKit

theorem info_step : ∃ i, Tryd.prog.info? 61 = some i ∧ i.zero = some .nilFunc ∧ i.size = 1 ∧ i.bytes = 8 := info_parts (by kernel_rfl)
theorem format_nil (s : ByteArray) (w : World) :
    Calls Tryd.prog 9 #[.pointer none, .string s] w fun x w' => x = .returned (.tuple #[.pointer none, .int .i64 1]) ∧ w = w' := by
  go_enter Tryd.func9, Tryd.ntmps9
  go_wp2_with fail
  go_ret2
  exact ⟨rfl, rfl⟩
section
variable {w : World} {F : Foot} {D : Dsk}
theorem perform_n (h : DiskAt w F D) (hbr : D.broken = false) {A : Option Addr} {σs : List St} {n : Nat} (hn : σs.length = n) (c : Nat) (hS : Steps F.has w F.d A σs) (hfit : ∀ σ ∈ σs, σ.fits D.n) (hp : D.pend.length + n < 1000) :
    Calls Tryd.prog 27 #[.slice A n c] w (PerfPost w F σs D) := by
  subst hn
  exact perform_any h hbr c hS hfit hp
theorem fmt_fits {n hf : Nat} {R : ByteArray} (h : 2 * hf ≤ n) (hR : R.size ≤ hf) : ∀ σ ∈ beg 0 hf R ++ [.wipe hf hf, .sync], σ.fits n := by
  intro σ hσ
  rcases List.mem_append.1 hσ with hσ | hσ
  · exact beg_fits (by omega) hR σ hσ
  · simp only [List.mem_cons, List.not_mem_nil, or_false] at hσ
    rcases hσ with rfl | rfl
    · show hf + hf ≤ n
      omega
    · trivial
def fmtS (hf : Nat) (R : ByteArray) : List St := beg 0 hf R ++ [.wipe hf hf, .sync]
def FormatP (w : World) (F : Foot) (D : Dsk) (hf e : Nat) (R : ByteArray) (x : Ending) (w' : World) : Prop :=
  ∃ (g : Nat) (F' : Foot), x = .returned (.tuple #[.pointer (some ⟨g, 0, none⟩), .int .i64 0]) ∧ w.heap.size ≤ g ∧ F'.d = F.d ∧ DiskAt w' F' (runD (fmtS hf R) D) ∧ LogAt w' g F.d 0 R.size e false ∧ Kept F.has w w' ∧ ∀ k, F'.has k → F.has k ∨ w.heap.size ≤ k
set_option maxRecDepth 100000 in
set_option maxHeartbeats 4000000 in
theorem format_go (h : DiskAt w F D) (hbr : D.broken = false) (hT : Tab w) (hn : D.n ≤ 80000) {hf : Nat} (hhf : D.n / 2 = hf) (hp : D.pend.length < 900) {e : Nat} (he : eOf (newestOf D.lat hf) + 1 = e) (he' : e ≤ 18446744073709551615) (s : ByteArray) (hs : s.size ≤ 39000) (R : ByteArray) (hR : ba (hrec hf e s.data.toList) = R) (hR0 : R.size ≠ 0) (hok : (runD (fmtS hf R) D).broken = false) :
    Calls Tryd.prog 9 #[.pointer (some ⟨F.d, 0, none⟩), .string s] w (FormatP w F D hf e R) := by
  have hsm := h.small
  have hRs : R.size ≤ hf := by rw [← hR, ba_size]; exact hrec_le _ _ _
  have hlt := Foot.has_lt h
  have HD := Lib.hid h
  have h' := h
  unfold DiskAt at h'
  rw [hbr] at h'
  have HT := Lib.hid hT
  have HN := Lib.hid (newest_any h' hT hn hhf)
  unfold NewestPost at HN
  have hneb := str_empty R hR0
  obtain ⟨i0, hi0, hz0, hz1, hz2⟩ := info_step
  have HI := Lib.hid hi0
  have HZ := Lib.hid hz0
  have HZ1 := Lib.hid hz1
  have HZ2 := Lib.hid hz2
  have HRf := Lib.hid hR
  have hef : 2 * hf ≤ D.n := by omega
  unfold FormatP
  obtain ⟨D', hD'⟩ : ∃ D', runD (fmtS hf R) D = D' := ⟨_, rfl⟩
  rw [hD'] at hok ⊢
  have HD' := Lib.hid hD'
  have HOk := Lib.hid hok
  generalize hnw : newestOf D.lat hf = nb at HN he
  have HE0 := Lib.hid he
  clear he
  clear h h' hT hi0 hz0 hz1 hz2 hR hD' hok hnw
  have hmf : ∀ (fn : Fn) (first cap : Array Value) (w : World), (Instr.makeFunc fn first cap).run Tryd.prog w = .ok (.func fn first cap) w := fun _ _ _ _ => rfl
  go_enter Tryd.func9, Tryd.ntmps9
  go_wp2_with (first
    | (go_at_call 23
       refine HN.out.mono ?_
       rintro x w2 ⟨E, S, A, mm, c, sst, uu, rfl, hCt, hb2⟩
       have hE := hCt.e
       have hew : IntKind.u64.wrap ((E : Int) + 1) = (e : Int) := by have := HE0.out; rw [IntKind.wrap_u64]; omega
       clear hE
       have hb3 : Below w.heap.size w (w2.alloc (.cells #[.int .u64 (E : Int), .string S, .slice A mm c, .int .i64 (sst : Int), .int .i64 (uu : Int)] 56)) := hb2.alloc hb2.size _
       have HB3 := Lib.hid hb3
       have hD3 : DiskAt (w2.alloc (.cells #[.int .u64 (E : Int), .string S, .slice A mm c, .int .i64 (sst : Int), .int .i64 (uu : Int)] 56)) F D := Raw.keep HD.out (S := fun _ => False) (Kept.of_below hb3) (fun _ _ hx => hx)
       have HR := Lib.hid (headRecord_any hD3 (HT.out.below hb3 HT.out.lt) hhf e he' s hs)
       rw [HRf.out] at HR
       clear hb2 hb3 hD3 hCt)
    | (go_at_call 24
       refine HR.out.mono ?_
       rintro x w4 ⟨rfl, hb4⟩
       have HB4 := Lib.hid (HB3.out.trans (hb4.mono HB3.out.size))
       have hD4 : DiskAt w4 F D := Raw.keep HD.out (S := fun _ => False) (Kept.of_below HB4.out) (fun _ _ hx => hx)
       have HD4 := Lib.hid hD4
       have HH := Lib.hid (half_any hD4 hhf)
       have HER := Lib.hid (erase_any w4 F.d hf hf (by omega))
       clear hb4 hD4)
    | (go_at_call 26
       refine HH.out.mono ?_
       rintro x w' ⟨rfl, rfl⟩)
    | (go_at_call 25
       refine HER.out.mono ?_
       rintro x w5 ⟨a5, b5, d5, rfl, hs5, hb5⟩
       have HB5 := Lib.hid hb5
       have HS5 := Lib.hid hs5
       have hD5 : DiskAt w5 F D := Raw.keep HD4.out (S := fun _ => False) (Kept.of_below hb5) (fun _ _ hx => hx)
       have HBg : Hid (Calls Tryd.prog 28 #[.pointer (some ⟨F.d, 0, none⟩), .int .i64 0, .string R] w5 (BeginP w5 F.d 0 hf R)) := begin_any hD5 hhf 0 R
       clear hb5 hs5 hD5)
    | (go_at_call 28
       refine HBg.out.mono ?_
       rintro x w6 ⟨gq, fs, rfl, hblk, hlen, hge, hst, hb6⟩
       have HBlk := Lib.hid hblk
       have HB6 := Lib.hid hb6
       have HSt := Lib.hid hst
       clear hblk hst hb6
       have hq6 := HBlk.out.lt
       have hs4 := HB4.out.size
       have hs5 := HB5.out.size
       have hs6 := HB6.out.size
       have hB46 : Below w4.heap.size w4 w6 := HB5.out.trans (HB6.out.mono hs5)
       have HB46 := Lib.hid hB46
       have hown : (w6.alloc (.cells #[.func (.func 42) #[] #[.pointer (some ⟨a5, 0, none⟩), .pointer (some ⟨b5, 0, none⟩), .pointer (some ⟨d5, 0, none⟩)], .func (.func 29) #[.pointer (some ⟨F.d, 0, none⟩)] #[]] 61)).ownsRow w.heap.size 61 1 (.slice (some ⟨gq, 0, none⟩) 4 4) 4 fs :=
         ⟨by simp [hlen], .inr ⟨gq, 4, fs.toArray, rfl, by omega, HBlk.out.alloc _, Nat.le_refl _, by unfold maxLen; omega, by simp [hlen], by rw [show 4 * 1 = fs.length by omega]; simp⟩⟩
       have hnews := Blk.new w6 61 #[.func (.func 42) #[] #[.pointer (some ⟨a5, 0, none⟩), .pointer (some ⟨b5, 0, none⟩), .pointer (some ⟨d5, 0, none⟩)], .func (.func 29) #[.pointer (some ⟨F.d, 0, none⟩)] #[]]
       have HOwn := Lib.hid hown
       have HNews := Lib.hid hnews
       clear hown hnews hB46)
    | (at_builtin
       refine wpList_append_lies _ rfl (.tmp 40) (.tmp 44) 65 rfl w.heap.size 61 i0 _ 1 8 Tryd.underlying65 HI.out HZ.out HZ1.out HZ2.out rfl (by decide) (.slice (some ⟨gq, 0, none⟩) 4 4) 4 fs rfl HOwn.out ⟨w6.heap.size, 0, none⟩ 2 2 [.func (.func 42) #[] #[.pointer (some ⟨a5, 0, none⟩), .pointer (some ⟨b5, 0, none⟩), .pointer (some ⟨d5, 0, none⟩)], .func (.func 29) #[.pointer (some ⟨F.d, 0, none⟩)] #[]] rfl rfl (World.news_of_block HNews.out) (by intro u hu; simp only [List.mem_cons, List.not_mem_nil, or_false] at hu; rcases hu with rfl | rfl <;> rfl) (by omega) (by unfold maxLen; omega) (by omega) (by simp; omega) (w6.heap.size + 1) (by simp) ?_
       intro g7 cap7 w7 hown7 hgrow hat hlt7
       have HOwn7 := Lib.hid hown7
       have HG7 := Lib.hid hgrow
       have HAt := Lib.hid hat
       clear hown7 hgrow hat
       have hk67 : Kept (· = gq) w6 w7 := ((Kept.refl (· = gq) w6).alloc _).grown HG7.out (fun k hk => .inl (by have : gq = k := (by simpa [Value.ownBlock] using hk); exact this.symm))
       have hz7 := hk67.size
       have hf1 : StepsL F.has w7 F.d fs (beg 0 hf R) := HSt.out.go (hk67.mono (T := fun x => x < w5.heap.size ∨ gq ≤ x) (fun x hx => .inl (.inr (by have hx' : x = gq := hx; omega)))) (fun x hx => .inl (.inl (by have := hlt x hx; have := HB4.out.size; omega)))
       have hf2 : StepIs (fun x => x < w4.heap.size ∨ w5.heap.size ≤ x) w6 F.d (.func (.func 42) #[] #[.pointer (some ⟨a5, 0, none⟩), .pointer (some ⟨b5, 0, none⟩), .pointer (some ⟨d5, 0, none⟩)]) (.wipe hf hf) := HS5.out.go (Kept.of_below HB6.out) (fun x hx => hx)
       have hf3 : StepIs F.has w7 F.d (.func (.func 42) #[] #[.pointer (some ⟨a5, 0, none⟩), .pointer (some ⟨b5, 0, none⟩), .pointer (some ⟨d5, 0, none⟩)]) (.wipe hf hf) := hf2.go (hk67.mono (T := fun x => x < w4.heap.size ∨ w5.heap.size ≤ x) (fun x hx => .inl (.inr (by have hx' : x = gq := hx; omega)))) (fun x hx => .inl (.inl (by have := hlt x hx; have := HB4.out.size; omega)))
       have hf4 := hf1.append (StepsL.cons hf3 rfl (StepsL.cons (f := .func (.func 29) #[.pointer (some ⟨F.d, 0, none⟩)] #[]) (σ := .sync) rfl rfl (StepsL.nil F.has w7 F.d)))
       have hst7 : Steps F.has w7 F.d (some ⟨g7, 0, none⟩) (beg 0 hf R ++ [.wipe hf hf, .sync]) := ⟨_, hf4.1, Lies.own HOwn7.out (fun g hg hb hx => by have := hlt g hx; omega), hf4.2.2⟩
       have hk47 : Kept (· = gq) w4 w7 := (Kept.of_below HB46.out).trans hk67 (fun x hx => .inl hx)
       have hD7 : DiskAt w7 F D := Raw.keep HD4.out hk47 (fun x hx he => by have he' : x = gq := he; have := hlt x hx; have := HB4.out.size; omega)
       have HK47 := Lib.hid hk47
       have HQ := Lib.hid (perform_n hD7 hbr (n := 6) rfl cap7 hst7 (fmt_fits hef hRs) (by omega))
       unfold PerfPost at HQ
       unfold fmtS at HD'
       rw [HD'.out, HOk.out, show errOf false = 0 from rfl] at HQ
       clear hk67 hf1 hf2 hf3 hf4 hst7 hk47 hD7)
    | (go_at_call 27
       refine HQ.out.mono ?_
       rintro x w8 ⟨rfl, hn8⟩
       have HN8 := Lib.hid hn8
       clear hn8))
  go_ret2
  obtain ⟨F8, q1, q2, q3, q4⟩ := HN8.out.out
  have s4 := HB4.out.size
  have s7 := HK47.out.size
  have s8 := q3.size
  have hb9 : Below w8.heap.size w8 (w8.alloc (.cells #[.pointer (some ⟨F.d, 0, none⟩), .int .i64 0, .int .i64 (R.size : Int), .int .u64 (e : Int), .bool false] 68)) := (Below.refl _ w8).alloc (Nat.le_refl _) _
  have hkw : Kept F.has w w7 := (Kept.of_below (S := F.has) HB4.out).trans HK47.out (fun x hx => .inr (by have hx' : x = gq := hx; omega))
  refine ⟨w8.heap.size, F8, rfl, by omega, q1, Raw.keep q2 (S := fun _ => False) (Kept.of_below hb9) (fun _ _ hx => hx), Blk.new w8 _ _, (hkw.trans q3 (fun x hx => .inl hx)).trans (Kept.of_below (S := F.has) hb9) (fun x hx => .inl hx), fun k hk => ?_⟩
  rcases q4 k hk with e1 | e1
  · exact .inl e1
  · exact .inr (by omega)
end
end Go.Proofs.YtggecdgomgmhmaaDoor
