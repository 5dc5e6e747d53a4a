/- Texts put together. -/
import Derived.Test.YtiebbgbcojgeoaaBap24
set_option linter.unusedVariables false
namespace Go.Proofs.Ytiebbgbcojgeoaa
open Go.RowKit Go.Maps Go.Sort Go.Shelf

theorem ints_of {ss zs : List Int} (h : ss.Nodup) (hz : zs.Pairwise fun x y => x < y) (hm : ∀ i, i ∈ ss ↔ i ∈ zs) : sortZ ss = zs := by
  have hp : ss.Perm zs := (List.perm_ext_iff_of_nodup h (hz.imp fun q e => by omega)).2 hm
  rw [sortZ_eq hp]
  exact sortZ_same (hz.imp fun q => by omega)
theorem strs_of {ss zs : List (List UInt8)} (h : ss.Nodup) (hn : zs.Nodup) (hz : zs.Pairwise fun x y => x ≤ y) (hm : ∀ i, i ∈ ss ↔ i ∈ zs) : sortS ss = zs := by
  have hp : ss.Perm zs := (List.perm_ext_iff_of_nodup h hn).2 hm
  rw [sortS_eq hp]
  exact sortS_same hz
theorem sum_perm (f : Int → Nat) {ss zs : List Int} (h : ss.Perm zs) : (ss.map f).sum = (zs.map f).sum := (h.map f).sum_nat
theorem flds_new {W : World} {fs : List (List UInt8 × List UInt8)} (g c : Nat) (hc : Cells W g 45 (cellsF fs).toArray) (hle : c = fs.length) (hl : (cellsF fs).length = fs.length * 2) (hm : fs.length ≤ 1000) : Flds W (.slice (some ⟨g, 0, none⟩) fs.length c) fs := by
  subst hle
  refine flds_of_own (base := 0) ⟨hl, .inr ⟨g, fs.length, _, rfl, Nat.zero_le _, hc, Nat.le_refl _, by unfold maxLen; omega, by simp [hl], ?_⟩⟩
  rw [List.take_of_length_le (by simp [hl])]
theorem IdxL.bareT {S : Nat} {w : World} {T : Nat → Tag} {x kb yb n : Nat} {rs : List Sz} (h : IdxL S w T x kb yb n rs) : IdxL S w (bareT T w.heap.size) x kb yb n rs :=
  ⟨h.at_.bareT, fun c hc => by rw [bareT_lt (Nat.lt_of_lt_of_le hc h.size)]; exact h.low c hc, h.size, h.n⟩
/-- Put of fields that were laid just now. -/
theorem put_new {S : Nat} {w : World} {T : Nat → Tag} {x kb yb n : Nat} {rs : List Sz} (h : IdxL S w T x kb yb n rs) (id : Int) (hw : (Lit.int .i64 id).wf = true) (h1 : 1 ≤ id) (fs : List (List UInt8 × List UInt8)) (hn : n + 1 + 2 * fs.length ≤ 800000) (hl : (cellsF fs).length = fs.length * 2) (hm : fs.length ≤ 1000)
    (hf : ∀ f ∈ fs, f.1.length ≤ maxLen ∧ f.2.length ≤ maxLen) :
    Calls Try.prog 11 #[.pointer (some ⟨x, 0, none⟩), .int .i64 id, .slice (some ⟨w.heap.size, 0, none⟩) fs.length fs.length] (w.alloc (.cells (cellsF fs).toArray 45)) fun e w' => e = .returned .nilIface ∧
      ∃ T', IdxL S w' T' x kb yb (n + 1 + 2 * fs.length) (putZ rs id fs) ∧ Below S w w' := by
  have hb : Below w.heap.size w (w.alloc (.cells (cellsF fs).toArray 45)) := (Below.refl _ _).alloc (Nat.le_refl _) _
  have hi := h.bareT.below hb (Nat.le_refl _)
  have hc := Cells.new w 45 (cellsF fs).toArray
  refine (put_L hi id hw h1 _ fs (fun W hW => flds_new w.heap.size fs.length ((hW.same _ hc.lt (fun e => ?_)).trans hc) rfl hl hm) hn hf).mono ?_
  · unfold OfIdx at e
    rw [bareT_lt hc.lt, bareT_ge (Nat.le_refl _)] at e
    exact e rfl
  · rintro e w' ⟨rfl, T', _, hi', ho⟩
    exact ⟨rfl, T', hi', (hb.mono h.size).trans (hi.only (T' := T') ho)⟩
theorem nums_new (w : World) (zs : List Int) (hl : zs.length ≤ 1000) : Nums (w.alloc (.cells (zs.map encZ).toArray 3)) (.slice (some ⟨w.heap.size, 0, none⟩) zs.length zs.length) zs :=
  Nums.row (base := 0) ⟨by simp, .inr ⟨w.heap.size, zs.length, _, rfl, Nat.zero_le _, Cells.new w _ _, Nat.le_refl _, by unfold maxLen; omega, by simp, by simp [List.take_of_length_le]⟩⟩
theorem strs_new (w : World) (ss : List (List UInt8)) (hl : ss.length ≤ 1000) : Strs (w.alloc (.cells (ss.map encStr).toArray 9)) (.slice (some ⟨w.heap.size, 0, none⟩) ss.length ss.length) (ss.map B) :=
  strs_row (base := 0) ⟨by simp, .inr ⟨w.heap.size, ss.length, _, rfl, Nat.zero_le _, Cells.new w _ _, Nat.le_refl _, by unfold maxLen; omega, by simp, by simp [List.take_of_length_le]⟩⟩
def f8a : List (List UInt8 × List UInt8) := [([65], [120]), ([65], [121])]
def f8b : List (List UInt8 × List UInt8) := [([65], [120])]
def r8 : List Sz := [(1, f8a), (2, f8b)]
theorem r8_is : putZ (putZ [] 1 f8a) 2 f8b = r8 := by decide
theorem f8 (i : Int) : fOf r8 [65] [120] i = if i = 1 then 1 else if i = 2 then 1 else 0 := by
  show (if i = (1 : Int) then cntF [65] [120] f8a else 0) + ((if i = (2 : Int) then cntF [65] [120] f8b else 0) + 0) = _
  rw [show cntF [65] [120] f8a = 1 by decide, show cntF [65] [120] f8b = 1 by decide]
  split
  · rename_i h; subst h; rfl
  · rename_i h; simp
set_option maxRecDepth 100000 in
set_option maxHeartbeats 4000000 in
theorem idxAlive (w : World) : Calls Try.prog 5 #[] w fun e w' => e = .returned (.bool true) ∧ Below w.heap.size w w' := by
  have NW := Lib.hid (new_L w)
  go_enter Try.func5, Try.ntmps5
  go_wp2_with fail
  refine NW.out.mono ?_
  rintro e w1 ⟨rfl, T, hi, hb⟩
  obtain ⟨x, hx⟩ : ∃ x, x = w.heap.size + 2 := ⟨_, rfl⟩
  rw [← hx] at hi ⊢
  have HI := Lib.hid hi
  have HB := Lib.hid hb
  have HX := Lib.hid hx
  clear hi hb hx NW
  go_wp2_with fail
  have P1 := Lib.hid (put_new HI.out 1 (by decide) (by decide) f8a (by decide) (by decide) (by decide) (by decide))
  refine P1.out.mono ?_
  rintro e w2 ⟨rfl, T2, hi, hb⟩
  have HI2 := Lib.hid hi
  have HB2 := Lib.hid (HB.out.trans hb)
  clear hi hb P1 HI HB
  have hsz2 : Hid (w.heap.size ≤ w2.heap.size) := HB2.out.size
  go_wp2_with fail
  have P2 := Lib.hid (put_new HI2.out 2 (by decide) (by decide) f8b (by decide) (by decide) (by decide) (by decide))
  refine P2.out.mono ?_
  rintro e w3 ⟨rfl, T3, hi, hb⟩
  rw [r8_is] at hi
  have HI3 := Lib.hid hi
  have HB3 := Lib.hid (HB2.out.trans hb)
  clear hi hb P2 HI2 HB2
  go_wp2_with fail
  have EQ := Lib.hid (idxEqual HI3.out.at_ (by decide) ⟨#[65]⟩ ⟨#[120]⟩ (by decide) (by decide))
  refine EQ.out.mono ?_
  rintro e w4 ⟨v, ss, rfl, hn, hm, ha⟩
  have e4 : sortZ ss = [1, 2] := ints_of hn (by decide) (fun i => by
    rw [hm]
    show 0 < fOf r8 [65] [120] i ↔ _
    rw [f8]
    by_cases h1 : i = 1
    · subst h1; decide
    · by_cases h2 : i = 2
      · subst h2; decide
      · rw [if_neg h1, if_neg h2]; simp [h1, h2])
  have N4 := ha.nums
  rw [e4] at N4
  obtain ⟨va, vc, rfl, hvc, hcell⟩ := _root_.id N4
  have HN := Lib.hid N4
  have HB4 := Lib.hid (HB3.out.trans (ha.2.2.mono HB3.out.size))
  have HI4 := Lib.hid (HI3.out.below ha.2.2 (Nat.le_refl _))
  clear hn hm ha e4 N4 EQ hcell HI3 HB3
  have hsz4 : Hid (w.heap.size ≤ w4.heap.size) := HB4.out.size
  go_wp2_with fail
  have IA := Lib.hid (ints_any _ _ [1, 2] [1, 2] _ (HN.out.below ((Below.refl w4.heap.size w4).alloc (Nat.le_refl _) (.cells (([1, 2] : List Int).map encZ).toArray 3)) (Nat.le_refl _)) (nums_new w4 [1, 2] (by decide)) (by decide) (by decide))
  have hb5 : Below w4.heap.size w4 (w4.alloc (.cells (([1, 2] : List Int).map encZ).toArray 3)) := (Below.refl _ _).alloc (Nat.le_refl _) _
  have HB5 := Lib.hid (HB4.out.trans (hb5.mono HB4.out.size))
  have HI5 := Lib.hid (HI4.out.below hb5 (Nat.le_refl _))
  clear hb5 HB4 HI4 HN
  refine IA.out.mono ?_
  rintro e w5 ⟨rfl, hb⟩
  have HB6 := Lib.hid (HB5.out.trans (hb.mono HB5.out.size))
  have HI6 := Lib.hid (HI5.out.below hb (Nat.le_refl _))
  clear hb IA HB5 HI5
  go_wp2_with fail
  have VA := Lib.hid (idxValues HI6.out.at_ (by decide) ⟨#[65]⟩ (by decide))
  refine VA.out.mono ?_
  rintro e w6 ⟨v, ss, rfl, hn, hm, ha⟩
  have e4 : sortS ss = [[120], [121]] := strs_of hn (by decide) (by decide) (fun s => by
    rw [hm]
    show (∃ i, 0 < fOf r8 [65] s i) ↔ _
    constructor
    · rintro ⟨i, hi⟩
      obtain ⟨st, h1, h2, h3⟩ := fOf_pos hi
      rcases List.mem_cons.1 h1 with rfl | h1
      · rcases List.mem_cons.1 h3 with h3 | h3
        · cases h3; decide
        · rw [List.mem_singleton.1 h3 |> fun q => (Prod.mk.inj q).2]; decide
      · rw [List.mem_singleton] at h1
        subst h1
        rw [List.mem_singleton.1 h3 |> fun q => (Prod.mk.inj q).2]; decide
    · intro h
      rcases List.mem_cons.1 h with rfl | h
      · exact ⟨1, by decide⟩
      · rw [List.mem_singleton.1 h]; exact ⟨1, by decide⟩)
  have N4 := ha.strs
  rw [e4] at N4
  obtain ⟨ua, uc, rfl, huc, hcell⟩ := _root_.id N4
  have HN := Lib.hid N4
  have HB7 := Lib.hid (HB6.out.trans (ha.2.2.mono HB6.out.size))
  have HI7 := Lib.hid (HI6.out.below ha.2.2 (Nat.le_refl _))
  clear hn hm ha e4 N4 VA hcell HI6 HB6
  go_wp2_with fail
  have TA := Lib.hid (texts_any _ _ _ _ _ (HN.out.below ((Below.refl w6.heap.size w6).alloc (Nat.le_refl _) (.cells (([[120], [121]] : List (List UInt8)).map encStr).toArray 9)) (Nat.le_refl _)) (strs_new w6 [[120], [121]] (by decide)) (by decide) (by decide))
  have hb5 : Below w6.heap.size w6 (w6.alloc (.cells (([[120], [121]] : List (List UInt8)).map encStr).toArray 9)) := (Below.refl _ _).alloc (Nat.le_refl _) _
  have HB8 := Lib.hid (HB7.out.trans (hb5.mono HB7.out.size))
  have HI8 := Lib.hid (HI7.out.below hb5 (Nat.le_refl _))
  clear hb5 HB7 HI7 HN
  refine TA.out.mono ?_
  rintro e w7 ⟨rfl, hb⟩
  have HB9 := Lib.hid (HB8.out.trans (hb.mono HB8.out.size))
  have HI9 := Lib.hid (HI8.out.below hb (Nat.le_refl _))
  clear hb TA HB8 HI8
  rw [decide_eq_true (rfl : ([[120], [121]] : List (List UInt8)).map B = [[120], [121]].map B)]
  go_wp2_with fail
  have hT : ∀ ss : List Int, ss.Nodup → (ss.map (fOf r8 [65] [120])).sum ≤ 1000000 := fun ss h => Nat.le_trans (fOf_sum [65] [120] r8 ss h) (by decide)
  have CO := Lib.hid (idxCount HI9.out.at_ ⟨#[65]⟩ ⟨#[120]⟩ (by decide) (by decide) hT)
  refine CO.out.mono ?_
  rintro e w8 ⟨ss, he, hn, hm, ho⟩
  have e9 : (ss.map (fOf r8 [65] [120])).sum = 2 := by
    have hp : ss.Perm [1, 2] := (List.perm_ext_iff_of_nodup hn (by decide)).2 (fun i => by
      rw [hm]
      show 0 < fOf r8 [65] [120] i ↔ _
      rw [f8]
      by_cases h1 : i = 1
      · subst h1; decide
      · by_cases h2 : i = 2
        · subst h2; decide
        · rw [if_neg h1, if_neg h2]; simp [h1, h2])
    rw [sum_perm _ hp]
    decide
  have e10 : (((ss.map (fOf r8 [65] [120])).sum : Nat) : Int) = 2 := by rw [e9]; rfl
  have HB10 := Lib.hid (HB9.out.trans (ho.to_below HB9.out.size (fun _ _ h => h)))
  obtain rfl : e = .returned (.int .i64 2) := he.trans (congrArg (fun z : Int => Ending.returned (.int .i64 z)) e10)
  clear hn hm ho e9 CO hT he
  go_wp2_with fail
  go_ret
  exact ⟨rfl, HB10.out⟩
end Go.Proofs.Ytiebbgbcojgeoaa

namespace Go.Proofs.Ytiebbgbcojgeoaa
open Go.RowKit Go.Maps Go.Sort Go.Shelf
attribute [local go_sem] Oper.semAt_some

def FS2 (w2 : World) : Value → Sz → Prop := fun x s => Flds w2 x s.2
theorem fs2_form {w2 : World} : ∀ x s, FS2 w2 x s → ∃ a c, x = .slice a s.2.length c := fun x s h => by
  obtain ⟨A, c, e, _⟩ := h
  exact ⟨A, c, e⟩
theorem SzP.below {F : Value → Sz → Prop} {w w' : World} {v : Value} {rs : List Sz} {n : Nat} (h : SzP F w v rs) (hb : Below n w w') (hn : w.heap.size ≤ n) : SzP F w' v rs := by
  obtain ⟨A, cap, hv, hle, hc⟩ := h
  refine ⟨A, cap, hv, hle, fun i s hi => ?_⟩
  obtain ⟨b, off, fv, hA, hlt, c0, c1, hf⟩ := hc i s hi
  have hlt' := Nat.lt_of_lt_of_le hlt hn
  exact ⟨b, off, fv, hA, Nat.lt_of_lt_of_le hlt hb.size, (hb.cell (p := ⟨b, off + i * 2, none⟩) hlt').trans c0, (hb.cell (p := ⟨b, off + i * 2 + 1, none⟩) hlt').trans c1, hf⟩
theorem SzP.only {F : Value → Sz → Prop} {w w' : World} {v : Value} {rs : List Sz} {S : Nat → Prop} (h : SzP F w v rs) (g : Only S w w') (hs : ∀ b off n c, v = .slice (some ⟨b, off, none⟩) n c → rs ≠ [] → ¬ S b) : SzP F w' v rs := by
  obtain ⟨A, cap, hv, hle, hc⟩ := h
  refine ⟨A, cap, hv, hle, fun i s hi => ?_⟩
  obtain ⟨b, off, fv, hA, hlt, c0, c1, hf⟩ := hc i s hi
  have hb : w'.heap[b]? = w.heap[b]? := g.same b hlt (hs b off _ _ (by rw [hv, hA]) (fun e => by rw [e] at hi; simp at hi))
  exact ⟨b, off, fv, hA, Nat.lt_of_lt_of_le hlt g.size, (World.cell?_of_block (w := w) (a := ⟨b, off + i * 2, none⟩) hb).trans c0, (World.cell?_of_block (w := w) (a := ⟨b, off + i * 2 + 1, none⟩) hb).trans c1, hf⟩
structure PlayR (w2 wr : World) (mv : Value) (T : Nat → Tag) (x kb yb n : Nat) (ms : List Sz) : Prop where
  idx : IdxL w2.heap.size wr T x kb yb n ms
  sz : SzP (FS2 w2) wr mv ms
  free : ∀ b off n c, mv = .slice (some ⟨b, off, none⟩) n c → ms ≠ [] → T b = (0, [], [])
  sorted : ms.Pairwise fun a b => a.1 < b.1
theorem PlayR.lt {w2 wr : World} {mv : Value} {T : Nat → Tag} {x kb yb n : Nat} {ms : List Sz} (h : PlayR w2 wr mv T x kb yb n ms) : ∀ b off n c, mv = .slice (some ⟨b, off, none⟩) n c → ms ≠ [] → b < wr.heap.size := by
  intro b off n' c e hne
  obtain ⟨A, cap, hv, hle, hc⟩ := h.sz
  obtain ⟨s, hs⟩ : ∃ s, ms[0]? = some s := ⟨_, List.getElem?_eq_getElem (List.length_pos_iff.2 hne)⟩
  obtain ⟨b', off', fv, hA, hlt, _⟩ := hc 0 s hs
  rw [hv, hA] at e
  cases e
  exact hlt
theorem PlayR.below {w2 wr W : World} {mv : Value} {T : Nat → Tag} {x kb yb n : Nat} {ms : List Sz} (h : PlayR w2 wr mv T x kb yb n ms) (hb : Below wr.heap.size wr W) : PlayR w2 W mv T x kb yb n ms :=
  ⟨h.idx.below hb (Nat.le_refl _), h.sz.below hb (Nat.le_refl _), h.free, h.sorted⟩
theorem PlayR.bare {w2 wr : World} {mv : Value} {T : Nat → Tag} {x kb yb n : Nat} {ms : List Sz} (h : PlayR w2 wr mv T x kb yb n ms) : PlayR w2 wr mv (bareT T wr.heap.size) x kb yb n ms :=
  ⟨h.idx.bareT, h.sz, fun b off n c e hne => by rw [bareT_lt (h.lt b off n c e hne)]; exact h.free b off n c e hne, h.sorted⟩
theorem PlayR.szd {w2 wr : World} {mv : Value} {T : Nat → Tag} {x kb yb n : Nat} {ms : List Sz} (h : PlayR w2 wr mv T x kb yb n ms) (hb : Below w2.heap.size w2 wr) : SzD wr mv ms := h.sz.szd fun x s q => Flds.below q hb (Nat.le_refl _)
theorem IdxL.same {S : Nat} {w : World} {T : Nat → Tag} {x kb yb n : Nat} {rs rs' : List Sz} (h : IdxL S w T x kb yb n rs) (e1 : idsOf rs = idsOf rs') (e2 : fOf rs = fOf rs') : IdxL S w T x kb yb n rs' :=
  ⟨by rw [← e1, ← e2]; exact h.at_, h.low, h.size, h.n⟩

theorem insZ_split : ∀ (l : List Sz) (s : Sz), ∃ a b, l = a ++ b ∧ insZ l s = a ++ s :: b
  | [], s => ⟨[], [], rfl, rfl⟩
  | a :: l, s => by
    unfold insZ
    split
    · exact ⟨[], a :: l, rfl, rfl⟩
    · obtain ⟨x, y, e1, e2⟩ := insZ_split l s
      exact ⟨a :: x, y, by rw [e1]; rfl, by rw [e2]; rfl⟩
theorem insZ_ids (l : List Sz) (s : Sz) : idsOf (l ++ [s]) = idsOf (insZ l s) := by
  obtain ⟨a, b, e1, e2⟩ := insZ_split l s
  rw [e2, e1]
  funext i
  rw [idsOf_append, idsOf_append, idsOf_append, idsOf_cons, idsOf_cons]
  show (idsOf a i || idsOf b i || (s.1 == i || false)) = (idsOf a i || (s.1 == i || idsOf b i))
  cases idsOf a i <;> cases idsOf b i <;> cases (s.1 == i) <;> rfl
theorem insZ_f (l : List Sz) (s : Sz) : fOf (l ++ [s]) = fOf (insZ l s) := by
  obtain ⟨a, b, e1, e2⟩ := insZ_split l s
  rw [e2, e1]
  funext k v i
  rw [fOf_append, fOf_append, fOf_append, fOf, fOf, fOf]; omega
theorem insZ_len (l : List Sz) (s : Sz) : (insZ l s).length = l.length + 1 := by
  obtain ⟨a, b, e1, e2⟩ := insZ_split l s
  rw [e2, e1]; simp; omega
theorem insZ_num (l : List Sz) (s : Sz) : numF (insZ l s) = numF l + s.2.length := by
  obtain ⟨a, b, e1, e2⟩ := insZ_split l s
  rw [e2, e1]; unfold numF; simp; omega
theorem insZ_mem (l : List Sz) (s x : Sz) (h : x ∈ insZ l s) : x = s ∨ x ∈ l := by
  obtain ⟨a, b, e1, e2⟩ := insZ_split l s
  rw [e2] at h
  rw [e1, List.mem_append]
  rcases List.mem_append.1 h with h | h
  · exact .inr (.inl h)
  · rcases List.mem_cons.1 h with h | h
    · exact .inl h
    · exact .inr (.inr h)
theorem insZ_sorted : ∀ (l : List Sz) (s : Sz), l.Pairwise (fun a b => a.1 < b.1) → (∀ a ∈ l, a.1 ≠ s.1) → (insZ l s).Pairwise fun a b => a.1 < b.1
  | [], s, _, _ => List.pairwise_singleton _ _
  | a :: l, s, h, hn => by
    have hc := List.pairwise_cons.1 h
    have h1 := hn a List.mem_cons_self
    unfold insZ
    split
    · rename_i q
      refine List.pairwise_cons.2 ⟨fun x hx => ?_, h⟩
      rcases List.mem_cons.1 hx with e | e
      · rw [e]; exact q
      · have := hc.1 x e; omega
    · rename_i q
      refine List.pairwise_cons.2 ⟨fun x hx => ?_, insZ_sorted l s hc.2 fun a ha => hn a (List.mem_cons_of_mem _ ha)⟩
      rcases insZ_mem l s x hx with e | e
      · rw [e]; omega
      · exact hc.1 x e
theorem dropZ_sorted {l : List Sz} (h : l.Pairwise fun a b => a.1 < b.1) (id : Int) : (dropZ l id).Pairwise fun a b => a.1 < b.1 := h.sublist List.filter_sublist
theorem dropZ_ne (l : List Sz) (id : Int) : ∀ a ∈ dropZ l id, a.1 ≠ id := fun a ha => by simpa using (List.mem_filter.1 ha).2
theorem dropZ_num : ∀ (l : List Sz) (id : Int), numF (dropZ l id) ≤ numF l
  | [], _ => Nat.le_refl _
  | a :: l, id => by
    have ih := dropZ_num l id
    unfold dropZ numF at ih ⊢
    rw [List.filter_cons]
    split <;> simp only [List.map_cons, List.sum_cons] <;> omega
theorem drop_less (l : List Sz) (id : Int) : decide ((dropZ l id).length < l.length) = idsOf l id := by
  rw [Bool.eq_iff_iff, decide_eq_true_eq, idsOf_iff, List.mem_map]
  unfold dropZ
  rw [List.length_filter_lt_length_iff_exists]
  constructor
  · rintro ⟨x, h1, h2⟩; exact ⟨x, h1, by simpa using h2⟩
  · rintro ⟨x, h1, h2⟩; exact ⟨x, h1, by simpa using h2⟩
theorem spoils_only8 {P : Nat → Prop} {w w' : World} (h : Spoils P w w') : Only P w w' := ⟨h.os, h.tape, h.output, h.size, fun r hr hn => h.block hr hn⟩
theorem mine_block8 {lo n : Nat} {w : World} {v : Value} {xs : List Value} (h : w.ownsRow lo 45 2 v n xs) : MineP w (fun r => v.ownBlock = some r) v n := by
  rcases h.2 with ⟨rfl, hn⟩ | ⟨g, cap, cur, rfl, hb, hc, hle, _, hs, _⟩
  · exact .inl ⟨hn, none, 0, rfl⟩
  · exact .inr ⟨g, cap, cur, rfl, hle, rfl, hc, by rw [hs]; exact Nat.mul_le_mul_right 2 hle⟩
/-- The document's Drop, then the program's. -/
theorem play_drop {w2 W : World} {mv : Value} {T : Nat → Tag} {x kb yb n : Nat} {ms : List Sz} (h : PlayR w2 W mv T x kb yb n ms) (id : Int) (hw : (Lit.int .i64 id).wf = true) (hl : ms.length ≤ 100000) :
    Calls Try.prog 8 #[mv, .int .i64 id] W fun e w5 => ∃ A c, e = .returned (.slice A (dropZ ms id).length c) ∧ Below W.heap.size W w5 ∧
      Calls Try.prog 9 #[.pointer (some ⟨x, 0, none⟩), .int .i64 id] w5 fun e w6 => e = .returned (.bool (idsOf ms id)) ∧ (∃ T', PlayR w2 w6 (.slice A (dropZ ms id).length c) T' x kb yb n (dropZ ms id)) ∧ Below w2.heap.size w5 w6 ∧ ∀ b, b < W.heap.size → T b = (0, [], []) → w6.heap[b]? = w5.heap[b]? := by
  refine (refDrop_any (FS2 w2) fs2_form ms id mv W h.sz hl).mono ?_
  rintro e w5 ⟨u, fvs, rfl, ha⟩
  obtain ⟨A, c, rfl⟩ := ha.acc.form
  refine ⟨A, c, rfl, ha.acc.below, ?_⟩
  have hi := h.bare.idx.below ha.acc.below (Nat.le_refl _)
  refine (drop_L hi id hw).mono ?_
  rintro e w6 ⟨rfl, T', hT, h6, ho⟩
  have hf : ∀ b off n c', (Value.slice A (dropZ ms id).length c) = .slice (some ⟨b, off, none⟩) n c' → dropZ ms id ≠ [] → b < w5.heap.size ∧ bareT T W.heap.size b = (0, [], []) := fun b off n c' e hne => by
    refine ⟨?_, bareT_ge (ha.new b off n c' e)⟩
    obtain ⟨A', cap, hv, hle, hc⟩ := ha.szd
    obtain ⟨s, hs⟩ : ∃ s, (dropZ ms id)[0]? = some s := ⟨_, List.getElem?_eq_getElem (List.length_pos_iff.2 hne)⟩
    obtain ⟨b', off', fv, hA, hlt, _⟩ := hc 0 s hs
    rw [hv, hA] at e
    cases e
    exact hlt
  refine ⟨rfl, ⟨T', h6, ha.szd.only ho fun b off n c' e hne q => ?_, fun b off n c' e hne => ?_, dropZ_sorted h.sorted id⟩, hi.only (T' := T') ho, fun b hb ht => ho.same b (Nat.lt_of_lt_of_le hb ha.acc.below.size) fun q => by unfold OfIdx at q; rw [bareT_lt hb, ht] at q; exact q rfl⟩
  · unfold OfIdx at q; rw [(hf b off n c' e hne).2] at q; exact q rfl
  · rw [hT b (hf b off n c' e hne).1]; exact (hf b off n c' e hne).2
/-- What holds behind both puts: the fields' copy lies apart. -/
structure PutR (w2 W W3 : World) (y f : Value) (x kb yb n : Nat) (fs : List (List UInt8 × List UInt8)) (ms : List Sz) (T : Nat → Tag) : Prop where
  play : PlayR w2 W3 y T x kb yb n ms
  row : W3.ownsRow W.heap.size 45 2 f fs.length (cellsF fs)
  tag : ∀ r, f.ownBlock = some r → T r = (0, [], [])
  ne : ∀ r, f.ownBlock = some r → ∀ b off n c, y = .slice (some ⟨b, off, none⟩) n c → ms ≠ [] → b ≠ r
theorem PutR.spoil {w2 W W3 W4 : World} {y f : Value} {x kb yb n : Nat} {fs : List (List UInt8 × List UInt8)} {ms : List Sz} {T : Nat → Tag} (h : PutR w2 W W3 y f x kb yb n fs ms T) (hs : Spoils (fun r => f.ownBlock = some r) W3 W4) : PlayR w2 W4 y T x kb yb n ms := by
  have ho := spoils_only8 hs
  have hd : ∀ c, OfIdx T c → ¬ f.ownBlock = some c := fun c hc e => by unfold OfIdx at hc; rw [h.tag c e] at hc; exact hc rfl
  exact ⟨⟨h.play.idx.at_.turn ho (fun _ _ => rfl) hd, h.play.idx.low, Nat.le_trans h.play.idx.size ho.size, h.play.idx.n⟩, h.play.sz.only ho fun b off n c e hne q => h.ne b q b off n c e hne rfl, h.play.free, h.play.sorted⟩
theorem PutR.below {w2 W W3 W4 : World} {y f : Value} {x kb yb n : Nat} {fs : List (List UInt8 × List UInt8)} {ms : List Sz} {T : Nat → Tag} (h : PutR w2 W W3 y f x kb yb n fs ms T) (hb : Below W3.heap.size W3 W4) : PutR w2 W W4 y f x kb yb n fs ms T :=
  ⟨h.play.below hb, row_belowZ h.row hb (Nat.le_refl _), h.tag, h.ne⟩
theorem play_put {w2 W W1 : World} {mv sv f : Value} {T : Nat → Tag} {x kb yb n : Nat} {ms : List Sz} {fs : List (List UInt8 × List UInt8)} (h : PlayR w2 W mv T x kb yb n ms) (id : Int) (hw : (Lit.int .i64 id).wf = true) (h1 : 1 ≤ id) (hl : ms.length ≤ 100000) (hsv : Flds w2 sv fs)
    (hrow : W1.ownsRow W.heap.size 45 2 f fs.length (cellsF fs)) (hb1 : Below W.heap.size W W1) (hn : n + 1 + 2 * fs.length ≤ 800000) (hf : ∀ f ∈ fs, f.1.length ≤ maxLen ∧ f.2.length ≤ maxLen) :
    Calls Try.prog 11 #[.pointer (some ⟨x, 0, none⟩), .int .i64 id, f] W1 fun e W2 => e = .returned .nilIface ∧ Below w2.heap.size W1 W2 ∧ (∀ b, b < W.heap.size → T b = (0, [], []) → W2.heap[b]? = W1.heap[b]?) ∧
      Calls Try.prog 12 #[mv, .int .i64 id, sv] W2 fun e W3 => ∃ y, e = .returned (.tuple #[y, .int .i64 0]) ∧ Below W2.heap.size W2 W3 ∧ ∃ T', PutR w2 W W3 y f x kb yb (n + 1 + 2 * fs.length) fs (insZ (dropZ ms id) (id, fs)) T' := by
  have hB := h.bare
  have hi := hB.idx.below hb1 (Nat.le_refl _)
  have hsz := hB.sz.below hb1 (Nat.le_refl _)
  have hfb : ∀ r, f.ownBlock = some r → r < W1.heap.size ∧ W.heap.size ≤ r ∧ bareT T W.heap.size r = (0, [], []) := fun r e => ⟨(hrow.lt r e).2, (hrow.lt r e).1, bareT_ge (hrow.lt r e).1⟩
  refine (put_L hi id hw h1 f fs (fun X hX => (flds_of_own hrow).only hX fun _ r e q => ?_) hn hf).mono ?_
  · unfold OfIdx at q
    rw [bareT_lt (hfb r e).1, (hfb r e).2.2] at q
    exact q rfl
  · rintro e W2 ⟨rfl, T', hT, h2, ho⟩
    have hfx : ∀ b off n c, mv = .slice (some ⟨b, off, none⟩) n c → ms ≠ [] → b < W.heap.size ∧ bareT T W.heap.size b = (0, [], []) := fun b off n c e hne => ⟨h.lt b off n c e hne, hB.free b off n c e hne⟩
    have hs2 : SzP (FS2 w2) W2 mv ms := hsz.only ho fun b off n c e hne q => by unfold OfIdx at q; rw [(hfx b off n c e hne).2] at q; exact q rfl
    have hr2 : W2.ownsRow W.heap.size 45 2 f fs.length (cellsF fs) := row_only hrow ho fun r e q => by unfold OfIdx at q; rw [(hfb r e).2.2] at q; exact q rfl
    refine ⟨rfl, hi.only (T' := T') ho, fun b hb ht => ho.same b (Nat.lt_of_lt_of_le hb hb1.size) fun q => by unfold OfIdx at q; rw [bareT_lt hb, ht] at q; exact q rfl, ?_⟩
    refine (refPut_any (FS2 w2) fs2_form ms id fs mv sv W2 hs2 hsv hl h1).mono ?_
    rintro e W3 ⟨y, rfl, hy, hnew, hb3⟩
    refine ⟨y, rfl, hb3, bareT T' W2.heap.size, ⟨⟨?_, hy, fun b off n c e _ => bareT_ge (hnew b off n c e), insZ_sorted _ _ (dropZ_sorted h.sorted id) (dropZ_ne ms id)⟩, row_belowZ hr2 hb3 (Nat.le_refl _), fun r e => ?_, fun r e b off n c q _ => ?_⟩⟩
    · exact (h2.bareT.below hb3 (Nat.le_refl _)).same (insZ_ids (dropZ ms id) (id, fs)) (insZ_f (dropZ ms id) (id, fs))
    · rw [bareT_lt (Nat.lt_of_lt_of_le (hfb r e).1 ho.size), hT r (hfb r e).1]; exact (hfb r e).2.2
    · have := hnew b off n c q
      have := (hfb r e).1
      have := ho.size
      omega
theorem play_low {w2 W W1 : World} {mv f : Value} {T : Nat → Tag} {x kb yb n : Nat} {ms : List Sz} {fs : List (List UInt8 × List UInt8)} (h : PlayR w2 W mv T x kb yb n ms)
    (hrow : W1.ownsRow W.heap.size 45 2 f fs.length (cellsF fs)) (hb1 : Below W.heap.size W W1) : PutR w2 W W1 mv f x kb yb n fs ms (bareT T W.heap.size) := by
  have hfb : ∀ r, f.ownBlock = some r → r < W1.heap.size ∧ W.heap.size ≤ r ∧ bareT T W.heap.size r = (0, [], []) := fun r e => ⟨(hrow.lt r e).2, (hrow.lt r e).1, bareT_ge (hrow.lt r e).1⟩
  exact ⟨h.bare.below hb1, hrow, fun r e => (hfb r e).2.2, fun r e b off n c q hne => by have := h.lt b off n c q hne; have := (hfb r e).2.1; omega⟩
end Go.Proofs.Ytiebbgbcojgeoaa