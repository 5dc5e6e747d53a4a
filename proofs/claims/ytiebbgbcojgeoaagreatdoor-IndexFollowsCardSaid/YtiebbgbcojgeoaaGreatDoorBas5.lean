/- Texts put together: IR, IS, IT, IO, IP. -/
import Derived.Lib.RowBridge
import Derived.Shelf.SlicesG.CompactI
import Derived.Laws.Cover1
import Derived.Test.YtiebbgbcojgeoaaGreatDoorBas3
import Derived.Test.YtiebbgbcojgeoaaGreatDoorBas4
set_option linter.unusedVariables false
namespace Go.Proofs.YtiebbgbcojgeoaaGreatDoor
open Go.RowKit Go.Maps Go.Sort Go.Shelf

def sortZ (xs : List Int) : List Int := xs.mergeSort fun x y => decide (x ≤ y)
theorem sortZ_perm (xs : List Int) : (sortZ xs).Perm xs := List.mergeSort_perm _ _
theorem sortZ_le (xs : List Int) : (sortZ xs).Pairwise fun x y => x ≤ y := by
  have := List.pairwise_mergeSort (le := fun x y : Int => decide (x ≤ y)) (fun a b c h1 h2 => by simp at h1 h2 ⊢; omega) (fun a b => by simp; omega) xs
  exact this.imp fun h => by simpa using h
theorem sortZ_same {xs : List Int} (h : xs.Pairwise fun x y => x ≤ y) : sortZ xs = xs := List.mergeSort_of_pairwise (h.imp fun h => by simpa using h)
theorem sortZ_eq {xs ys : List Int} (h : xs.Perm ys) : sortZ xs = sortZ ys :=
  List.Perm.eq_of_pairwise (le := fun x y : Int => x ≤ y) (fun a b _ _ h1 h2 => by omega) (sortZ_le xs) (sortZ_le ys) (((sortZ_perm xs).trans h).trans (sortZ_perm ys).symm)
theorem compact_mem (zs : List Int) (x : Int) : x ∈ Lib.compact zs ↔ x ∈ zs := by
  unfold Lib.compact Lib.compactUpTo
  rw [List.mem_map]
  constructor
  · rintro ⟨j, hj, rfl⟩
    have h1 := List.mem_range.1 (List.mem_filter.1 hj).1
    rw [getElem!_pos zs.toArray j (by simpa using h1)]
    simp
  · intro hx
    obtain ⟨j, hj⟩ : ∃ j, zs.idxOf x = j := ⟨_, rfl⟩
    have hlt : j < zs.length := by rw [← hj]; exact List.idxOf_lt_length_of_mem hx
    have hat : zs[j] = x := by subst hj; exact List.getElem_idxOf _
    refine ⟨j, List.mem_filter.2 ⟨List.mem_range.2 hlt, ?_⟩, by rw [getElem!_pos zs.toArray j (by simpa using hlt)]; simpa using hat⟩
    unfold Lib.keeps
    simp only [decide_eq_true_eq]
    by_cases h0 : j = 0
    · exact .inl h0
    · refine .inr ?_
      rw [getElem!_pos zs.toArray j (by simpa using hlt), getElem!_pos zs.toArray (j - 1) (by simp; omega)]
      simp only [List.getElem_toArray, ne_eq]
      intro e
      have : zs[j - 1] = x := e.symm.trans hat
      have hm : x ∈ zs.take j := by rw [← this]; exact List.mem_take_iff_getElem.2 ⟨j - 1, by omega, rfl⟩
      have := List.idxOf_lt_length_of_mem hm
      have h5 : (zs.take j).idxOf x = zs.idxOf x := by
        have := List.idxOf_append (l₁ := zs.take j) (l₂ := zs.drop j) (a := x)
        rw [List.take_append_drop, if_pos hm] at this
        exact this.symm
      rw [h5, hj, List.length_take] at this
      omega
theorem compact_lt {zs : List Int} (h : zs.Pairwise fun x y => x ≤ y) : (Lib.compact zs).Pairwise fun x y => x < y := by
  unfold Lib.compact Lib.compactUpTo
  refine List.pairwise_map.2 ?_
  refine (List.pairwise_lt_range.filter _).imp_of_mem ?_
  intro i j hi hj hij
  have h1 := List.mem_range.1 (List.mem_filter.1 hi).1
  have h2 := List.mem_range.1 (List.mem_filter.1 hj).1
  have h3 := (List.mem_filter.1 hj).2
  unfold Lib.keeps at h3
  simp only [decide_eq_true_eq] at h3
  rw [getElem!_pos zs.toArray i (by simpa using h1), getElem!_pos zs.toArray j (by simpa using h2)]
  rw [getElem!_pos zs.toArray j (by simpa using h2), getElem!_pos zs.toArray (j - 1) (by simp; omega)] at h3
  simp only [List.getElem_toArray, ne_eq] at h3 ⊢
  have h4 : zs[j] ≠ zs[j - 1] := by
    rcases h3 with h3 | h3
    · omega
    · exact h3
  have h5 : zs[j - 1] ≤ zs[j] := List.pairwise_iff_getElem.1 h (j - 1) j (by omega) h2 (by omega)
  have h6 : zs[i] ≤ zs[j - 1] := by
    by_cases e : i = j - 1
    · subst e; exact Int.le_refl _
    · exact List.pairwise_iff_getElem.1 h i (j - 1) h1 (by omega) (by omega)
  omega
theorem compact_nodup {zs : List Int} (h : zs.Pairwise fun x y => x ≤ y) : (Lib.compact zs).Nodup := (compact_lt h).imp fun h e => by omega
theorem compact_sorted {zs : List Int} (h : zs.Pairwise fun x y => x ≤ y) : (Lib.compact zs).Pairwise fun x y => x ≤ y := (compact_lt h).imp fun h => by omega
theorem ownsRow_cut {W : World} {base g cap n m : Nat} {e : TypeId} {xs : List Value} (h : W.ownsRow base e 1 (.slice (some ⟨g, 0, none⟩) n cap) n xs) (hm : m ≤ n) : W.ownsRow base e 1 (.slice (some ⟨g, 0, none⟩) m cap) m (xs.take m) := by
  have h1 := h.1
  refine ⟨by rw [List.length_take]; omega, ?_⟩
  rcases h.2 with ⟨q, _⟩ | ⟨g', cap', cur, q, hb, hg, r1, r2, r3, r4⟩
  · cases q
  · cases q
    refine .inr ⟨g, cap, cur, rfl, hb, hg, by omega, r2, r3, ?_⟩
    rw [← r4, List.take_take]
    congr 1; omega
theorem sortI_row (lo : Nat) (v : Value) (xs : List Int) (w : World) (hv : w.ownsRow lo 3 1 v xs.length (xs.map encZ)) (hn : xs.length < 4611686018427387904) :
    Calls Tryz.prog 122 #[v] w fun e w' => e = .returned (.tuple #[]) ∧ w'.ownsRow lo 3 1 v xs.length ((sortZ xs).map encZ) ∧ Only (fun r => v.ownBlock = some r) w w' := by
  rcases hv.2 with ⟨rfl, h0⟩ | ⟨g, cap, cur, rfl, hb, hg, r1, r2, r3, r4⟩
  · have : xs = [] := List.eq_nil_of_length_eq_zero h0
    subst this
    refine (AnyM.slices_Sort_int_none Tryz.sortI none 0 w).mono ?_
    rintro e w' ⟨rfl, rfl⟩
    exact ⟨rfl, by rw [show sortZ [] = [] from List.mergeSort_nil]; exact hv, Only.refl _ _⟩
  · have hH : Holds encZ w g 0 xs.toArray := holds_of_block_i hg (by simpa using r4)
    refine (AnyM.slices_Sort_int Tryz.sortI g 0 cap xs w hH (Array.getElem?_eq_some_iff.1 hg).1 hn).mono ?_
    rintro e w' ⟨rfl, q, os, rfl⟩
    exact ⟨rfl, ownsRow_sorted_i (ts := sortZ xs) (sortZ_perm xs).length_eq hb hg r1 r2 r3, (Only.refl _ w).grown (grownBy_sorted_i _) (fun k hk => .inl hk)⟩
theorem compI_row (lo : Nat) (v : Value) (xs : List Int) (w : World) (hv : w.ownsRow lo 3 1 v xs.length (xs.map encZ)) (hn : xs.length < 4611686018427387904) :
    Calls Tryz.prog 123 #[v] w fun e w' => ∃ u, e = .returned u ∧ w'.ownsRow lo 3 1 u (Lib.compact xs).length ((Lib.compact xs).map encZ) ∧ (u = .slice none 0 0 ↔ v = .slice none 0 0) ∧ Only (fun r => v.ownBlock = some r) w w' := by
  rcases hv.2 with ⟨rfl, h0⟩ | ⟨g, cap, cur, rfl, hb, hg, r1, r2, r3, r4⟩
  · have : xs = [] := List.eq_nil_of_length_eq_zero h0
    subst this
    refine (AnyG.slices_Compact_int_empty Tryz.compI none 0 w).mono ?_
    rintro e w' ⟨rfl, rfl⟩
    exact ⟨_, rfl, hv, Iff.rfl, Only.refl _ _⟩
  · have hH : Holds encZ w g 0 xs.toArray := holds_of_block_i hg (by simpa using r4)
    refine (AnyG.slices_Compact_int Tryz.compI g 0 cap xs w hH (by omega) r1).mono ?_
    rintro e w' ⟨rfl, q, rfl⟩
    have hle := Lib.compact_length_le xs
    have hlen : (Lib.compact xs ++ List.replicate (xs.length - (Lib.compact xs).length) 0).length = xs.length := by simp; omega
    have e0 : putRow (Value.int .i64) (Sort.ahead w q) g 0 (Lib.compact xs ++ List.replicate (xs.length - (Lib.compact xs).length) 0).toArray = grow (putRow encZ (Sort.ahead w q) g 0 (Lib.compact xs ++ List.replicate (xs.length - (Lib.compact xs).length) 0).toArray) #[] := by rw [grow_empty]
    have hrow := ownsRow_cut (ownsRow_sorted_i (w := w) (n := q) (os := #[]) (ts := Lib.compact xs ++ List.replicate (xs.length - (Lib.compact xs).length) 0) hlen hb hg r1 r2 r3) hle
    have hcut : ((Lib.compact xs ++ List.replicate (xs.length - (Lib.compact xs).length) 0).map encZ).take (Lib.compact xs).length = (Lib.compact xs).map encZ := by
      rw [List.map_append]
      have := List.take_left (l₁ := (Lib.compact xs).map encZ) (l₂ := (List.replicate (xs.length - (Lib.compact xs).length) (0 : Int)).map encZ)
      rwa [List.length_map] at this
    rw [hcut] at hrow
    refine ⟨_, rfl, by rw [e0]; exact hrow, ⟨(fun e => by cases e), (fun e => by cases e)⟩, by rw [e0]; exact (Only.refl _ w).grown (grownBy_sorted_i _) (fun k hk => .inl hk)⟩
end Go.Proofs.YtiebbgbcojgeoaaGreatDoor

namespace Go.Proofs.YtiebbgbcojgeoaaGreatDoor
open Go.RowKit Go.Maps Go.Sort Go.Shelf

/-- The numbers that have a value that is asked for. -/
def HavR (p : List UInt8 → Bool) (f : List UInt8 → Int → Nat) (w : World) (e : Ending) (w' : World) : Prop :=
  ∃ v ss, e = .returned v ∧ ss.Nodup ∧ (∀ i, i ∈ ss ↔ ∃ s, p s = true ∧ 0 < f s i) ∧ AnsI w w' v ss
/-- A row of numbers, new since w. -/
structure AllI (w W : World) (v : Value) (xs : List Int) : Prop where
  row : W.ownsRow w.heap.size 3 1 v xs.length (xs.map encZ)
  nil : v = .slice none 0 0 ↔ xs = []
  below : Below w.heap.size w W
theorem AllI.turn {w W W' : World} {v : Value} {xs : List Int} (h : AllI w W v xs) (o : Only (fun r => w.heap.size ≤ r ∧ ∃ ob : Obj, W.heap[r]? = some ob ∧ ob.isCells = false) W W') : AllI w W' v xs := by
  refine ⟨row_only h.row o (fun b hb ⟨_, ob, ho, hc⟩ => ?_), h.nil, h.below.trans (o.to_below h.below.size (fun r hr q => by omega))⟩
  obtain ⟨cur, hcur⟩ := row_cells h.row hb
  rw [ho] at hcur
  cases hcur
  cases hc
theorem ranges_same {w w' : World} {b r n : Nat} {D : DataW Unit} {left : Lit → Bool} {cnt : Nat} {R : Value → Option (DataW Unit × List MemPlace)} {k : TypeId} (h : w.ranges Tryz.prog k R b r n D left cnt) (hb : w'.heap[b]? = w.heap[b]?) (hr : w'.heap[r]? = w.heap[r]?) : w'.ranges Tryz.prog k R b r n D left cnt := by
  obtain ⟨es, clock, since, seen, c0, q1, F, hs, hD, q2, rest⟩ := h
  exact ⟨es, clock, since, seen, c0, hb.trans q1, F, hs, hD, hr.trans q2, rest⟩
theorem ranges_objs {w : World} {b r n : Nat} {D : DataW Unit} {left : Lit → Bool} {cnt : Nat} {R : Value → Option (DataW Unit × List MemPlace)} {k : TypeId} (h : w.ranges Tryz.prog k R b r n D left cnt) : (∃ o : Obj, w.heap[b]? = some o ∧ o.isCells = false) ∧ ∃ o : Obj, w.heap[r]? = some o ∧ o.isCells = false := by
  obtain ⟨es, clock, since, seen, c0, q1, F, hs, hD, q2, rest⟩ := h
  exact ⟨⟨_, q1, rfl⟩, ⟨_, q2, rfl⟩⟩
set_option maxRecDepth 100000 in
set_option maxHeartbeats 1000000 in
/-- Behind the loop: sorted, each once. -/
theorem hav_end {w W : World} {v : Value} {xs : List Int} (h : AllI w W v xs) (hlen : xs.length ≤ 1000000000000) :
    Calls Tryz.prog 122 #[v] W fun e w1 => e = .returned (.tuple #[]) ∧ Calls Tryz.prog 123 #[v] w1 fun e w2 => ∃ u, e = .returned u ∧ (Lib.compact (sortZ xs)).Nodup ∧ (∀ i, i ∈ Lib.compact (sortZ xs) ↔ i ∈ xs) ∧ AnsI w w2 u (Lib.compact (sortZ xs)) := by
  refine (sortI_row w.heap.size v xs W h.row (by omega)).mono ?_
  rintro e w1 ⟨rfl, r1, o1⟩
  refine ⟨rfl, ?_⟩
  have hl := (sortZ_perm xs).length_eq
  rw [← hl] at r1
  refine (compI_row w.heap.size v (sortZ xs) w1 r1 (by omega)).mono ?_
  rintro e w2 ⟨u, rfl, r2, hn, o2⟩
  have hs := sortZ_le xs
  refine ⟨u, rfl, compact_nodup hs, fun i => by rw [compact_mem, (sortZ_perm xs).mem_iff], ?_, ?_, ?_⟩
  · have : (Lib.compact (sortZ xs)).mergeSort (fun x y => decide (x ≤ y)) = Lib.compact (sortZ xs) := sortZ_same (compact_sorted hs)
    rw [this]; exact r2
  · rw [hn, h.nil]
    constructor
    · intro e; subst e; rw [show sortZ [] = [] from List.mergeSort_nil]; rfl
    · intro e
      cases xs with
      | nil => rfl
      | cons a t =>
        have : a ∈ Lib.compact (sortZ (a :: t)) := by rw [compact_mem, (sortZ_perm _).mem_iff]; exact List.mem_cons_self
        rw [e] at this; cases this
  · have hge : ∀ r, v.ownBlock = some r → ¬ r < w.heap.size := fun r e q => by have := (h.row.lt r e).1; omega
    have hsz := h.below.size
    exact h.below.trans ((o1.trans o2 (fun r _ e => e)).to_below hsz (fun r hr e => hge r e hr))
set_option maxRecDepth 100000 in
set_option maxHeartbeats 4000000 in
theorem having_any {w : World} {T : Nat → Tag} {lo n : Nat} {k : List UInt8} {c : Option Nat} {f : List UInt8 → Int → Nat} (h : KeyAt w T lo n k c f) (hn : n ≤ 1000000) (g : Nat) (cb : Array Value) (p : List UInt8 → Bool) (eg : ∀ args w, (callFunc g args).run Tryz.prog w = .ok (.enter g args) w)
    (hask : ∀ (W : World) (s : List UInt8), Below w.heap.size w W → s.length ≤ maxLen → Calls Tryz.prog g (#[.string (B s)] ++ cb) W fun e w' => e = .returned (.bool (p s)) ∧ Only (fun _ => False) W w') :
    Calls Tryz.prog 86 #[.map c, .func (.func g) #[] cb] w (HavR p f w) := by
  have HASK := Lib.hid hask
  clear hask
  cases c with
  | none =>
    have HK : Hid (∀ s i, f s i = 0) := h
    clear h
    have hrg := run_range_nilMap (P := Tryz.prog) w 157 9 164 Tryz.underlying157
    have hnx : ∀ ty, (Instr.next (.pointer (some ⟨w.heap.size, 0, none⟩)) false ty).run Tryz.prog (w.alloc (.mapIter none 0 #[] 0)) = _ := fun ty => run_next_nilMap w ty 0 0 #[]
    have HE := Lib.hid (hav_end (w := w) (W := w.alloc (.mapIter none 0 #[] 0)) (v := .slice none 0 0) (xs := []) ⟨⟨rfl, .inl ⟨rfl, rfl⟩⟩, ⟨fun _ => rfl, fun _ => rfl⟩, (Below.refl _ w).alloc (Nat.le_refl _) _⟩ (by decide))
    go_enter Tryz.func86, Tryz.ntmps86
    go_wp2_with fail
    refine wp_loop_rounds 1 ?_
    rw [rounds_succ]
    go_wp2_with fail
    refine HE.out.mono ?_
    rintro e w1 ⟨rfl, hc⟩
    have HC := Lib.hid hc
    clear hc
    go_wp2_with fail
    refine HC.out.mono ?_
    rintro e w2 ⟨u, rfl, h1, h2, h3⟩
    obtain ⟨ua, uc, rfl, _⟩ := row_sliceZ h3.1
    have H3 := Lib.hid (And.intro h1 (And.intro h2 h3))
    clear h1 h2 h3
    go_wp2_with fail
    go_ret
    refine ⟨_, _, rfl, H3.out.1, fun i => ?_, H3.out.2.2⟩
    rw [H3.out.2.1]
    exact ⟨fun e => (by cases e), fun ⟨s, _, e⟩ => by have := HK.out s i; omega⟩
  | some b =>
    obtain ⟨⟨_, _, gg, h1, h2⟩, _⟩ := h
    obtain ⟨D, hown, hrd⟩ := h1.reads
    have HR := Lib.hid hrd
    have H2 := Lib.hid h2
    have hbl := hown.lt
    have hmm := ‹∀ args w, (callFunc g args).run Tryz.prog w = .ok (.enter g args) w›
    have HSZ := Lib.hid hown.size_le
    clear h1 h2 hrd
    go_enter Tryz.func86, Tryz.ntmps86
    go_wp2_with (at_range; refine wpList_range_own _ rfl _ 157 rfl 9 164 keyS Tryz.underlying157 _ b n _ rfl hown ?_; intro w0 hrg0 hg0 hs0)
    go_frame
    go_loopw [5] (fun uv wr => ∃ (left : Lit → Bool) (cnt : Nat) (v : Value) (xs : List Int), uv = v ∧ wr.ranges Tryz.prog 9 refElem b w.heap.size n D left cnt ∧ AllI w wr v xs ∧ xs.length + cnt * n ≤ Maps.size D * n ∧
        (∀ i, i ∈ xs ↔ ∃ s, has D (.string s) = true ∧ left (.string s) = false ∧ p s = true ∧ 0 < f s i)) (fun _ wr => wr.rangeLeft b w.heap.size)
    case atStart =>
      refine ⟨_, _, _, [], rfl, hrg0, ⟨⟨rfl, .inl ⟨rfl, rfl⟩⟩, ⟨fun _ => rfl, fun _ => rfl⟩, (Below.refl _ w).grown hg0 (Nat.le_refl _) (fun k hk => by cases hk)⟩, by simp, fun i => ⟨fun e => (by cases e), fun ⟨s, e1, e2, _⟩ => by rw [e1] at e2; cases e2⟩⟩
    case round =>
      obtain ⟨left, cnt, v, xs, rfl, hrg, hall, hlen, hmem⟩ := hrel
      obtain ⟨va, vc, rfl, hvc⟩ := row_sliceZ hall.row
      have HA := Lib.hid hall
      have HM := Lib.hid hmem
      have HL := Lib.hid hlen
      clear hall hmem hlen
      go_wp2_with (at_next; refine wpList_next_sr _ rfl _ rfl b w.heap.size n _ _ _ rfl hrg HR.out ?_ ?_)
      · intro _ hl0
        have HL0 := Lib.hid hl0
        clear hl0
        have hxl : xs.length ≤ 1000000000000 := by
          have h1 := HL.out
          have h2 := HSZ.out
          have h3 : Maps.size D * n ≤ 1000000 * 1000000 := Nat.mul_le_mul (by omega) hn
          omega
        have HE := Lib.hid (hav_end HA.out hxl)
        go_wp2_with fail
        refine HE.out.mono ?_
        rintro e w1 ⟨rfl, hc⟩
        have HC := Lib.hid hc
        clear hc
        go_wp2_with fail
        refine HC.out.mono ?_
        rintro e w2 ⟨u, rfl, h1, h2, h3⟩
        obtain ⟨ua, uc, rfl, _⟩ := row_sliceZ h3.1
        have H3 := Lib.hid (And.intro h1 (And.intro h2 h3))
        clear h1 h2 h3
        go_wp2_with fail
        go_ret
        refine ⟨_, _, rfl, H3.out.1, fun i => ?_, H3.out.2.2⟩
        rw [H3.out.2.1, HM.out]
        constructor
        · rintro ⟨s, _, _, e3, e4⟩; exact ⟨s, e3, e4⟩
        · rintro ⟨s, e3, e4⟩
          refine ⟨s, ?_, HL0.out _, e3, e4⟩
          rw [HR.out.1]
          have := H2.out s
          cases hgs : gg s with
          | some c => rfl
          | none => rw [hgs] at this; have := this i; omega
      · intro s c w1 cnt1 hs hl hgs hrg1 hlt hg1 hs1 hen
        have hbw1 : Below w.heap.size w w1 := HA.out.below.grown hg1 HA.out.below.size (fun k hk => by cases hk; exact Nat.le_refl _)
        have A1 : AllI w w1 (.slice va xs.length vc) xs := HA.out.turn ((Only.refl _ wr).grown hg1 (fun k hk => by cases hk; exact .inl ⟨Nat.le_refl _, (ranges_objs hrg).2⟩))
        have HS := Lib.hid (And.intro hl hgs)
        have HK1 := Lib.hid (HASK.out w1 s hbw1 hs)
        have HA1 := Lib.hid A1
        have HB1 := Lib.hid hbw1
        have HLT := Lib.hid hlt
        -- the number of those still to come
        have CNT : Hid (∀ m, m ≤ n → xs.length + m + cnt1 * n ≤ Maps.size D * n) := fun m hm => by
          have h1 := HL.out
          have h2 : (cnt1 + 1) * n ≤ cnt * n := Nat.mul_le_mul_right n (by have := HLT.out; omega)
          rw [Nat.succ_mul] at h2
          omega
        have STK : Hid (∀ v, (fun z : Lit => left z && !z.sameKey (.string s)) (.string v) = (left (.string v) && !decide (v = s))) := fun v => strike
        clear A1 hbw1 hs1 hl hgs hlt
        -- membership behind the round
        have MEM : Hid (∀ v, (left (.string v) && !decide (v = s)) = false ↔ (left (.string v) = false ∨ v = s)) := fun v => by
          by_cases e : v = s
          · simp [e]
          · simp [e]
        have HOLD : Hid (HoldAt w T lo k s n (some c) (f s)) := by
          have := H2.out s; rw [HS.out.2] at this; exact this
        cases hp : p s with
        | false =>
          rw [hp] at HK1
          go_wp2_with (go_at_fn g; refine HK1.out.mono ?_; rintro e w2 ⟨rfl, o2⟩)
          have hrg2 := ranges_same hrg1 (o2.same b hrg1.owns.lt (fun h => h)) (o2.same _ hrg1.lt (fun h => h))
          go_roundw
          case rel =>
            refine ⟨_, cnt1, _, xs, rfl, hrg2, HA1.out.turn (o2.mono fun _ _ h => h.elim), CNT.out 0 (Nat.zero_le _), fun i => ?_⟩
            rw [HM.out]
            constructor
            · rintro ⟨s', e1, e2, e3⟩
              exact ⟨s', e1, by rw [STK.out, MEM.out]; exact .inl e2, e3⟩
            · rintro ⟨s', e1, e2, e3, e4⟩
              rw [STK.out, MEM.out] at e2
              rcases e2 with e2 | e2
              · exact ⟨s', e1, e2, e3, e4⟩
              · subst e2; rw [hp] at e3; cases e3
          case measure => rw [hrg2.left_eq, hrg.left_eq]; exact HLT.out
        | true =>
          rw [hp] at HK1
          have HP := Lib.hid hp
          clear hp
          go_wp2_with (go_at_fn g; refine HK1.out.mono ?_; rintro e w2 ⟨rfl, o2⟩)
          have hrg2 := ranges_same hrg1 (o2.same b hrg1.owns.lt (fun h => h)) (o2.same _ hrg1.lt (fun h => h))
          have A2 := HA1.out.turn (o2.mono fun _ _ h => h.elim)
          refine ((callsIn_wide (n := 5)).1 (keysH_call (some c) w2)).mono ?_
          rintro e w3 ⟨rfl, hw3⟩
          have o3 : Only (fun _ => False) w2 w3 := by rw [hw3]; exact (Only.refl _ _).alloc _
          have hm3 : w3.cell? ⟨w2.heap.size, 0, none⟩ = some (.map (some c)) := by rw [hw3]; exact (Cells.new w2 _ _).cell 0
          have hs3 : w2.heap.size < w3.heap.size := by rw [hw3]; simp
          have hrg3 := ranges_same hrg2 (o3.same b hrg2.owns.lt (fun h => h)) (o3.same _ hrg2.lt (fun h => h))
          have A3 := A2.turn (o3.mono fun _ _ h => h.elim)
          obtain ⟨_, _, hc, i0, hi0⟩ := HOLD.out.turn (Only.of_below A3.below (Nat.le_refl _) : Only (fun _ => False) w w3) (T' := T) (fun _ _ => rfl) (fun _ _ h => h)
          obtain ⟨Dc, hoc, hh, _⟩ := has_i64 hc
          obtain ⟨nd, mm⟩ := intKeys_mem hoc
          have hkl : (intKeys Dc).length = Maps.size Dc := by
            obtain ⟨es, rfl, _, _⟩ := hoc.entries keyI
            show (es.map _).length = es.length
            rw [List.length_map]
          have hcs := hoc.size_le
          have hxl : xs.length + Maps.size Dc ≤ 10000000000000 := by
            have h1 := CNT.out (Maps.size Dc) hcs
            have h2 := HSZ.out
            have h3 : Maps.size D * n ≤ 1000000 * 1000000 := Nat.mul_le_mul (by omega) hn
            omega
          have AP := Lib.hid (appendSeq_any w.heap.size _ xs w3 A3.row A3.below.size w2.heap.size c n Dc hs3 hm3 hoc hxl)
          have HC := Lib.hid (And.intro hh (And.intro nd (And.intro mm (And.intro hkl hcs))))
          have HA3 := Lib.hid A3
          have HI0 := Lib.hid hi0
          clear hh nd mm hkl hcs A3 A2 o3 hm3 hs3 hxl hc hoc hi0 hw3
          go_wp2_with fail
          refine AP.out.mono ?_
          rintro e w4 ⟨u, ss, rfl, hperm, hrow, o4⟩
          obtain ⟨ys, hys⟩ : ∃ ys, ys = xs ++ ss := ⟨_, rfl⟩
          rw [← hys] at hrow
          obtain ⟨ua, uc, rfl, huc⟩ := row_sliceZ hrow
          have HY := Lib.hid hys
          have HROW := Lib.hid hrow
          have HPM := Lib.hid hperm
          have hne : ∀ q : Nat, (∃ o : Obj, w3.heap[q]? = some o ∧ o.isCells = false) → ¬ (Value.slice va xs.length vc).ownBlock = some q := fun q ⟨o, ho, hc⟩ e => by
            obtain ⟨cur, hcur⟩ := row_cells HA3.out.row e
            rw [ho] at hcur
            cases hcur
            cases hc
          have hrg4 := ranges_same hrg3 (o4.same b hrg3.owns.lt (hne _ (ranges_objs hrg3).1)) (o4.same _ hrg3.lt (hne _ (ranges_objs hrg3).2))
          have HO4 := Lib.hid o4
          clear hys hrow hperm o4 hne
          have hss : ∀ x, x ∈ ss ↔ 0 < f s x := fun x => by rw [HPM.out.mem_iff, HC.out.2.2.1, HC.out.1]
          have HSS := Lib.hid hss
          clear hss
          go_wp2_with fail
          go_roundw
          case rel =>
            refine ⟨_, cnt1, _, ys, rfl, hrg4, ⟨HROW.out, ⟨fun e => ?_, fun e => ?_⟩, HA3.out.below.trans (HO4.out.to_below HA3.out.below.size (fun r hr e => by have := (HA3.out.row.lt r e).1; omega))⟩, ?_, fun i => ?_⟩
            · have hl := HROW.out.2
              rcases hl with ⟨_, h0⟩ | ⟨g', _, _, q, _⟩
              · exact List.eq_nil_of_length_eq_zero h0
              · rw [e] at q; cases q
            · have : i0 ∈ ss := (HSS.out i0).2 HI0.out
              have h5 : i0 ∈ ys := by rw [HY.out]; exact List.mem_append_right _ this
              rw [e] at h5; cases h5
            · have h1 := CNT.out ss.length (by rw [HPM.out.length_eq, HC.out.2.2.2.1]; exact HC.out.2.2.2.2)
              rw [HY.out, List.length_append]; exact h1
            · rw [HY.out, List.mem_append, HM.out, HSS.out]
              constructor
              · rintro (⟨s', e1, e2, e3⟩ | e)
                · exact ⟨s', e1, by rw [STK.out, MEM.out]; exact .inl e2, e3⟩
                · exact ⟨s, by rw [HR.out.1, HS.out.2]; rfl, by rw [STK.out, MEM.out]; exact .inr rfl, HP.out, e⟩
              · rintro ⟨s', e1, e2, e3, e4⟩
                rw [STK.out, MEM.out] at e2
                rcases e2 with e2 | e2
                · exact .inl ⟨s', e1, e2, e3, e4⟩
                · subst e2; exact .inr e4
          case measure => rw [hrg4.left_eq, hrg.left_eq]; exact HLT.out
end Go.Proofs.YtiebbgbcojgeoaaGreatDoor

namespace Go.Proofs.YtiebbgbcojgeoaaGreatDoor
open Go.RowKit Go.Maps Go.Sort Go.Shelf

theorem row_lower {W : World} {base base' : Nat} {e : TypeId} {size : Nat} {v : Value} {n : Nat} {xs : List Value} (h : W.ownsRow base e size v n xs) (hb : base' ≤ base) : W.ownsRow base' e size v n xs := by
  refine ⟨h.1, ?_⟩
  rcases h.2 with hn | ⟨g, cap, cur, hv, hg, rest⟩
  · exact .inl hn
  · exact .inr ⟨g, cap, cur, hv, Nat.le_trans hb hg, rest⟩
theorem AnsI.later {w w1 w2 : World} {v : Value} {ss : List Int} (h : AnsI w1 w2 v ss) (hb : Below w.heap.size w w1) : AnsI w w2 v ss := ⟨row_lower h.1 hb.size, h.2.1, hb.trans (h.2.2.mono hb.size)⟩
theorem AnsS.later {w w1 w2 : World} {v : Value} {ss : List (List UInt8)} (h : AnsS w1 w2 v ss) (hb : Below w.heap.size w w1) : AnsS w w2 v ss := ⟨row_lower h.1 hb.size, h.2.1, hb.trans (h.2.2.mono hb.size)⟩
theorem leS (a b : ByteArray) : (Op.bytesLess a.toList b.toList || a.toList == b.toList) = decide (a.data.toList ≤ b.data.toList) := by
  rw [Lib.toList_data, Lib.toList_data, bytesLess_eq]
  rw [Bool.eq_iff_iff]
  simp only [Bool.or_eq_true, decide_eq_true_eq, beq_iff_eq]
  exact List.le_iff_lt_or_eq.symm
set_option maxRecDepth 100000 in
set_option maxHeartbeats 1000000 in
theorem with1_any (s : ByteArray) (w : World) : Calls Tryz.prog 87 #[.string s] w fun e w' => e = .returned (.bool true) ∧ w' = w := by
  go_enter Tryz.func87, Tryz.ntmps87
  go_wp2_with fail
  go_ret
  exact ⟨rfl, rfl⟩
set_option maxRecDepth 100000 in
set_option maxHeartbeats 1000000 in
theorem between1_any (s a b : ByteArray) (pa pb : Nat) (w : World) (ha : w.cell? ⟨pa, 0, none⟩ = some (.string a)) (hb : w.cell? ⟨pb, 0, none⟩ = some (.string b)) : Calls Tryz.prog 90 #[.string s, .pointer (some ⟨pa, 0, none⟩), .pointer (some ⟨pb, 0, none⟩)] w fun e w' => e = .returned (.bool (decide (a.data.toList ≤ s.data.toList) && decide (s.data.toList ≤ b.data.toList))) ∧ w' = w := by
  have h1 := leS a s
  have h2 := leS s b
  cases hd : decide (a.data.toList ≤ s.data.toList) with
  | false =>
    rw [hd] at h1
    have H2 := Lib.hid h2
    clear h2
    go_enter Tryz.func90, Tryz.ntmps90
    go_wp2_with fail
    go_ret
    exact ⟨rfl, rfl⟩
  | true =>
    rw [hd] at h1
    have H2 := Lib.hid h2
    clear h2
    go_enter Tryz.func90, Tryz.ntmps90
    go_wp2_with fail
    go_ret
    exact ⟨congrArg (fun x => Ending.returned (.bool x)) (by first | exact H2.out | (rw [Bool.true_and]; exact H2.out)), rfl⟩
/-- Of a slice of a literal: the closure's call. -/
theorem with1_ask (w0 : World) (W : World) (s : List UInt8) : Calls Tryz.prog 87 (#[.string (B s)] ++ #[]) W fun e w' => e = .returned (.bool ((fun _ => true : List UInt8 → Bool) s)) ∧ Only (fun _ => False) W w' := by
  refine (with1_any (B s) W).mono ?_
  rintro e w' ⟨rfl, rfl⟩
  exact ⟨rfl, Only.refl _ _⟩
def betw (a b s : List UInt8) : Bool := decide (a ≤ s) && decide (s ≤ b)
theorem between1_ask (a b : ByteArray) (pa pb : Nat) (W : World) (s : List UInt8) (ha : W.cell? ⟨pa, 0, none⟩ = some (.string a)) (hb : W.cell? ⟨pb, 0, none⟩ = some (.string b)) : Calls Tryz.prog 90 (#[.string (B s)] ++ #[.pointer (some ⟨pa, 0, none⟩), .pointer (some ⟨pb, 0, none⟩)]) W fun e w' => e = .returned (.bool (betw a.data.toList b.data.toList s)) ∧ Only (fun _ => False) W w' := by
  refine (between1_any (B s) a b pa pb W ha hb).mono ?_
  rintro e w' ⟨rfl, rfl⟩
  exact ⟨by rw [B_data]; rfl, Only.refl _ _⟩
set_option maxRecDepth 100000 in
set_option maxHeartbeats 1000000 in
theorem idxWith {w : World} {T : Nat → Tag} {lo x kb yb n : Nat} {ids : Int → Bool} {F : List UInt8 → List UInt8 → Int → Nat} (h : IdxAt w T lo x kb yb n ids F) (hn : n ≤ 1000000) (k : ByteArray) (hk : k.size ≤ maxLen) :
    Calls Tryz.prog 45 #[.pointer (some ⟨x, 0, none⟩), .string k] w (HavR (fun _ => true) (F k.data.toList) w) := by
  have VO := Lib.hid (valuesOf_any h k hk)
  clear h
  go_enter Tryz.func45, Tryz.ntmps45
  go_wp2_with fail
  refine VO.out.mono ?_
  rintro e w' ⟨c, rfl, rfl, hkey⟩
  have HV := Lib.hid (having_any hkey hn 87 #[] (fun _ => true) (enters_of Tryz.func87 (by kernel_rfl) rfl) (fun W s _ _ => with1_ask w' W s))
  clear hkey
  go_wp2_with fail
  refine HV.out.mono ?_
  rintro e w2 ⟨v, ss, rfl, h1, h2, h3⟩
  obtain ⟨va, vc, rfl, _⟩ := row_sliceZ h3.1
  have H3 := Lib.hid (And.intro h1 (And.intro h2 h3))
  clear h1 h2 h3
  go_wp2_with fail
  go_ret
  exact ⟨_, ss, rfl, H3.out.1, fun i => by simpa using H3.out.2.1 i, H3.out.2.2⟩
set_option maxRecDepth 100000 in
set_option maxHeartbeats 1000000 in
theorem idxBetween {w : World} {T : Nat → Tag} {lo x kb yb n : Nat} {ids : Int → Bool} {F : List UInt8 → List UInt8 → Int → Nat} (h : IdxAt w T lo x kb yb n ids F) (hn : n ≤ 1000000) (k a b : ByteArray) (hk : k.size ≤ maxLen) :
    Calls Tryz.prog 48 #[.pointer (some ⟨x, 0, none⟩), .string k, .string a, .string b] w (HavR (betw a.data.toList b.data.toList) (F k.data.toList) w) := by
  have o2 : Only (fun _ => False) w ((w.alloc (.cells #[.string a] 9)).alloc (.cells #[.string b] 9)) := ((Only.refl _ w).alloc _).alloc _
  have hb2 : Below w.heap.size w ((w.alloc (.cells #[.string a] 9)).alloc (.cells #[.string b] 9)) := ((Below.refl _ w).alloc (Nat.le_refl _) _).alloc (by simp) _
  have VO := Lib.hid (valuesOf_any (h.turn o2 (fun _ _ => rfl) (fun _ _ h => h)) k hk)
  have cA := ((Cells.new w 9 #[.string a]).alloc (.cells #[.string b] 9))
  have cB : Cells ((w.alloc (.cells #[.string a] 9)).alloc (.cells #[.string b] 9)) (w.heap.size + 1) 9 #[.string b] := by
    have := Cells.new (w.alloc (.cells #[.string a] 9)) 9 #[.string b]
    simpa using this
  have HAB := Lib.hid (And.intro cA cB)
  have HB := Lib.hid hb2
  clear h o2 cA cB hb2
  go_enter Tryz.func48, Tryz.ntmps48
  go_wp2_with fail
  refine VO.out.mono ?_
  rintro e w' ⟨c, rfl, hw', hkey⟩
  have hb2 : Below w.heap.size w w' := by rw [hw']; exact HB.out
  have hAB : Cells w' w.heap.size 9 #[.string a] ∧ Cells w' (w.heap.size + 1) 9 #[.string b] := by rw [hw']; exact HAB.out
  rw [← hw'] at hkey
  clear HB HAB hw' VO
  have HV := Lib.hid (having_any hkey hn 90 #[.pointer (some ⟨w.heap.size, 0, none⟩), .pointer (some ⟨w.heap.size + 1, 0, none⟩)] (betw a.data.toList b.data.toList) (enters_of Tryz.func90 (by kernel_rfl) rfl)
    (fun W s hW _ => between1_ask a b w.heap.size (w.heap.size + 1) W s ((hW.cell (p := ⟨w.heap.size, 0, none⟩) hAB.1.lt).trans (hAB.1.cell 0)) ((hW.cell (p := ⟨w.heap.size + 1, 0, none⟩) hAB.2.lt).trans (hAB.2.cell 0))))
  have HB := Lib.hid hb2
  clear hkey hb2 hAB
  go_wp2_with fail
  refine HV.out.mono ?_
  rintro e w2 ⟨v, ss, rfl, h1, h2, h3⟩
  obtain ⟨va, vc, rfl, _⟩ := row_sliceZ h3.1
  have H3 := Lib.hid (And.intro h1 (And.intro h2 h3))
  clear h1 h2 h3
  go_wp2_with fail
  go_ret
  exact ⟨_, ss, rfl, H3.out.1, H3.out.2.1, H3.out.2.2.later HB.out⟩
/-- maps.Keys of the index's keys. -/
theorem keysK_call (mb : Option Nat) (W : World) : CallsIn Fence.wide 5 Tryz.prog 83 #[.map mb] W fun e w' => e = .returned (.func (.func 119) #[] #[.pointer (some ⟨W.heap.size, 0, none⟩)]) ∧ w' = W.alloc (.cells #[.map mb] 153) :=
  AnyZ.keys_in Tryz.keysK Fence.wide 5 trivial rfl mb W
set_option maxHeartbeats 1000000 in
theorem sortedK (b nn : Nat) (D0 : DataW Unit) (R : Value → Option (DataW Unit × List MemPlace)) (w : World) (hown : w.ownsMap Tryz.prog 9 R b nn D0) (hmax : Maps.size D0 ≤ 10000000) :
    CallsIn Fence.wide 5 Tryz.prog 82 #[.func (.func 119) #[] #[.pointer (some ⟨w.heap.size, 0, none⟩)]] (w.alloc (.cells #[.map (some b)] 153)) fun e w' => ∃ (v : Value) (ss : List (List UInt8)), e = .returned v ∧ ss.Perm (strKeys D0) ∧ AnsS w w' v ss := by
  have hbl := hown.lt
  have hseq : SeqGives Fence.wide 2 Tryz.prog 119 #[.pointer (some ⟨w.heap.size, 0, none⟩)] encStr (fun ss => ss.Perm (strKeys D0)) (Maps.size D0) (w.alloc (.cells #[.map (some b)] 153)) :=
    AnyZ.keys_gives (ρ := Tryz.keysK_ren) { Tryz.keysK with } Fence.wide _ trivial rfl (by omega) w.heap.size b nn D0 _ (by simp) (by simp) (by
      obtain ⟨es, clock, hb, Ft, hs, hD⟩ := hown
      exact ⟨es, clock, (Below.heap_alloc _ _ b hbl).trans hb, Ft, hs, hD⟩)
  refine (AnyZ.sorted_in Tryz.sortedS Fence.wide 5 trivial trivial trivial trivial rfl (by omega) (sortsS _) (enters_of Tryz.func118 (by kernel_rfl) rfl) 119 #[.pointer (some ⟨w.heap.size, 0, none⟩)] trivial (enters_of Tryz.func119 (by kernel_rfl) rfl) _ _ (by unfold maxLen; omega) (by omega) _ hseq).mono ?_
  rintro e w' ⟨v, ss, rfl, hS, hrow, hnil, hb⟩
  exact ⟨v, ss, rfl, hS, ownsRow_base_a hrow (by simp), hnil, ((Below.refl _ w).alloc (Nat.le_refl _) _).trans (hb.mono (by simp))⟩
set_option maxRecDepth 100000 in
set_option maxHeartbeats 1000000 in
theorem idxKeys {w : World} {T : Nat → Tag} {lo x kb yb n : Nat} {ids : Int → Bool} {F : List UInt8 → List UInt8 → Int → Nat} (h : IdxAt w T lo x kb yb n ids F) (hn : n ≤ 1000000) :
    Calls Tryz.prog 42 #[.pointer (some ⟨x, 0, none⟩)] w fun e w' => ∃ v ss, e = .returned v ∧ ss.Nodup ∧ (∀ k, k ∈ ss ↔ ∃ s i, 0 < F k s i) ∧ AnsS w w' v ss := by
  obtain ⟨hb, g, ⟨D, ho, hh, _⟩, h2⟩ := h
  have c1 : w.cell? ⟨x, 1, none⟩ = some (.map (some yb)) := hb.cell.cell 1
  have hfK : Fence.wide.fn 83 := trivial
  have hfS : Fence.wide.fn 82 := trivial
  have cS := sortedK yb n D refElem w ho (Nat.le_trans ho.size_le (lookRoom n hn))
  obtain ⟨nd, mm⟩ := strKeys_mem ho
  have HM := Lib.hid (And.intro nd (And.intro mm (And.intro hh h2)))
  clear hh h2 nd mm hb
  refine (callsIn_wide (n := 6)).1 ?_
  refine callsIn_of_wp Tryz.func42 rfl trivial ?_ rfl
  simp only [Tryz.ntmps42, List.size_toArray, List.length_cons, List.length_nil, Nat.reduceAdd, Nat.reduceSub, Array.replicate_succ, Array.replicate_zero, List.push_toArray, List.append_toArray, List.nil_append, List.cons_append]
  gi_wp2_with (first
    | (gi_at_call 83; refine (keysK_call _ _).mono ?_; rintro e w' ⟨rfl, rfl⟩)
    | (gi_at_call 82; refine cS.mono ?_; rintro e w' ⟨v, ss, rfl, hS, ha⟩))
  go_ret
  refine ⟨v, ss, rfl, (hS.nodup_iff).2 HM.out.1, fun k => ?_, ha⟩
  rw [hS.mem_iff, HM.out.2.1, HM.out.2.2.1]
  have := HM.out.2.2.2 k
  cases hs : g k with
  | none => rw [hs] at this; exact ⟨fun e => (by cases e), fun ⟨s, i, e⟩ => by have : F k s i = 0 := this s i; omega⟩
  | some c => rw [hs] at this; exact ⟨fun _ => this.2, fun _ => rfl⟩
end Go.Proofs.YtiebbgbcojgeoaaGreatDoor

namespace Go.Proofs.YtiebbgbcojgeoaaGreatDoor
open Go.RowKit Go.Maps Go.Sort

section
variable (w : World) {ops : Array Oper} {rest : List Oper} {o : Oper} {a : Act} {Q : Exit → Act → World → Prop}
theorem SetM.drop {w : World} {b n : Nat} {f : Int → Bool} (h : SetM w b n f) {t e : TypeId} (ht : Tryz.prog.underlying t = some (.map 3 e)) (id : Int) (hw : (Lit.int .i64 id).wf = true) (ty : TypeId) :
    ∃ w', (Builtin.delete_ #[t, 3] ty #[.map (some b), .int .i64 id]).run Tryz.prog w = .ok (.tuple #[]) w' ∧ SetM w' b n (outI id f) ∧ Only (· = b) w w' ∧ w'.heap.size = w.heap.size := by
  obtain ⟨D, ho, h1⟩ := h
  obtain ⟨w', hrun, ho', ht'⟩ := ho.drop keyI ht (Maps.keyOf_int_mk Tryz.underlying3 hw) ty
  refine ⟨w', hrun, ⟨_, ho', fun k => ?_⟩, (Only.refl _ w).grown ht'.grown (fun k hk => .inl (by cases hk; rfl)), ?_⟩
  · unfold outI
    by_cases q : k = id
    · subst q
      rw [Maps.has_del_same, if_pos rfl]
    · rw [Maps.has_del_other (fun e => q (by injection e)), if_neg q, h1]
  · obtain ⟨es, clock, es', clock', hb, rfl⟩ := ht'
    show (w.heap.setIfInBounds b (.map es' clock')).size = _
    exact Array.size_setIfInBounds
/-- delete of a number. -/
theorem wpList_delete_set (hg : o.guard = none) (m x : Operand) (t e : TypeId) (hop : o.op = Op.call { callee := Callee.builtin Builtin.delete, args := #[m, x], argTypes := #[t, 3] })
    (ht : Tryz.prog.underlying t = some (.map 3 e)) (c n : Nat) (f : Int → Bool) (id : Int) (hw : (Lit.int .i64 id).wf = true) (hm : a.eval m = .map (some c)) (hx : a.eval x = .int .i64 id) (h : SetM w c n f)
    (hK : ∀ w', SetM w' c n (outI id f) → Only (· = c) w w' → w'.heap.size = w.heap.size → wpList Tryz.prog ops Q rest (a.put o.dst (.tuple #[])) w') :
    wpList Tryz.prog ops Q (o :: rest) a w := by
  refine wpList_plain hg fun K' hK' => ?_
  obtain ⟨w', hrun, r1, r2, r3⟩ := h.drop ht id hw o.type
  unfold Oper.wp
  simp [execOp, hop, resolve, invoke, builtin, hm, hx, hrun, Result.andThen]
  exact hK' _ _ (hK w' r1 r2 r3)
end
theorem outV_none {c : Option Nat} {w : World} {T : Nat → Tag} {lo n : Nat} {k : List UInt8} {f : List UInt8 → Int → Nat} {id : Int} (h : KeyAt w T lo n k c f) (hc : c = none) : KeyAt w T lo n k c (outV id f) := by
  subst hc
  intro v i
  unfold outV
  split
  · rfl
  · exact h v i
theorem KeyAt.tagged {w : World} {T : Nat → Tag} {lo n c : Nat} {k : List UInt8} {f : List UInt8 → Int → Nat} (h : KeyAt w T lo n k (some c) f) : T c = (1, k, []) := h.1.1
set_option maxRecDepth 100000 in
set_option maxHeartbeats 4000000 in
theorem drop_in {w : World} {T : Nat → Tag} {lo x kb yb n : Nat} {ids : Int → Bool} {F : List UInt8 → List UInt8 → Int → Nat} (h : IdxAt w T lo x kb yb n ids F) (hT : ∀ c, w.heap.size ≤ c → T c = (0, [], [])) (id : Int) (hw : (Lit.int .i64 id).wf = true) (hid : ids id = true) :
    Calls Tryz.prog 39 #[.pointer (some ⟨x, 0, none⟩), .int .i64 id] w fun e w' => e = .returned (.bool true) ∧ IdxAt w' T lo x kb yb n (outI id ids) (outF id F) ∧ Only (OfIdx T) w w' := by
  have c0 : w.cell? ⟨x, 0, none⟩ = some (.map (some kb)) := h.base.cell.cell 0
  have lk := h.base.known.look Tryz.underlying152 (by kernel_rfl) id hw
  rw [hid] at lk
  have hTr : Hid (∀ c, OfIdx T c → c < w.heap.size) := fun c hc => by
    by_cases q : c < w.heap.size
    · exact q
    · unfold OfIdx at hc; rw [hT c (by omega)] at hc; exact absurd rfl hc
  have H := Lib.hid h
  have hxk : x ≠ kb := fun e => by subst e; have h1 := H.out.base.tx; rw [H.out.base.tk] at h1; cases h1
  have hyk : yb ≠ kb := fun e => by subst e; have h1 := H.out.base.ty; rw [H.out.base.tk] at h1; cases h1
  have hxy : x ≠ yb := fun e => by subst e; have h1 := H.out.base.tx; rw [H.out.base.ty] at h1; cases h1
  clear h
  go_enter Tryz.func39, Tryz.ntmps39
  have oa : Only (fun _ => False) w (w.alloc (.cells #[] 150)) := (Only.refl _ w).alloc _
  have ka := H.out.base.known.only oa (fun h => h)
  have ca : (w.alloc (.cells #[] 150)).cell? ⟨x, 0, none⟩ = some (.map (some kb)) := (H.out.base.cell.alloc _).cell 0
  have HOA := Lib.hid oa
  clear oa
  go_wp2_with (first
    | (at_delete; refine wpList_delete_set _ rfl _ _ 152 150 rfl Tryz.underlying152 kb n ids id hw rfl rfl ka ?_; intro w2 hk2 ho2 hz2
       have HO2 := Lib.hid (HOA.out.mono (S' := (· = kb)) (fun _ _ e => e.elim) |>.trans ho2 (fun _ _ e => e))
       obtain ⟨hbase, g, hg, hkeys⟩ := H.out
       have hb2 : IdxB w2 T lo x kb yb n (outI id ids) := ⟨hbase.tx, hbase.tk, hbase.ty, hbase.lx, hbase.lk, hbase.ly, Nat.lt_of_lt_of_le hbase.lt HO2.out.size, hbase.cell.only HO2.out hxk, hk2⟩
       have c1 : w2.cell? ⟨x, 1, none⟩ = some (.map (some yb)) := hb2.cell.cell 1
       obtain ⟨D, hown, hrd⟩ := (hg.only HO2.out hyk).reads
       have hne : ∀ c, (T c).1 ≠ 4 → c ≠ kb := fun c hc e => hc (by rw [e, hbase.tk])
       have HK2 := Lib.hid (fun k => (hkeys k).turn HO2.out (fun _ _ => rfl) (fun c hc => hne c (by have := hc.idx; omega)))
       have HB2 := Lib.hid hb2
       have HRD := Lib.hid hrd
       have hsz2 : Hid (w2.heap.size = w.heap.size + 1) := by show w2.heap.size = _; rw [hz2]; simp
       clear hg hkeys hbase hb2 hrd hk2 ho2 hz2 ka ca hne)
    | (at_range; refine wpList_range_own _ rfl _ 153 rfl 9 157 keyS Tryz.underlying153 _ yb n _ rfl hown ?_; intro w0 hrg0 hg0 hs0))
  have HT2 : Hid (∀ c, w.heap.size ≤ c → T c = (0, [], [])) := hT
  replace hsz2 := hsz2.out
  go_frame
  rw [hsz2] at hrg0 ⊢
  go_loopw [32] (fun _ wr => ∃ (left : Lit → Bool) (cnt : Nat) (D' : DataW Unit) (g' : List UInt8 → Option Nat), wr.ranges Tryz.prog 9 refElem yb (w.heap.size + 1) n D' left cnt ∧ ReadsR D' g' ∧ IdxB wr T lo x kb yb n (outI id ids) ∧
      (∀ v, (left (.string v) = true ∧ g' v = g v ∧ KeyAt wr T lo n v (g v) (F v)) ∨ (left (.string v) = false ∧ KeyAt wr T lo n v (g' v) (outV id (F v)))) ∧ Only (OfIdx T) w wr) (fun _ wr => wr.rangeLeft yb (w.heap.size + 1))
  case atStart =>
    have o1 : Only (fun _ => False) w2 w0 := (Only.refl _ w2).grown hg0 (fun k hk => by cases hk)
    refine ⟨_, _, D, g, hrg0, HRD.out, HB2.out.turn o1 (fun _ _ => rfl) (fun _ _ h => h) (Nat.le_refl _), fun v => ?_, (HO2.out.mono (fun r _ e => by subst e; unfold OfIdx; rw [HB2.out.tk]; decide)).trans o1 (fun _ _ e => e.elim)⟩
    have hv := (HK2.out v).turn o1 (fun _ _ => rfl) (fun _ _ h => h)
    cases hh : has D (.string v) with
    | true => exact .inl ⟨rfl, rfl, hv⟩
    | false =>
      have hgv : g v = none := by
        have := HRD.out.1 v
        rw [hh] at this
        cases hg : g v with
        | none => rfl
        | some c => rw [hg] at this; cases this
      exact .inr ⟨rfl, outV_none hv hgv⟩
  case round =>
    obtain ⟨left, cnt, D', g', hrg, hrd, hib, hall, ho⟩ := hrel
    have HO := Lib.hid ho
    have HA := Lib.hid hall
    have HD := Lib.hid hrd
    have HIB := Lib.hid hib
    clear ho hall hib
    go_wp2_with (at_next; refine wpList_next_sr _ rfl _ rfl yb (w.heap.size + 1) n _ _ _ rfl hrg hrd ?_ ?_)
    · intro _ hl0
      have HL := Lib.hid hl0
      clear hl0
      go_wp2_with fail
      go_ret
      refine ⟨rfl, ⟨HIB.out, g', HD.out.ref hrg.owns, fun v => ?_⟩, HO.out⟩
      rcases HA.out v with ⟨e, _⟩ | ⟨_, e⟩
      · rw [HL.out] at e; cases e
      · exact e
    · intro s c w1 cnt1 hs hl hgs hrg1 hlt hg1 hs1 hen
      have hsv : g s = some c ∧ KeyAt wr T lo n s (some c) (F s) := by
        rcases HA.out s with ⟨_, e1, e2⟩ | ⟨e, _⟩
        · rw [← e1] at e2; rw [hgs] at e1 e2; exact ⟨e1.symm, e2⟩
        · rw [hl] at e; cases e
      obtain ⟨hgs0, hks⟩ := hsv
      have o1 : Only (· = w.heap.size + 1) wr w1 := (Only.refl _ wr).grown hg1 (fun k hk => by cases hk; exact .inl rfl)
      have TR : ∀ c, OfIdx T c → c ≠ w.heap.size + 1 := fun c hc e => by have := hTr.out c hc; omega
      have hks1 := hks.turn o1 (fun _ _ => rfl) (fun c hc => TR c hc.of)
      have HIB1 := Lib.hid (HIB.out.turn o1 (fun _ _ => rfl) (fun c hc => TR c (by unfold OfIdx; omega)) (Nat.le_refl _))
      have hsw1 : w.heap.size ≤ w1.heap.size := Nat.le_trans HO.out.size o1.size
      have VD := Lib.hid (vdrop_any hks1.1 (fun c hc => HT2.out c (Nat.le_trans hsw1 hc)) id hw)
      have HO1 := Lib.hid o1
      have HS := Lib.hid (And.intro hl (And.intro hgs hgs0))
      have HTR := Lib.hid TR
      have HTC := Lib.hid hks.tagged
      clear o1 hl hgs hgs0 hs1 hks hks1 TR hsw1
      go_wp2_with fail
      refine VD.out.mono ?_
      rintro e w2 ⟨rfl, hv, ho2⟩
      have o2x : Only (OfKey T s) w1 w2 := ho2
      obtain ⟨m, hlen, hm⟩ : ∃ m : Nat, (∀ ty, (Builtin.len_ #[157] ty #[.map (some c)]).run Tryz.prog w2 = .ok (.int .i64 (m : Nat)) w2) ∧ (m = 0 ↔ ∀ v i, outV id (F s) v i = 0) := by
        obtain ⟨_, _, gg, q1, q2⟩ := hv
        obtain ⟨m, hlen, hm⟩ := q1.len Tryz.underlying157
        refine ⟨m, hlen, hm.trans ⟨fun h v i => ?_, fun h v => ?_⟩⟩
        · have := q2 v; rw [h v] at this; exact this i
        · have := q2 v
          cases hgg : gg v with
          | none => rfl
          | some d => rw [hgg] at this; obtain ⟨_, _, _, i, hi⟩ := this; rw [h v i] at hi; omega
      have b2 := HIB1.out.turn o2x (fun _ _ => rfl) (fun c hc e => by have := e.idx; omega) (Nat.le_refl _)
      have x1 : w2.cell? ⟨x, 1, none⟩ = some (.map (some yb)) := b2.cell.cell 1
      have HB := Lib.hid b2
      have nk : ∀ c, OfKey T s c → c ≠ yb := fun c hc e => by have h1 := hc.idx; rw [e, HB.out.ty] at h1; revert h1; decide
      have hrg2 : w2.ranges Tryz.prog 9 refElem yb (w.heap.size + 1) n D' (fun z => left z && !z.sameKey (.string s)) cnt1 := by
        obtain ⟨es, clock, since, seen, c0, q1, F, hs, hD, q2, rest⟩ := hrg1
        have l1 := (Array.getElem?_eq_some_iff.1 q1).1
        have l2 := (Array.getElem?_eq_some_iff.1 q2).1
        exact ⟨es, clock, since, seen, c0, (o2x.same yb l1 (fun e => nk _ e rfl)).trans q1, F, hs, hD, (o2x.same _ l2 (fun e => HTR.out _ e.of rfl)).trans q2, rest⟩
      have HW2 := Lib.hid (And.intro hv o2x)
      have HM := Lib.hid hm
      clear hv ho2 o2x hm b2 VD nk
      have OTH : Hid (∀ w3, Only (· = yb) w2 w3 → (∀ v, v ≠ s → (left (.string v) = true ∧ g' v = g v ∧ KeyAt w3 T lo n v (g v) (F v)) ∨ (left (.string v) = false ∧ KeyAt w3 T lo n v (g' v) (outV id (F v)))) ∧ Only (OfIdx T) w w3 ∧ IdxB w3 T lo x kb yb n (outI id ids)) := fun w3 o3 => by
        have ny : ∀ v c, OfKey T v c → ¬ c = yb := fun v c hc e => by have h1 := hc.idx; rw [e, HB.out.ty] at h1; revert h1; decide
        have tr : ∀ v, v ≠ s → ∀ q ff, KeyAt wr T lo n v q ff → KeyAt w3 T lo n v q ff := fun v hv q ff hh => by
          have a1 := hh.turn HO1.out (fun _ _ => rfl) (fun c hc => HTR.out c hc.of)
          have a2 := a1.turn HW2.out.2 (fun _ _ => rfl) (fun d hd e => hv (hd.ne e))
          exact a2.turn o3 (fun _ _ => rfl) (fun d hd => ny v d hd)
        refine ⟨fun v hv => ?_, ((HO.out.trans HO1.out (fun r hr e => by omega)).trans HW2.out.2 (fun r hr e => e.of)).trans o3 (fun r hr e => by subst e; unfold OfIdx; rw [HB.out.ty]; decide), HB.out.turn o3 (fun _ _ => rfl) (fun c hc e => by subst e; have h1 := HB.out.ty; rw [h1] at hc; revert hc; decide) (Nat.le_refl _)⟩
        rcases HA.out v with ⟨e1, e2, e3⟩ | ⟨e1, e2⟩
        · exact .inl ⟨e1, e2, tr v hv _ _ e3⟩
        · exact .inr ⟨e1, tr v hv _ _ e2⟩
      have STK : Hid (∀ v, (fun z : Lit => left z && !z.sameKey (.string s)) (.string v) = (left (.string v) && !decide (v = s))) := fun v => strike
      by_cases hz : m = 0
      · subst hz
        go_wp2_with (at_delete; refine wpList_delete_ranges _ rfl _ _ 153 9 rfl 157 keyS Tryz.underlying153 refElem yb (w.heap.size + 1) n _ _ _ rfl hrg2 _ (.string s) rfl (Go.WideMaps.keyOf_string_mk Tryz.underlying9 (s := B s) (by rw [B_size]; exact hs)) ?_; intro w3 cnt3 hrg3 hle hturn; go_frame)
        rw [strike_twice] at hrg3
        have o3 : Only (· = yb) w2 w3 := (Only.refl _ w2).grown hturn.grown (fun j hj => by cases hj; exact .inl rfl)
        obtain ⟨p1, p2, p3⟩ := OTH.out w3 o3
        go_roundw
        case rel =>
          refine ⟨_, cnt3, _, _, hrg3, HD.out.del s, p3, fun v => ?_, p2⟩
          rw [STK.out v]
          by_cases hv : v = s
          · subst hv
            rw [if_pos rfl]
            exact .inr ⟨by simp, HM.out.1 (by first | exact rfl | trivial)⟩
          · rw [if_neg hv]
            have := p1 v hv
            simpa [hv] using this
        case measure => rw [hrg3.left_eq, hrg.left_eq]; omega
      · obtain ⟨m, rfl⟩ : ∃ q, m = q + 1 := ⟨m - 1, by omega⟩
        go_wp2_with fail
        obtain ⟨p1, p2, p3⟩ := OTH.out w2 (Only.refl _ _)
        go_roundw
        case rel =>
          refine ⟨_, cnt1, _, _, hrg2, HD.out, p3, fun v => ?_, p2⟩
          rw [STK.out v]
          by_cases hv : v = s
          · subst hv
            refine .inr ⟨by simp, ?_⟩
            rw [HS.out.2.1]
            refine ⟨HW2.out.1, ?_⟩
            have := fun e => hz (HM.out.2 e)
            exact Classical.byContradiction fun hn => this fun u i => by
              have : ¬ 0 < outV id (F v) u i := fun e => hn ⟨u, i, e⟩
              omega
          · have := p1 v hv
            simpa [hv] using this
        case measure => rw [hrg2.left_eq, hrg.left_eq]; exact hlt
end Go.Proofs.YtiebbgbcojgeoaaGreatDoor

namespace Go.Proofs.YtiebbgbcojgeoaaGreatDoor
open Go.RowKit Go.Maps Go.Sort

/-- Blocks that are still to come have no tag. -/
def bareT (T : Nat → Tag) (n : Nat) : Nat → Tag := fun c => if c < n then T c else (0, [], [])
theorem bareT_lt {T : Nat → Tag} {n c : Nat} (h : c < n) : bareT T n c = T c := if_pos h
theorem bareT_ge {T : Nat → Tag} {n c : Nat} (h : n ≤ c) : bareT T n c = (0, [], []) := if_neg (by omega)
theorem IdxAt.bareT {w : World} {T : Nat → Tag} {lo x kb yb n : Nat} {ids : Int → Bool} {F : List UInt8 → List UInt8 → Int → Nat} (h : IdxAt w T lo x kb yb n ids F) : IdxAt w (bareT T w.heap.size) lo x kb yb n ids F :=
  h.turn (Only.refl (fun _ => False) w) (fun _ h => bareT_lt h) (fun _ _ h => h)
theorem only_bare {w w' : World} {T : Nat → Tag} (h : Only (OfIdx (bareT T w.heap.size)) w w') : Only (OfIdx T) w w' := h.mono fun r hr e => by unfold OfIdx at e ⊢; rwa [bareT_lt hr] at e
theorem drop_any {w : World} {T : Nat → Tag} {lo x kb yb n : Nat} {ids : Int → Bool} {F : List UInt8 → List UInt8 → Int → Nat} (h : IdxAt w T lo x kb yb n ids F) (id : Int) (hw : (Lit.int .i64 id).wf = true) (h0 : ids id = false → ∀ k v, F k v id = 0) :
    Calls Tryz.prog 39 #[.pointer (some ⟨x, 0, none⟩), .int .i64 id] w fun e w' => e = .returned (.bool (ids id)) ∧ ∃ T', (∀ c, c < w.heap.size → T' c = T c) ∧ IdxAt w' T' lo x kb yb n (outI id ids) (outF id F) ∧ Only (OfIdx T) w w' := by
  cases hi : ids id with
  | true =>
    refine (drop_in h.bareT (fun c hc => bareT_ge hc) id hw hi).mono ?_
    rintro e w' ⟨rfl, h1, h2⟩
    exact ⟨rfl, _, fun c hc => bareT_lt hc, h1, only_bare h2⟩
  | false =>
    refine (drop_out h id hw hi).mono ?_
    rintro e w' ⟨rfl, h1⟩
    rw [outI_none id ids hi, outF_none id F (h0 hi)]
    exact ⟨rfl, T, fun _ _ => rfl, h.turn h1 (fun _ _ => rfl) (fun _ _ h => h), h1.mono fun _ _ e => e.elim⟩
set_option maxRecDepth 100000 in
set_option maxHeartbeats 1000000 in
/-- Put, of whatever stanza. -/
theorem put_any {w : World} {T : Nat → Tag} {lo x kb yb n : Nat} {ids : Int → Bool} {F : List UInt8 → List UInt8 → Int → Nat} (h : IdxAt w T lo x kb yb n ids F) (id : Int) (hw : (Lit.int .i64 id).wf = true) (h1 : 1 ≤ id) (v : Value) (fs : List (List UInt8 × List UInt8)) (hF : ∀ W, Only (OfIdx T) w W → Flds W v fs) (hn : n + 2 * fs.length ≤ 900000) (h0 : ids id = false → ∀ k v, F k v id = 0)
    (hf : ∀ f ∈ fs, f.1.length ≤ maxLen ∧ f.2.length ≤ maxLen) (hlo : lo ≤ w.heap.size) :
    Calls Tryz.prog 38 #[.pointer (some ⟨x, 0, none⟩), .int .i64 id, v] w fun e w' => e = .returned .nilIface ∧
      ∃ T', (∀ c, c < w.heap.size → T' c = T c) ∧ IdxAt w' T' lo x kb yb (n + 1 + 2 * fs.length) (fun i => if i = id then true else outI id ids i) (addFs id (outF id F) fs) ∧ Only (OfIdx T) w w' := by
  have DO := Lib.hid (drop_any h id hw h0)
  have KN : Hid (∀ w1 T1, (∀ c, c < w.heap.size → T1 c = T c) → IdxAt w1 T1 lo x kb yb n (outI id ids) (outF id F) → Only (OfIdx T) w w1 → Calls Tryz.prog 80 #[.pointer (some ⟨x, 0, none⟩), .int .i64 id, v] w1 fun e w' => e = .returned (.tuple #[]) ∧
      ∃ T', (∀ c, c < w.heap.size → T' c = T c) ∧ IdxAt w' T' lo x kb yb (n + 1 + 2 * fs.length) (fun i => if i = id then true else outI id ids i) (addFs id (outF id F) fs) ∧ Only (OfIdx T) w w') := fun w1 T1 ht hi o1 => by
    have tr : ∀ W, Only (OfIdx T1) w1 W → Only (OfIdx T) w W := fun W hW => o1.trans hW fun r hr e => by unfold OfIdx at e ⊢; rwa [ht r hr] at e
    refine (know_any hi id hw v fs (fun W hW => hF W (tr W hW)) hn (fun k v => if_pos rfl) hf (Nat.le_trans hlo o1.size)).mono ?_
    rintro e w' ⟨rfl, T', ht', hi', ho⟩
    exact ⟨rfl, T', fun c hc => (ht' c (Nat.lt_of_lt_of_le hc o1.size)).trans (ht c hc), hi', tr _ ho⟩
  obtain ⟨A, cap, rfl, _⟩ := hF w (Only.refl _ _)
  clear h hF
  go_enter Tryz.func38, Tryz.ntmps38
  go_wp2_with fail
  refine DO.out.mono ?_
  rintro e w1 ⟨rfl, T1, ht, hi, o1⟩
  have K1 := Lib.hid (KN.out w1 T1 ht hi o1)
  clear hi ht o1
  go_wp2_with fail
  refine K1.out.mono ?_
  rintro e w2 ⟨rfl, T', ht, hi, ho⟩
  have HI := Lib.hid hi
  clear hi
  go_wp2_with fail
  go_ret
  exact ⟨rfl, T', ht, HI.out, ho⟩
set_option maxRecDepth 100000 in
set_option maxHeartbeats 1000000 in
/-- Put, of a number below 1. -/
theorem put_low (x : Nat) (id : Int) (h1 : id < 1) (A : Option Addr) (n c : Nat) (w : World) :
    Calls Tryz.prog 38 #[.pointer (some ⟨x, 0, none⟩), .int .i64 id, .slice A n c] w fun e w' => e = .returned (.iface 75 (.int .i64 1)) ∧ w' = w := by
  go_enter Tryz.func38, Tryz.ntmps38
  go_wp2_with fail
  go_ret
  exact ⟨rfl, rfl⟩
set_option maxRecDepth 100000 in
set_option maxHeartbeats 1000000 in
/-- Len: how many numbers are known. -/
theorem len_idx {w : World} {T : Nat → Tag} {lo x kb yb n : Nat} {ids : Int → Bool} {F : List UInt8 → List UInt8 → Int → Nat} (h : IdxAt w T lo x kb yb n ids F) (hn : n ≤ 1000000) :
    Calls Tryz.prog 40 #[.pointer (some ⟨x, 0, none⟩)] w fun e w' => ∃ ss : List Int, e = .returned (.int .i64 (ss.length : Nat)) ∧ ss.Nodup ∧ (∀ i, i ∈ ss ↔ ids i = true) ∧ w' = w := by
  have c0 : w.cell? ⟨x, 0, none⟩ = some (.map (some kb)) := h.base.cell.cell 0
  obtain ⟨D, ho, h1⟩ := h.base.known
  have hlen := fun ty => ho.len Tryz.underlying152 ty
  obtain ⟨es, hD, hp, _⟩ := ho.entries keyI
  obtain ⟨es', hD', hko⟩ := ho.keysOf
  obtain rfl : es = es' := by rw [hD] at hD'; simpa using hD'
  have hk : ∀ p ∈ es, ∃ x, p.1 = .int .i64 x := fun p hp => by obtain ⟨v, hv⟩ := hko p hp; obtain ⟨x, _, hx, _⟩ := Maps.keyOf_i64 Tryz.underlying3 hv; exact ⟨x, hx⟩
  have HS : Hid (∃ ss : List Int, Maps.size D = ss.length ∧ ss.Nodup ∧ ∀ i, i ∈ ss ↔ ids i = true) := by
    refine ⟨es.map fun p => Go.intOf p.1, by rw [hD, size_eq, List.length_map], ?_, fun i => ?_⟩
    · refine List.pairwise_map.2 (hp.imp_of_mem fun {p q} hp' hq' hne e => hne ?_)
      obtain ⟨a, ha⟩ := hk p hp'
      obtain ⟨b, hb⟩ := hk q hq'
      rw [ha, hb] at e ⊢
      exact congrArg _ e
    · rw [← h1 i, hD, has_eq, List.any_eq_true, List.mem_map]
      constructor
      · rintro ⟨p, hp', rfl⟩
        obtain ⟨a, ha⟩ := hk p hp'
        exact ⟨p, hp', by rw [ha]; simp [Lit.sameKey, Go.intOf]⟩
      · rintro ⟨p, hp', hs⟩
        obtain ⟨a, ha⟩ := hk p hp'
        rw [ha] at hs
        exact ⟨p, hp', by rw [ha]; simpa [Lit.sameKey, Go.intOf] using hs⟩
  clear hp hD hD' hko hk h1
  go_enter Tryz.func40, Tryz.ntmps40
  go_wp2_with fail
  go_ret
  obtain ⟨ss, q1, q2, q3⟩ := HS.out
  exact ⟨ss, by rw [q1]; rfl, q2, q3, rfl⟩
end Go.Proofs.YtiebbgbcojgeoaaGreatDoor

