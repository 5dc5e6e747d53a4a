/- Texts put together: BF, WM, WN, WP, WQ, BI. -/
import Derived.OwnWalk
import Derived.Laws.AppendOwn
import Derived.Test.YtgaooalckjjplaaGreatDoorBfa1
import Derived.Test.YtgaooalckjjplaaGreatDoorBfa2
import Derived.Test.YtgaooalckjjplaaGreatDoorBfa3
import Derived.Test.YtgaooalckjjplaaGreatDoorBfa4
import Derived.Test.YtgaooalckjjplaaGreatDoorBfa5
import Derived.Test.YtgaooalckjjplaaGreatDoorBfa7
import Derived.Test.YtgaooalckjjplaaGreatDoorBfa8
import Derived.Test.YtgaooalckjjplaaGreatDoorBfa9
import Derived.Test.YtgaooalckjjplaaGreatDoorBfa10
import Derived.Test.YtgaooalckjjplaaGreatDoorBfa11
import Derived.Test.YtgaooalckjjplaaGreatDoorBfa12
import Derived.Test.YtgaooalckjjplaaGreatDoorBfa13
import Derived.Test.YtgaooalckjjplaaGreatDoorBfa14
import Derived.Test.YtgaooalckjjplaaGreatDoorBfa15
import Derived.Test.YtgaooalckjjplaaGreatDoorBfa16
import Derived.Test.YtgaooalckjjplaaGreatDoorBdd1
import Derived.Test.YtgaooalckjjplaaGreatDoorBdd2
import Derived.Test.YtgaooalckjjplaaGreatDoorBdd3
import Derived.Test.YtgaooalckjjplaaGreatDoorBdd4
import Derived.Test.YtgaooalckjjplaaGreatDoorBdd5
set_option linter.unusedVariables false
namespace Go.Proofs.YtgaooalckjjplaaGreatDoor

def wL (ls : List (List UInt8)) : Nat := (ls.map fun x => x.length + 3).sum
def totL (xs : List (List UInt8)) : Nat := (xs.map fun x => x.length + 1).sum
theorem wL_snoc (ls : List (List UInt8)) (x : List UInt8) : wL (ls ++ [x]) = wL ls + (x.length + 3) := by simp [wL]
structure OkD (t : Nat) (s : StD) : Prop where
  cnt : ∀ ed ∈ s.1, 5 * ed.fields.length + wL s.2 ≤ t
  fin : ∀ ed ∈ s.1, ∀ f ∈ ed.fields, f.1.length ≤ 32 ∧ f.2.length ≤ 1000
  ids : ∀ ed ∈ s.1, I64 ed.id
  len : s.1.length ≤ 40
  wt : wL s.2 ≤ t
theorem OkD.mono {t t' : Nat} {s : StD} (h : OkD t s) (ht : t ≤ t') : OkD t' s :=
  ⟨fun ed hm => Nat.le_trans (h.cnt ed hm) ht, h.fin, h.ids, h.len, Nat.le_trans h.wt ht⟩
theorem unfold_wt {ls : List (List UInt8)} (h : unfoldN ls = 0) : 5 ≤ wL ls := by
  unfold unfoldN at h
  split at h
  · rename_i hs
    obtain ⟨a, r, rfl, hk, _⟩ := sayF_parts hs
    have : 2 ≤ a.length := by
      unfold kindL at hk
      split at hk
      · omega
      · split at hk
        · omega
        · split at hk
          · omega
          · split at hk
            · omega
            · split at hk
              · rename_i q
                obtain ⟨q1, q2⟩ := q
                unfold goodKey at q2
                simp only [Bool.and_eq_true, decide_eq_true_eq] at q2
                have hb : (before a).length < a.length := by
                  have h1 : (before a).length ≤ a.length := (List.takeWhile_sublist _).length_le
                  rcases Nat.lt_or_ge (before a).length a.length with z | z
                  · exact z
                  · exfalso
                    have e : before a = a := List.Sublist.eq_of_length_le (List.takeWhile_sublist _) z
                    have hm : (58 : UInt8) ∈ a := by unfold hasB at q1; simpa using q1
                    rw [← e] at hm
                    have h2 : ∀ (l : List UInt8), ∀ c ∈ l.takeWhile (· != 58), c ≠ 58 := fun l => by
                      induction l with
                      | nil => intro c hc; cases hc
                      | cons y r ih =>
                        intro c hc
                        rw [List.takeWhile_cons] at hc
                        split at hc
                        · rename_i hy
                          rcases List.mem_cons.1 hc with z1 | z1
                          · rw [z1]; simpa using hy
                          · exact ih c z1
                        · cases hc
                    exact h2 a 58 hm rfl
                omega
              · omega
    unfold wL; rw [List.map_cons, List.sum_cons]; omega
  · cases h
theorem flush_ok {t : Nat} {s s' : StD} (h : OkD t s) (hf : flushD s = some s') : OkD t s' ∧ s'.2 = [] := by
  unfold flushD at hf
  split at hf
  · rename_i q
    injection hf with hf
    subst hf
    exact ⟨h, q⟩
  · split at hf
    · rename_i q
      injection hf with hf
      subst hf
      refine ⟨?_, rfl⟩
      have hw := unfold_wt q
      obtain ⟨_, k1, k2⟩ := unfold_zero q
      rcases List.eq_nil_or_concat s.1 with h0 | ⟨p, e, h0⟩
      · rw [h0]
        exact ⟨fun ed hm => by simp [addF] at hm, fun ed hm => by simp [addF] at hm, fun ed hm => by simp [addF] at hm, by simp [addF], Nat.zero_le _⟩
      · rw [List.concat_eq_append] at h0
        have hc := h.cnt
        have hfi := h.fin
        have hi := h.ids
        have hl := h.len
        rw [h0] at hc hfi hi hl ⊢
        rw [addF_snoc]
        refine ⟨fun ed hm => ?_, fun ed hm => ?_, fun ed hm => ?_, by simpa using hl, Nat.zero_le _⟩
        · rcases List.mem_append.1 hm with q1 | q1
          · have := hc ed (List.mem_append_left _ q1)
            show 5 * ed.fields.length + 0 ≤ t
            omega
          · rw [List.mem_singleton.1 q1]
            have := hc e (List.mem_append_right _ List.mem_cons_self)
            show 5 * (e.fields ++ [_]).length + 0 ≤ t
            rw [List.length_append, List.length_singleton]
            omega
        · rcases List.mem_append.1 hm with q1 | q1
          · exact hfi ed (List.mem_append_left _ q1)
          · rw [List.mem_singleton.1 q1]
            intro f hfm
            rcases List.mem_append.1 hfm with q2 | q2
            · exact hfi e (List.mem_append_right _ List.mem_cons_self) f q2
            · rw [List.mem_singleton.1 q2]; exact ⟨k1, k2⟩
        · rcases List.mem_append.1 hm with q1 | q1
          · exact hi ed (List.mem_append_left _ q1)
          · rw [List.mem_singleton.1 q1]; exact hi e (List.mem_append_right _ List.mem_cons_self)
    · cases hf
theorem tryK_ok {s : List UInt8} {k : Int} {x : Ed} (h : I64 x.id ∧ x.fields = []) : I64 (tryK s k x).id ∧ (tryK s k x).fields = [] := by
  unfold tryK
  split
  · split
    · rename_i n hn
      exact ⟨(numL_some.1 hn).1, rfl⟩
    · exact h
  · exact h
theorem headD_ok (s : List UInt8) : I64 (headD s).id ∧ (headD s).fields = [] := tryK_ok (tryK_ok (tryK_ok ⟨⟨by decide, by decide⟩, rfl⟩))
theorem line_ok {t : Nat} {s s' : StD} {x : List UInt8} (h : OkD t s) (hs : Lib.hasPrefix x [32, 32] = false → s.2 = []) (hf : lineD s x = some s') : OkD (t + (x.length + 1)) s' := by
  unfold lineD at hf
  split at hf
  · rename_i q
    split at hf
    · cases hf
    · injection hf with hf
      subst hf
      have hx : 2 ≤ x.length := by
        unfold Lib.hasPrefix at q
        exact (List.isPrefixOf_iff_prefix.1 q).length_le
      have hd : (x.drop 2).length + 3 = x.length + 1 := by rw [List.length_drop]; omega
      refine ⟨fun ed hm => ?_, h.fin, h.ids, h.len, ?_⟩
      · have := h.cnt ed hm
        show 5 * ed.fields.length + wL (s.2 ++ [x.drop 2]) ≤ _
        rw [wL_snoc]; omega
      · have := h.wt
        show wL (s.2 ++ [x.drop 2]) ≤ _
        rw [wL_snoc]; omega
  · rename_i q
    split at hf
    · cases hf
    · rename_i q2
      injection hf with hf
      subst hf
      have h0 := hs (by simpa using q)
      obtain ⟨hi, hfl⟩ := headD_ok x
      refine ⟨fun ed hm => ?_, fun ed hm => ?_, fun ed hm => ?_, ?_, ?_⟩
      · rcases List.mem_append.1 hm with q1 | q1
        · have := h.cnt ed q1
          show 5 * ed.fields.length + wL s.2 ≤ _
          omega
        · rw [List.mem_singleton.1 q1, hfl]
          show 0 + wL s.2 ≤ _
          rw [h0]; simp [wL]
      · rcases List.mem_append.1 hm with q1 | q1
        · exact h.fin ed q1
        · rw [List.mem_singleton.1 q1, hfl]; intro f hfm; cases hfm
      · rcases List.mem_append.1 hm with q1 | q1
        · exact h.ids ed q1
        · rw [List.mem_singleton.1 q1]; exact hi
      · show (s.1 ++ [headD x]).length ≤ 40
        rw [List.length_append, List.length_singleton]; omega
      · have := h.wt
        show wL s.2 ≤ _
        omega
theorem step_ok {t : Nat} {s s' : StD} {x : List UInt8} (h : OkD t s) (hf : stepD s x = some s') : OkD (t + (x.length + 1)) s' := by
  unfold stepD at hf
  split at hf
  · rename_i q
    refine line_ok h (fun q2 => ?_) hf
    unfold Lib.hasPrefix at q q2
    have h1 := List.isPrefixOf_iff_prefix.1 q
    have h2 : ([32, 32] : List UInt8) <+: x := List.IsPrefix.trans ⟨[32], rfl⟩ h1
    rw [List.isPrefixOf_iff_prefix.2 h2] at q2
    cases q2
  · cases hs : flushD s with
    | none => rw [hs] at hf; cases hf
    | some s1 =>
      rw [hs] at hf
      obtain ⟨o1, o2⟩ := flush_ok h hs
      exact line_ok o1 (fun _ => o2) hf
theorem run_ok : ∀ (xs : List (List UInt8)) {t : Nat} {s s' : StD}, OkD t s → runD xs s = some s' → OkD (t + totL xs) s'
  | [], t, s, s', h, hr => by
    injection hr with hr
    subst hr
    exact h
  | x :: r, t, s, s', h, hr => by
    rw [runD] at hr
    cases hs : stepD s x with
    | none => rw [hs] at hr; cases hr
    | some s1 =>
      rw [hs] at hr
      have := run_ok r (step_ok h hs) hr
      have e : totL (x :: r) = x.length + 1 + totL r := by unfold totL; rw [List.map_cons, List.sum_cons]
      rw [e, ← Nat.add_assoc]
      exact this
theorem okD_start : OkD 0 ([], []) := ⟨(fun ed hm => by cases hm), (fun ed hm => by cases hm), (fun ed hm => by cases hm), Nat.zero_le _, Nat.le_refl _⟩
end Go.Proofs.YtgaooalckjjplaaGreatDoor

namespace Go.Proofs.YtgaooalckjjplaaGreatDoor
open Go.RowKit Go.Shelf

theorem cellsOf_snoc (xs : List Ln) (x : Ln) : cellsOf (xs ++ [x]) = cellsOf xs ++ (lineV x).toList := by unfold cellsOf; simp

theorem lineV_len (x : Ln) : (lineV x).toList.length = 4 := rfl
theorem cellsOf_at : ∀ (pre : List Ln) (x : Ln) (post : List Ln) (j : Nat), j < 4 → (cellsOf (pre ++ x :: post))[pre.length * 4 + j]? = (lineV x).toList[j]?
  | [], x, post, j, hj => by
    show ((lineV x).toList ++ cellsOf post)[_]? = _
    rw [List.getElem?_append_left (by rw [lineV_len]; simp; omega)]; simp
  | y :: pre, x, post, j, hj => by
    show ((lineV y).toList ++ cellsOf (pre ++ x :: post))[_]? = _
    rw [List.getElem?_append_right (by rw [lineV_len]; simp; omega), lineV_len]
    rw [show (y :: pre).length * 4 + j - 4 = pre.length * 4 + j by simp; omega]
    exact cellsOf_at pre x post j hj
theorem info30 : (Tryz.prog.info? 110).map (fun i => (i.zero, i.size, i.bytes)) = some (some (.agg #[.int .i64 0, .int .i64 0, .string ⟨#[]⟩, .bool false]), 4, 40) := by kernel_rfl

/-- A line, laid in a block of its own ahead of an append. -/
theorem lineCells (W : World) (x : Ln) (t : TypeId) : ∀ j u, (lineV x).toList[j]? = some u → (W.alloc (.cells (lineV x) t)).cell? ((⟨W.heap.size, 0, none⟩ : Addr).add j) = some u := by
  intro j u h
  have hadd : (⟨W.heap.size, 0, none⟩ : Addr).add j = ⟨W.heap.size, j, none⟩ := by unfold Addr.add; split <;> simp_all
  rw [hadd]
  have := (Cells.new W t (lineV x)).cell j
  rw [this]
  simpa using h

theorem extract_eq (s : ByteArray) (a b : Nat) : s.extract a b = ⟨((s.data.toList.drop a).take (b - a)).toArray⟩ := by
  rw [← Lib.mk_data (s.extract a b), Lib.extract_data]
theorem Upto.start (l : List UInt8) : Upto l 0 0 [] := ⟨rfl, Nat.le_refl _, fun j _ h => absurd h (Nat.not_lt_zero j), Nat.le_refl _⟩
set_option maxHeartbeats 2000000 in
theorem refSplit_any (s : ByteArray) (hs : s.size ≤ 1000000) (w : World) :
    Calls Tryz.prog 46 #[.string s] w fun e w' => ∃ v, e = .returned v ∧ w'.ownsRow w.heap.size 110 4 v (linesOf s.data.toList).length (cellsOf (linesOf s.data.toList)) ∧ Below w.heap.size w w' := by
  have N5 := Lib.hid (Lib.size_eq s)
  obtain ⟨i0, hi, hz0, hz1, hz2⟩ := info_parts info30
  go_enter Tryz.func46, Tryz.ntmps46
  go_wp2
  go_loopw [3, 4, 5] (fun v a i wr => ∃ (k at_ : Nat) (pre : List Ln), k ≤ s.size ∧ i = .int .i64 k ∧ a = .int .i64 at_ ∧ Upto s.data.toList k at_ pre ∧ (∃ ao cap, v = .slice ao pre.length cap ∧ wr.ownsRow w.heap.size 110 4 (.slice ao pre.length cap) pre.length (cellsOf pre)) ∧ Below w.heap.size w wr)
    (fun _ _ i _ => s.size - (intOf i).toNat)
  case atStart => exact ⟨0, 0, [], Nat.zero_le _, rfl, rfl, Upto.start _, ⟨none, 0, rfl, World.ownsRow_nil _ _ _ _⟩, Below.refl _ _⟩
  case round =>
    obtain ⟨k, at_, pre, hk, rfl, rfl, hu, ⟨ao, cap, rfl, hown⟩, hb⟩ := hrel
    by_cases hlt : k < s.size
    · have e : s.data.toList[k]? = some s[k] := by
        rw [List.getElem?_eq_getElem (by rw [← Lib.size_eq]; exact hlt)]; rfl
      have E := Lib.hid e
      clear e
      have q2 := byte_eq (c := s[k]) (d := 10) 10 rfl
      cases h5 : (s[k] == 10) with
      | false =>
        rw [h5] at q2
        have hu' := hu.step (k := k) (by rw [E.out]; simpa using h5)
        go_wp2
        go_roundw
        case rel => exact ⟨k + 1, at_, pre, hlt, by go_num, rfl, hu', ⟨ao, cap, rfl, hown⟩, hb⟩
        case measure => simp [intOf]; omega
      | true =>
        rw [h5] at q2
        have hu' := hu.line (k := k) (by rw [E.out]; simpa using h5)
        have he := extract_eq s at_ k
        generalize (s.data.toList.drop at_).take (k - at_) = tx at *
        have z1 := hu.le
        have z2 := hu.short
        have hc := lineCells wr ⟨pre.length, at_, tx, true⟩ 110
        dsimp only [lineV] at hc
        have HC := Lib.hid hc
        clear hc
        go_wp2_with (at_builtin; refine wpList_append_own _ rfl _ _ 106 rfl w.heap.size 110 i0 _ 4 40 Tryz.underlying106 hi hz0 hz1 hz2 rfl (by decide) _ _ _ rfl (hown.alloc _) ⟨wr.heap.size, 0, none⟩ 1 1 _ rfl rfl HC.out ?c2 ?c3 ?c4 ?c5 ?_)
        case c2 => intro u hu; simp at hu; rcases hu with rfl | rfl | rfl | rfl <;> rfl
        case c3 => unfold maxLen; omega
        case c4 => omega
        case c5 => have := hb.size; simp; omega
        intro v' w1 hown' hgrow _
        obtain ⟨g', cap', rfl⟩ := ownsRow_succ hown'
        have hb1 : Below w.heap.size w w1 := (hb.alloc hb.size _).grown hgrow (by have := hb.size; simp; omega) (fun j ej => (hown.lt j ej).1)
        go_wp2
        go_roundw
        case rel =>
          refine ⟨k + 1, k + 1, _, hlt, by go_num, by go_num, hu', ⟨some ⟨g', 0, none⟩, cap', ?_, ?_⟩, hb1⟩
          · rw [List.length_append]; rfl
          · rw [List.length_append, cellsOf_snoc]; exact hown'
        case measure => simp [intOf]; omega
    · obtain rfl : k = s.size := by omega
      have hl := hu.last N5.out
      have z1 := hu.le
      have z2 := hu.short
      by_cases h6 : at_ < s.size
      · rw [if_pos (by rw [← N5.out]; exact h6)] at hl
        have HL := Lib.hid hl
        have he : s.extract at_ s.size = ⟨(s.data.toList.drop at_).toArray⟩ := by rw [← Lib.mk_data (s.extract at_ s.size), Lib.extract_to_end]
        clear hl hu
        generalize s.data.toList.drop at_ = tx at *
        have hc := lineCells wr ⟨pre.length, at_, tx, false⟩ 110
        dsimp only [lineV] at hc
        have HC := Lib.hid hc
        clear hc
        go_wp2_with (at_builtin; refine wpList_append_own _ rfl _ _ 106 rfl w.heap.size 110 i0 _ 4 40 Tryz.underlying106 hi hz0 hz1 hz2 rfl (by decide) _ _ _ rfl (hown.alloc _) ⟨wr.heap.size, 0, none⟩ 1 1 _ rfl rfl HC.out ?d2 ?d3 ?d4 ?d5 ?_)
        case d2 => intro u hu; simp at hu; rcases hu with rfl | rfl | rfl | rfl <;> rfl
        case d3 => unfold maxLen; omega
        case d4 => omega
        case d5 => have := hb.size; simp; omega
        intro v' w1 hown' hgrow _
        have hb1 : Below w.heap.size w w1 := (hb.alloc hb.size _).grown hgrow (by have := hb.size; simp; omega) (fun j ej => (hown.lt j ej).1)
        go_wp2
        go_ret
        refine ⟨v', rfl, ?_, hb1⟩
        rw [HL.out, List.length_append, cellsOf_snoc]; exact hown'
      · rw [if_neg (by rw [← N5.out]; exact h6)] at hl
        have HL := Lib.hid hl
        clear hl hu
        go_wp2
        go_ret
        refine ⟨_, rfl, ?_, hb⟩
        rw [HL.out]; exact hown
end Go.Proofs.YtgaooalckjjplaaGreatDoor

namespace Go.Proofs.YtgaooalckjjplaaGreatDoor
open Go.RowKit Go.Shelf
attribute [local go_sem] Oper.semAt_some


theorem Live.says {w : World} {z : Nat} {stop : Int} {v : Value} {s : ByteArray} {n y k : Nat} : ∀ W, Live w z stop v s n y k W →
    W.cell? ⟨w.heap.size, 0, none⟩ = some (.int .i64 stop) ∧ W.cell? ⟨z, 0, none⟩ = some v ∧ W.cell? ⟨z + 1, 0, none⟩ = some (.string s) ∧ W.cell? ⟨z + 1 + 1, 0, none⟩ = some (.int .i64 n) ∧
    W.cell? ⟨y, 0, none⟩ = some (.int .i64 k) ∧ W.cell? ⟨w.heap.size + 1, 0, none⟩ = some (.bool (flag W ⟨w.heap.size + 1, 0, none⟩)) ∧ W.frozen? ⟨w.heap.size + 1, 0, none⟩ = false ∧ Live w z stop v s n y k W := by
  intro W h
  obtain ⟨_, _, b, ⟨h1, h2, h3, h4, h5, h6, h7⟩, h8, h9⟩ := id h
  exact ⟨h1.cell, h3.cell, h4.cell, h5.cell, h8.cell, by unfold flag; rw [h2.cell], h2.frozen, h⟩
end Go.Proofs.YtgaooalckjjplaaGreatDoor

namespace Go.Proofs.YtgaooalckjjplaaGreatDoor
open Go.RowKit Go.Shelf
attribute [local go_sem] Oper.semAt_some

/-- The lines without what is ahead of them. -/
def cutL (p : List UInt8) (xs : List Ln) : List UInt8 := xs.flatMap fun x => Lib.trimPrefix x.text p ++ if x.ended then [10] else []
theorem cutL_snoc (p : List UInt8) (pre : List Ln) (x : Ln) : cutL p (pre ++ [x]) = cutL p pre ++ Lib.trimPrefix x.text p ++ (endS x.ended).data.toList := by
  have e : (endS x.ended).data.toList = if x.ended then [10] else [] := by unfold endS; cases x.ended <;> rfl
  rw [e]
  simp [cutL]
theorem cutL_len (p : List UInt8) : ∀ xs : List Ln, (cutL p xs).length ≤ (xs.flatMap Ln.bytes).length
  | [] => by simp [cutL]
  | x :: xs => by
    have ih := cutL_len p xs
    have h1 := Lib.trimPrefix_le x.text p
    have e : cutL p (x :: xs) = (Lib.trimPrefix x.text p ++ if x.ended then [10] else []) ++ cutL p xs := by simp [cutL]
    rw [e, List.flatMap_cons]
    simp only [List.length_append, Ln.bytes]
    omega
theorem dd_all (p : List UInt8) (xs : List Ln) (h : ∀ x ∈ xs, Lib.hasPrefix x.text p = true) : dd p (xs.map sees) = (cutL p xs, true) := by
  unfold dd
  rw [if_pos]
  · rw [List.flatMap_map]
    congr 1
    unfold cutL
    induction xs with
    | nil => rfl
    | cons x xs ih =>
      rw [List.flatMap_cons, List.flatMap_cons, ih (fun y hy => h y (List.mem_cons_of_mem _ hy))]
      have := h x List.mem_cons_self
      simp only [Lib.trimPrefix, this, if_true, sees]
      rfl
  · rw [List.all_eq_true]
    intro y hy
    obtain ⟨x, hx, rfl⟩ := List.mem_map.1 hy
    exact h x hx
theorem dd_some (p : List UInt8) (xs : List Ln) (x : Ln) (hx : x ∈ xs) (h : Lib.hasPrefix x.text p = false) : dd p (xs.map sees) = ([], false) := by
  unfold dd
  rw [if_neg]
  intro ha
  have := (List.all_eq_true.1 ha) (sees x) (List.mem_map.2 ⟨x, hx, rfl⟩)
  have e : Lib.hasPrefix x.text p = true := this
  rw [h] at e
  cases e

def Rooms (w : World) (p : ByteArray) (W : World) : Prop :=
  Boxed W w.heap.size 9 (.string p) ∧ Boxed W (w.heap.size + 1) 9 (.string ⟨#[]⟩) ∧ Boxed W (w.heap.size + 2) 4 (.bool false) ∧ Below w.heap.size w W
theorem Rooms.turned {w : World} {p : ByteArray} {W W' : World} {B k : Nat} (h : Rooms w p W) (ht : Turned B k W W') (hB : w.heap.size + 2 < B) : Rooms w p W' :=
  ⟨ht.box h.1 (.inl (by omega)), ht.box h.2.1 (.inl (by omega)), ht.box h.2.2.1 (.inl hB), h.2.2.2.trans (ht.below (by omega) h.2.2.2.size)⟩
theorem Rooms.alloc {w : World} {p : ByteArray} {W : World} (h : Rooms w p W) (o : Obj) : Rooms w p (W.alloc o) := ⟨h.1.alloc _, h.2.1.alloc _, h.2.2.1.alloc _, h.2.2.2.alloc h.2.2.2.size _⟩
theorem Rooms.wrote {w : World} {p : ByteArray} {W W' : World} {b R : Nat} (h : Rooms w p W) (ho : Wrote b R W W') (hb : w.heap.size + 2 < b) (hR : w.heap.size + 2 < R) : Rooms w p W' :=
  ⟨ho.box h.1 (by omega) (by omega), ho.box h.2.1 (by omega) (by omega), ho.box h.2.2.1 (by omega) (by omega), h.2.2.2.trans (ho.below (by omega) (by omega) h.2.2.2.size)⟩
/-- What holds between two rounds. -/
def InvD (w : World) (p : ByteArray) (R : Nat) (pre : List Ln) (W : World) : Prop :=
  Rooms w p W ∧ Bld (w.heap.size + 3) R (cutL p.data.toList pre) W ∧ ∀ x ∈ pre, Lib.hasPrefix x.text p.data.toList = true
/-- What holds behind the return in the loop. -/
def OutD (w : World) (p : ByteArray) (c : Code) (pre : List Ln) (W : World) : Prop :=
  Rooms w p W ∧ c = .ret ∧ ∃ x ∈ pre, Lib.hasPrefix x.text p.data.toList = false

/-- The way out: the mark is taken, the results are read from their boxes. -/
theorem twoOut (w W : World) (a b : ByteArray × Bool) (tmps : Array Value) (h4 : Boxed W (w.heap.size + 1) 9 (.string a.1)) (h5 : Boxed W (w.heap.size + 2) 4 (.bool b.2)) (hK : W.heap[w.heap.size + 5]? = some (.deferred (some []))) (hB : Below w.heap.size w W) (t4 : tmps[4]? = some (.pointer (some ⟨w.heap.size + 1, 0, none⟩))) (t5 : tmps[5]? = some (.pointer (some ⟨w.heap.size + 2, 0, none⟩))) :
    bodyPostM Fence.wide 9 Tryz.prog Tryz.f173 (fun e w' => e = .returned (.tuple #[.string a.1, .bool b.2]) ∧ Below w.heap.size w w') .ret { tmps := tmps, defers := [{ target := .collected (w.heap.size + 5), args := #[] }] } W := by
  have p1 := grownBy_putObj' W (w.heap.size + 5) (.deferred none)
  have zW : w.heap.size + 5 < W.heap.size := (Array.getElem?_eq_some_iff.1 hK).1
  have r4 : Boxed (W.putObj (w.heap.size + 5) (.deferred none)) (w.heap.size + 1) 9 (.string a.1) := (p1.block _ (by omega) (fun e => by have := Option.some.inj e; omega)).trans h4
  have r5 : Boxed (W.putObj (w.heap.size + 5) (.deferred none)) (w.heap.size + 2) 4 (.bool b.2) := (p1.block _ (by omega) (fun e => by have := Option.some.inj e; omega)).trans h5
  have c4 := r4.cell
  have c5 := r5.cell
  refine ⟨by simp, .inl ⟨_, _, rfl, run_takeDeferred hK, ?_⟩⟩
  exact ⟨.tuple #[.string a.1, .bool b.2], by simp [results, Tryz.f173, go_sem, t4, t5, c4, c5], rfl, hB.trans (belowK_b (w := w) (Nat.le_refl _) W _ _ _ (by omega) hK rfl rfl)⟩

set_option maxRecDepth 100000 in
set_option maxHeartbeats 4000000 in
theorem dedent_any (s p : ByteArray) (hs : s.size ≤ 1000000000) (w : World) :
    Calls Tryz.prog 173 #[.string s, .string p] w fun e w' => e = .returned (.tuple #[.string ⟨(dd p.data.toList ((linesOf s.data.toList).map sees)).1.toArray⟩, .bool (dd p.data.toList ((linesOf s.data.toList).map sees)).2]) ∧ Below w.heap.size w w' := by
  have hjl : ((linesOf s.data.toList).flatMap Ln.bytes).length ≤ 1000000000 := by rw [linesOf_join, ← Lib.size_eq]; exact hs
  obtain ⟨xs, hxs⟩ : ∃ xs, linesOf s.data.toList = xs := ⟨_, rfl⟩
  rw [hxs] at hjl ⊢
  have HXS := Lib.hid hxs
  clear hxs
  refine callsIn_wide (n := 9).1 ?_
  refine callsIn_of_wp_marks Tryz.func173 rfl trivial ?_ rfl
  simp only [Tryz.ntmps173, List.size_toArray, List.length_cons, List.length_nil, Nat.reduceAdd, Nat.reduceSub, Array.replicate_succ, Array.replicate_zero, List.push_toArray, List.append_toArray, List.nil_append, List.cons_append]
  gi_wp2_with fail
  refine ⟨trivial, (callsIn_wide.2 (split_any s _)).mono ?_⟩
  rintro e w3 ⟨rfl, rfl⟩
  gi_wp2_with fail
  have k1 := Boxed.new w 9 (.string p)
  have k2 := boxNew2 w (.cells #[.string p] 9) 9 (.string ⟨#[]⟩)
  have k3 := boxNew3 w (.cells #[.string p] 9) (.cells #[.string ⟨#[]⟩] 9) 4 (.bool false)
  have kb := Bld.new (((w.alloc (.cells #[.string p] 9)).alloc (.cells #[.string ⟨#[]⟩] 9)).alloc (.cells #[.bool false] 4)) (w.heap.size + 10)
  have kz : (((w.alloc (.cells #[.string p] 9)).alloc (.cells #[.string ⟨#[]⟩] 9)).alloc (.cells #[.bool false] 4)).heap.size = w.heap.size + 3 := by simp
  rw [kz] at kb
  have rooms : Rooms w p (((w.alloc (.cells #[.string p] 9)).alloc (.cells #[.string ⟨#[]⟩] 9)).alloc (.cells #[.bool false] 4)) :=
    ⟨(k1.alloc _).alloc _, k2.alloc _, k3, ((((Below.refl _ w).alloc (Nat.le_refl _) _).alloc (by simp) _).alloc (by simp; omega) _)⟩
  generalize ((w.alloc (.cells #[.string p] 9)).alloc (.cells #[.string ⟨#[]⟩] 9)).alloc (.cells #[.bool false] 4) = w1 at *
  have k7 := boxNew2 w1 (.cells #[.pointer none, .slice none 0 0] 121) 9 (.string s)
  rw [kz] at k7
  have HH := split_hands s (w.heap.size + 4) _ k7 (by omega)
  rw [HXS.out] at HH
  have hz : ((w1.alloc (.cells #[.pointer none, .slice none 0 0] 121)).alloc (.cells #[.string s] 9)).heap.size = w.heap.size + 5 := by simp [kz]
  have ab : ∀ k, k ≤ 5 → Abide (w.heap.size + 5) k (InvD w p (w.heap.size + 10)) := fun k hk pre W W' h ht =>
    ⟨h.1.turned ht (by omega), h.2.1.turned ht (by omega) (by omega), h.2.2⟩
  have init : InvD w p (w.heap.size + 10) [] ((w1.alloc (.cells #[.pointer none, .slice none 0 0] 121)).alloc (.cells #[.string s] 9)) :=
    ⟨(rooms.alloc _).alloc _, kb.alloc _, fun x hx => by cases hx⟩
  refine wp_rangedA (gf := 132) (lb := #[.pointer (some ⟨w.heap.size + 4, 0, none⟩)]) rfl (enters_of Tryz.func132 (by kernel_rfl) rfl) HH (fun _ => rfl)
    (InvD w p (w.heap.size + 10)) (OutD w p) (by rw [hz]; exact ab _ (by omega)) (fun c pre W W' h ht => ⟨h.1.turned ht (by rw [hz]; omega), h.2⟩) init
    (fun a pre x a' W => ∃ Bx, w.heap.size + 5 + 5 ≤ Bx ∧ a' = { tmps := (a.tmps.setIfInBounds 12 (.agg (lineV x))).setIfInBounds 7 (.pointer (some ⟨Bx, 0, none⟩)), defers := [] } ∧ Cells W Bx 172 (lineV x) ∧
      InvD w p (w.heap.size + 10) pre W)
    ?hM ?assign ?body ?done ?stop
  case hM =>
    rw [hz]
    rintro a pre x a' _ W W' ⟨Bx, h1, h2, h3, h4⟩ ht
    exact ⟨Bx, h1, h2, (ht.same Bx h3.lt (.inr (by omega))).trans h3, ab 2 (by omega) pre W W' h4 ht⟩
  case assign =>
    rw [hz]
    intro l pre x post W hx hsz hi
    clear hx
    dsimp only [lineV]
    gi_wp2
    exact ⟨(Stay.refl _ _ W).alloc hsz _, W.heap.size, by omega, rfl, Cells.new _ _ _, hi.1.alloc _, hi.2.1.alloc _, hi.2.2⟩
  case body =>
    rw [hz]
    rintro l pre x post a' W hx hsz ⟨Bx, hB, rfl, hc, h1, h2, h3⟩
    have hlen := cutL_len p.data.toList (pre ++ [x])
    have hlen2 : ((pre ++ [x]).flatMap Ln.bytes).length ≤ 1000000000 := by
      rw [hx, show pre ++ x :: post = (pre ++ [x]) ++ post by simp, List.flatMap_append, List.length_append] at hjl
      omega
    have hlen := Nat.le_trans hlen hlen2
    rw [cutL_snoc] at hlen
    simp only [List.length_append, ← Lib.size_eq] at hlen
    have HS := Lib.hid (cutL_snoc p.data.toList pre x)
    clear hx hjl hlen2
    simp only [List.setIfInBounds_toArray, List.set_cons_zero, List.set_cons_succ, lineV] at hc ⊢
    have hne : Bx ≠ w.heap.size + 3 := by omega
    obtain ⟨en, hen⟩ : ∃ en, x.ended = en := ⟨_, rfl⟩
    rw [hen] at hlen hc ⊢
    have c3 := h1.1.cell
    have p2 : W.cell? ⟨Bx, 2, none⟩ = some (.string ⟨x.text.toArray⟩) := hc.cell 2
    gi_wp2_with fail
    refine ⟨trivial, ((callsIn_wide.2 (Tryz.strings_CutPrefix ⟨x.text.toArray⟩ p W)).inRound l).mono ?_⟩
    rintro e V ⟨rfl, rfl⟩
    have eh : Lib.hasPrefix (⟨x.text.toArray⟩ : ByteArray).data.toList p.data.toList = Lib.hasPrefix x.text p.data.toList := rfl
    have et : Lib.trimPrefix (⟨x.text.toArray⟩ : ByteArray).data.toList p.data.toList = Lib.trimPrefix x.text p.data.toList := rfl
    rw [eh, et]
    cases hp : Lib.hasPrefix x.text p.data.toList
    · have c4 := h1.2.1.cell
      have f4 := h1.2.1.frozen
      have c5 : V.cell? ⟨w.heap.size + 1 + 1, 0, none⟩ = some (.bool false) := h1.2.2.1.cell
      have f5 : V.frozen? ⟨w.heap.size + 1 + 1, 0, none⟩ = false := h1.2.2.1.frozen
      gi_wp2
      refine ⟨((Stay.refl _ _ _).setCell (.inl (by show w.heap.size + 1 < _; omega)) _).setCell (.inl (by show w.heap.size + 1 + 1 < _; omega)) _, ?_, rfl, x, by simp, hp⟩
      refine ⟨setOther (setOther h1.1 (by omega) _) (by omega) _, setOther (Boxed.set _ h1.2.1) (by omega) _, Boxed.set _ (setOther h1.2.2.1 (by omega) _), ?_⟩
      exact (h1.2.2.2.setCell (p := ⟨w.heap.size + 1, 0, none⟩) (by show _ ≤ w.heap.size + 1; omega) _).setCell (p := ⟨w.heap.size + 1 + 1, 0, none⟩) (by show _ ≤ w.heap.size + 1 + 1; omega) _
    · gi_wp2_with fail
      refine ⟨trivial, ((callsIn_wide.2 (writes (w.heap.size + 3) (w.heap.size + 10) _ ⟨(Lib.trimPrefix x.text p.data.toList).toArray⟩ V h2 (by omega) (by omega) ?_)).inRound l).mono ?_⟩
      · have e1 : (⟨(Lib.trimPrefix x.text p.data.toList).toArray⟩ : ByteArray).size = (Lib.trimPrefix x.text p.data.toList).length := by simp [ByteArray.size]
        omega
      rintro e W2 ⟨rfl, b2, o2⟩
      have m2 : Cells W2 Bx 172 _ := o2.other hc hne (by decide)
      have z2 := o2.size
      have q0 : W2.cell? ⟨Bx, 0, none⟩ = some (.int .i64 x.no) := m2.cell 0
      have q1 : W2.cell? ⟨Bx, 1, none⟩ = some (.int .i64 x.at_) := m2.cell 1
      have q2 : W2.cell? ⟨Bx, 2, none⟩ = some (.string ⟨x.text.toArray⟩) := m2.cell 2
      have q3 : W2.cell? ⟨Bx, 3, none⟩ = some (.bool en) := m2.cell 3
      gi_wp2_with fail
      refine ⟨trivial, ((callsIn_wide.2 (end_any _ _ _ _ _)).inRound l).mono ?_⟩
      rintro e W3 ⟨rfl, rfl⟩
      gi_wp2_with fail
      refine ⟨trivial, ((callsIn_wide.2 (writes (w.heap.size + 3) (w.heap.size + 10) _ (endS en) _ (b2.alloc _) (by omega) (by simp; omega) ?_)).inRound l).mono ?_⟩
      · simp only [List.length_append]
        omega
      rintro e W4 ⟨rfl, b3, o3⟩
      gi_wp2_with fail
      have oo := (o2.alloc (.cells #[.int .i64 x.no, .int .i64 x.at_, .string ⟨x.text.toArray⟩, .bool en] 172)).trans o3
      refine ⟨oo.stay (by omega) (by omega) (by omega), h1.wrote oo (by omega) (by omega), ?_, ?_⟩
      · rw [HS.out, hen]
        exact b3
      · intro y hy
        rcases List.mem_append.1 hy with h | h
        · exact h3 y h
        · rw [List.mem_singleton.1 h]; exact hp
  case done =>
    rw [hz]
    rintro W ⟨h1, h2, h3⟩ hmark
    have zW : w.heap.size + 5 < W.heap.size := (Array.getElem?_eq_some_iff.1 hmark).1
    gi_wp2_with fail
    refine ⟨trivial, (callsIn_wide.2 (Tryz.Builder_String_any_k (w.heap.size + 3) (w.heap.size + 3) _ W (h2.library (by omega) (by omega)) (by omega))).mono ?_⟩
    rintro e W1 ⟨rfl, _, g2, g3⟩
    have hK : W1.heap[w.heap.size + 5]? = some (.deferred (some [])) := g3 _ _ hmark (by simp) (fun c fz e => by cases e)
    have b4 : Boxed W1 (w.heap.size + 1) 9 (.string ⟨#[]⟩) := under h1.2.1 g2 (by omega)
    have b5 : Boxed W1 (w.heap.size + 2) 4 (.bool false) := under h1.2.2.1 g2 (by omega)
    have hbel : Below w.heap.size w W1 := h1.2.2.2.trans (g2.mono (by omega))
    have c4 := b4.cell
    have f4 := b4.frozen
    have c5 : W1.cell? ⟨w.heap.size + 1 + 1, 0, none⟩ = some (.bool false) := b5.cell
    have f5 : W1.frozen? ⟨w.heap.size + 1 + 1, 0, none⟩ = false := b5.frozen
    clear k1 k2 k3 kb k7 HH ab init rooms
    gi_wp2
    rw [dd_all _ _ h3]
    obtain ⟨W2, hW2⟩ : ∃ W2, (W1.setCell ⟨w.heap.size + 1, 0, none⟩ (.string ⟨(cutL p.data.toList xs).toArray⟩)).setCell ⟨w.heap.size + 1 + 1, 0, none⟩ (.bool true) = W2 := ⟨_, rfl⟩
    have e4 : Boxed W2 (w.heap.size + 1) 9 (.string ⟨(cutL p.data.toList xs).toArray⟩) := by rw [← hW2]; exact setOther (Boxed.set _ b4) (by omega) _
    have e5 : Boxed W2 (w.heap.size + 2) 4 (.bool true) := by rw [← hW2]; exact Boxed.set _ (setOther b5 (by omega) _)
    have eK : W2.heap[w.heap.size + 5]? = some (.deferred (some [])) := by
      rw [← hW2]
      exact (Below.heap_setCell _ _ _ _ (by show w.heap.size + 5 ≠ w.heap.size + 1 + 1; omega)).trans ((Below.heap_setCell _ _ _ _ (by show w.heap.size + 5 ≠ w.heap.size + 1; omega)).trans hK)
    have eB : Below w.heap.size w W2 := by
      rw [← hW2]
      exact (hbel.setCell (p := ⟨w.heap.size + 1, 0, none⟩) (by show _ ≤ w.heap.size + 1; omega) _).setCell (p := ⟨w.heap.size + 1 + 1, 0, none⟩) (by show _ ≤ w.heap.size + 1 + 1; omega) _
    rw [hW2]
    exact twoOut w W2 (⟨(cutL p.data.toList xs).toArray⟩, true) (⟨#[]⟩, true) _ e4 e5 eK eB rfl rfl
  case stop =>
    rw [hz]
    rintro c pre W hpre ⟨h1, rfl, x, hx, hp⟩ hmark
    have zW : w.heap.size + 5 < W.heap.size := (Array.getElem?_eq_some_iff.1 hmark).1
    gi_wp2
    rw [dd_some _ _ x (hpre.subset hx) hp]
    exact twoOut w W (⟨#[]⟩, false) (⟨#[]⟩, false) _ h1.2.1 h1.2.2.1 hmark h1.2.2.2 rfl rfl
end Go.Proofs.YtgaooalckjjplaaGreatDoor

namespace Go.Proofs.YtgaooalckjjplaaGreatDoor
open Go.RowKit Go.Shelf

theorem mkText (a b : List UInt8) (j : ByteArray) : (⟨a.toArray⟩ : ByteArray) ++ j ++ ⟨b.toArray⟩ = ⟨(a ++ j.data.toList ++ b).toArray⟩ := by
  rw [← mkAppend, ← mkAppend, Lib.mk_data j]
theorem go_idx (pre : List Ln) (x : Ln) : Value.int .i64 ((pre.length : Int) + 1) = Value.int .i64 ((pre ++ [x]).length : Nat) := by rw [List.length_append]; rfl
theorem bytes_le (l : List UInt8) : ∀ x ∈ linesOf l, x.bytes.length ≤ l.length := by
  intro x hx
  have e := linesOf_join l
  obtain ⟨a, b, hab⟩ := List.append_of_mem hx
  rw [hab, List.flatMap_append, List.flatMap_cons] at e
  have := congrArg List.length e
  simp only [List.length_append] at this
  omega
theorem rowCells {W : World} {base g cap : Nat} {xs pre post : List Ln} {x : Ln} (h : W.ownsRow base 110 4 (.slice (some ⟨g, 0, none⟩) xs.length cap) xs.length (cellsOf xs)) (hx : xs = pre ++ x :: post) :
    W.cell? ⟨g, pre.length * 4, none⟩ = some (.int .i64 x.no) ∧ W.cell? ⟨g, pre.length * 4 + 1, none⟩ = some (.int .i64 x.at_) ∧ W.cell? ⟨g, pre.length * 4 + 1 + 1, none⟩ = some (.string ⟨x.text.toArray⟩) ∧ W.cell? ⟨g, pre.length * 4 + 1 + 1 + 1, none⟩ = some (.bool x.ended) := by
  have hrow : ∀ j u, j < 4 → (lineV x).toList[j]? = some u → W.cell? ⟨g, pre.length * 4 + j, none⟩ = some u := fun j u hj hu => by
    have := h.cells (g := g) rfl (pre.length * 4 + j) u (by rw [hx, cellsOf_at _ _ _ _ hj]; exact hu)
    have hadd : (⟨g, 0, none⟩ : Addr).add (pre.length * 4 + j) = ⟨g, pre.length * 4 + j, none⟩ := by unfold Addr.add; split <;> simp_all
    rwa [hadd] at this
  exact ⟨hrow 0 _ (by omega) rfl, hrow 1 _ (by omega) rfl, hrow 2 _ (by omega) rfl, hrow 3 _ (by omega) rfl⟩

set_option maxRecDepth 100000 in
set_option maxHeartbeats 4000000 in
theorem refIndent_any (s j : ByteArray) (hs : s.size ≤ 1000000) (hj : j.size ≤ 1000000) (w : World) :
    Calls Tryz.prog 96 #[.string s, .string j] w fun e w' => e = .returned (.string ⟨(indL j.data.toList (linesOf s.data.toList)).toArray⟩) ∧ Below w.heap.size w w' := by
  obtain ⟨xs, hxs⟩ : ∃ xs, linesOf s.data.toList = xs := ⟨_, rfl⟩
  have hll := linesOf_length s.data.toList
  rw [← Lib.size_eq] at hll
  have hpos := bytes_le s.data.toList
  rw [← Lib.size_eq] at hpos
  rw [hxs] at hll hpos ⊢
  have HPOS := Lib.hid hpos
  have HXS := Lib.hid hxs
  clear hxs hpos
  go_enter Tryz.func96, Tryz.ntmps96
  go_wp2_with fail
  refine (refSplit_any s hs w).mono ?_
  rintro e w2 ⟨v, rfl, hown, a2⟩
  rw [HXS.out] at hown
  obtain ⟨ao, cap, rfl⟩ := rowForm hown
  go_wp2_with fail
  go_loopw [5, 11] (fun o i wr => ∃ (pre post : List Ln), xs = pre ++ post ∧ o = .string ⟨(indL j.data.toList pre).toArray⟩ ∧ i = .int .i64 (pre.length : Nat) ∧ wr.ownsRow w.heap.size 110 4 (.slice ao xs.length cap) xs.length (cellsOf xs) ∧ Below w.heap.size w wr)
    (fun _ i _ => xs.length - (intOf i).toNat)
  case atStart => exact ⟨[], xs, rfl, rfl, rfl, hown, a2⟩
  case round =>
    obtain ⟨pre, post, hx, rfl, rfl, hw, hb⟩ := hrel
    cases post with
    | nil =>
      have e : pre.length = xs.length := by rw [hx]; simp
      have HX := Lib.hid hx
      clear hx
      go_wp2
      go_ret
      refine ⟨?_, hb⟩
      rw [HX.out, List.append_nil]
      rfl
    | cons x post =>
      have hlt : pre.length < xs.length := by rw [hx]; simp
      obtain ⟨g, rfl⟩ : ∃ g, ao = some ⟨g, 0, none⟩ := by
        rcases hw.2 with ⟨_, h0⟩ | ⟨g, cap, cur, hv, _⟩
        · omega
        · exact ⟨g, by cases hv; rfl⟩
      obtain ⟨r0, r1, r2, r3⟩ := rowCells hw hx
      have hlen : (indL j.data.toList (pre ++ [x])).length ≤ 1000000 * (2 * 1000000) := by
        refine indL_len _ 1000000 1000000 _ (fun y hy => Nat.le_trans (HPOS.out y ?_) hs) ?_ (by rw [← Lib.size_eq]; exact hj)
        · rw [hx]
          rcases List.mem_append.1 hy with h | h
          · exact List.mem_append_left _ h
          · rw [List.mem_singleton.1 h]; simp
        · simp; omega
      rw [indL_snoc] at hlen
      simp only [List.length_append, ← Lib.size_eq] at hlen
      have hen : (endS x.ended).size ≤ 1 := by unfold endS; cases x.ended <;> decide
      have hjn : (indL j.data.toList pre).length + j.size + x.text.length + 1 ≤ 2000000000001 := by omega
      clear hlen hen
      have HX := Lib.hid hx
      clear hx
      have HS := Lib.hid (indL_snoc j.data.toList pre x)
      have hmt := mkText (indL j.data.toList pre) x.text j
      have HMT := Lib.hid hmt
      clear hmt
      cases he : x.ended
      · rw [he] at r3
        have hn : indL j.data.toList (pre ++ [x]) = indL j.data.toList pre ++ j.data.toList ++ x.text := by rw [HS.out, he]; simp [endS]
        have HN := Lib.hid hn
        clear hn
        go_wp2
        go_roundw
        case rel =>
          refine ⟨pre ++ [x], post, HX.out.trans (by simp), ?_, go_idx pre x, hw.alloc _, hb.alloc hb.size _⟩
          rw [HMT.out, HN.out]
        case measure => simp [intOf] <;> omega
      · rw [he] at r3
        have hn : indL j.data.toList (pre ++ [x]) = (indL j.data.toList pre ++ j.data.toList ++ x.text) ++ [10] := by rw [HS.out, he]; simp [endS]
        have HN := Lib.hid hn
        clear hn
        go_wp2
        go_roundw
        case rel =>
          refine ⟨pre ++ [x], post, HX.out.trans (by simp), ?_, go_idx pre x, hw.alloc _, hb.alloc hb.size _⟩
          rw [HMT.out, HN.out]
          exact congrArg Value.string (mkAppend _ [10])
        case measure => simp [intOf] <;> omega
end Go.Proofs.YtgaooalckjjplaaGreatDoor

namespace Go.Proofs.YtgaooalckjjplaaGreatDoor

def linesT (l : List UInt8) : List (List UInt8) := (linesOf l).map Ln.text
theorem tot_wf : ∀ (xs : List Ln), wf xs → totL (xs.map Ln.text) ≤ (xs.flatMap Ln.bytes).length + 1
  | [], _ => by simp [totL]
  | x :: xs, h => by
    obtain ⟨_, h2, h3⟩ := h
    have ih := tot_wf xs h3
    have e : totL ((x :: xs).map Ln.text) = x.text.length + 1 + totL (xs.map Ln.text) := by unfold totL; rw [List.map_cons, List.map_cons, List.sum_cons]
    rw [e, List.flatMap_cons, List.length_append]
    rcases h2 with q | ⟨rfl, _⟩
    · have : x.bytes.length = x.text.length + 1 := by unfold Ln.bytes; rw [q]; simp
      omega
    · have : x.text.length ≤ x.bytes.length := by unfold Ln.bytes; simp
      have : totL (([] : List Ln).map Ln.text) = 0 := rfl
      omega
theorem linesT_tot (l : List UInt8) : totL (linesT l) ≤ l.length + 1 := by
  have := tot_wf _ (wf_linesOf l)
  rw [linesOf_join] at this
  exact this
theorem num_text : ∀ (ls : List (List UInt8)) (no c : Nat), (num no c ls).map Ln.text = ls
  | [], _, _ => rfl
  | l :: r, no, c => by
    show l :: (num (no + 1) (c + l.length + 1) r).map Ln.text = l :: r
    rw [num_text r]
theorem linesT_text {ls : List (List UInt8)} (h : ∀ l ∈ ls, (10 : UInt8) ∉ l) : linesT (textL ls) = ls := by
  unfold linesT
  show (linesOn 0 0 (textL ls)).map _ = _
  rw [linesOn_num ls 0 0 h, num_text]
theorem tot_take (xs : List (List UInt8)) (k : Nat) : totL (xs.take k) ≤ totL xs := by
  have e : totL xs = totL (xs.take k) + totL (xs.drop k) := by
    conv => lhs; rw [← List.take_append_drop k xs]
    unfold totL; rw [List.map_append, List.sum_append]
  omega
theorem runD_snoc {xs : List (List UInt8)} {k : Nat} {x : List UInt8} {s : StD} (hx : xs[k]? = some x) (h : runD (xs.take k) ([], []) = some s) : runD (xs.take (k + 1)) ([], []) = stepD s x := by
  rw [List.take_add_one, hx]
  show runD (xs.take k ++ [x]) _ = _
  rw [runD_append, h]
  show (stepD s x).bind (runD []) = _
  cases stepD s x <;> rfl
theorem runD_no {xs : List (List UInt8)} {k : Nat} {x : List UInt8} {s : StD} (hx : xs[k]? = some x) (h : runD (xs.take k) ([], []) = some s) (hs : stepD s x = none) : endD xs = none := by
  have e : runD xs ([], []) = none := by
    conv => lhs; rw [← List.take_append_drop (k + 1) xs]
    rw [runD_append, runD_snoc hx h, hs]
    rfl
  unfold endD
  rw [e]; rfl
/-- At any place, what is gathered is bounded. -/
theorem at_ok {l : List UInt8} {k : Nat} {s : StD} (h : runD ((linesT l).take k) ([], []) = some s) : OkD (l.length + 1) s := by
  have h1 := run_ok _ okD_start h
  have h2 := tot_take (linesT l) k
  have h3 := linesT_tot l
  exact h1.mono (by omega)
theorem endD_ok {l : List UInt8} {eds : List Ed} (h : endD (linesT l) = some eds) : OkD (l.length + 1) (eds, []) := by
  unfold endD at h
  cases hr : runD (linesT l) ([], []) with
  | none => rw [hr] at h; cases h
  | some s =>
    rw [hr] at h
    have h1 : OkD (l.length + 1) s := at_ok (k := (linesT l).length) (by rw [List.take_length]; exact hr)
    cases hf : flushD s with
    | none =>
      have h' : (flushD s).map Prod.fst = some eds := h
      rw [hf] at h'; cases h'
    | some t =>
      have h' : (flushD s).map Prod.fst = some eds := h
      rw [hf] at h'
      obtain ⟨o1, o2⟩ := flush_ok h1 hf
      obtain ⟨t1, t2⟩ := t
      cases h'
      simp only at o2
      subst o2
      exact o1
theorem endD_of {l : List UInt8} {eds : List Ed} (h : decL l = some eds) : endD (linesT l) = some eds := by
  obtain ⟨_, hb, hi, rfl⟩ := decL_iff.1 h
  obtain ⟨⟨_, n40⟩, hg⟩ := chkB_good hb
  have e : linesT (batchT eds) = batchLs eds := linesT_text (batchLs_clean hg)
  rw [e]
  exact endD_batch (fun ed hm => ⟨hg ed hm, hi ed hm⟩) n40
theorem decL_no {l : List UInt8} (h : endD (linesT l) = none) : decL l = none := by
  cases hd : decL l with
  | none => rfl
  | some eds => rw [endD_of hd] at h; cases h
theorem decL_end {l : List UInt8} {eds : List Ed} (hl : l.length ≤ 50000) (h : endD (linesT l) = some eds) : decL l = if (chkB eds).2 = 0 ∧ batchT eds = l then some eds else none := by
  by_cases hq : (chkB eds).2 = 0 ∧ batchT eds = l
  · rw [if_pos hq]
    exact decL_iff.2 ⟨hl, hq.1, (endD_ok h).ids, hq.2⟩
  · rw [if_neg hq]
    cases hd : decL l with
    | none => rfl
    | some x =>
      have e := endD_of hd
      rw [h] at e
      cases e
      obtain ⟨_, h1, _, h2⟩ := decL_iff.1 hd
      exact absurd ⟨h1, h2⟩ hq
theorem okD_fines {l : List UInt8} (hl : l.length ≤ 5000) {s : StD} (h : OkD (l.length + 1) s) : Fines s.1 := fun ed hm =>
  ⟨by have := h.cnt ed hm; omega, fun f hf => by have := h.fin ed hm f hf; omega⟩
end Go.Proofs.YtgaooalckjjplaaGreatDoor

