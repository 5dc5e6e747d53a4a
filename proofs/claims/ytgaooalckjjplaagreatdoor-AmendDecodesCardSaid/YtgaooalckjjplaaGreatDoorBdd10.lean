/- Texts put together: AJ, AK, BJ, AL, AN, AR, FT. -/
import Derived.WideShapes
import Derived.Deep.DeepCutAuto
import Derived.Test.YtgaooalckjjplaaGreatDoorBfa1
import Derived.Test.YtgaooalckjjplaaGreatDoorBfa2
import Derived.Test.YtgaooalckjjplaaGreatDoorBfa3
import Derived.Test.YtgaooalckjjplaaGreatDoorBfa4
import Derived.Test.YtgaooalckjjplaaGreatDoorBfa5
import Derived.Test.YtgaooalckjjplaaGreatDoorBfa7
import Derived.Test.YtgaooalckjjplaaGreatDoorBfa8
import Derived.Test.YtgaooalckjjplaaGreatDoorBfa9
import Derived.Test.YtgaooalckjjplaaGreatDoorBfa10
import Derived.Test.YtgaooalckjjplaaGreatDoorBfa11
import Derived.Test.YtgaooalckjjplaaGreatDoorBfa12
import Derived.Test.YtgaooalckjjplaaGreatDoorBfa13
import Derived.Test.YtgaooalckjjplaaGreatDoorBfa14
import Derived.Test.YtgaooalckjjplaaGreatDoorBfa15
import Derived.Test.YtgaooalckjjplaaGreatDoorBfa16
import Derived.Test.YtgaooalckjjplaaGreatDoorBfa17
import Derived.Test.YtgaooalckjjplaaGreatDoorBdd1
import Derived.Test.YtgaooalckjjplaaGreatDoorBdd2
import Derived.Test.YtgaooalckjjplaaGreatDoorBdd3
import Derived.Test.YtgaooalckjjplaaGreatDoorBdd4
import Derived.Test.YtgaooalckjjplaaGreatDoorBdd5
import Derived.Test.YtgaooalckjjplaaGreatDoorBdd6
import Derived.Test.YtgaooalckjjplaaGreatDoorBdd7
import Derived.Test.YtgaooalckjjplaaGreatDoorBdd8
import Derived.Test.YtgaooalckjjplaaGreatDoorBdd9
set_option linter.unusedVariables false
namespace Go.Proofs.YtgaooalckjjplaaGreatDoor
open Go.RowKit Go.Shelf
attribute [local go_sem] Oper.semAt_some

theorem results_cellE {fn : Func} {p : Tmp} {ty : TypeId} (h : fn.results = #[.cell p ty]) (tmps : Array Value) (P : Program) (w : World) :
    (results fn tmps).run P w = ((asAddr (tmps.getD p undef)).run P w).andThen fun a w₁ => (loadVar ty a).run P w₁ := by
  simp only [results, h]
  simp [Sem.run_bind, Result.andThen]
set_option maxRecDepth 100000 in
theorem ret_edit {fn : Func} {p : Tmp} (h : fn.results = #[.cell p 64]) (tmps : Array Value) (w : World) (b : Nat) (cur : Array Value) (hp : tmps.getD p undef = .pointer (some ⟨b, 0, none⟩))
    (hc : Cells w b 64 cur) (hz : cur.size = 3) : (results fn tmps).run Tryz.prog w = .ok (.agg cur) w := by
  have L := run_loadVar_row (P := Tryz.prog) w b 64 64 cur (0, 0) _ hc Tryz.underlying64 rfl (by rw [hz]; kernel_rfl)
  rw [results_cellE h, hp]
  show (loadVar _ _).run _ _ = _
  exact L
theorem trim_le (l p : List UInt8) : (Lib.trimPrefix l p).length ≤ l.length := by
  unfold Lib.trimPrefix
  split
  · rw [List.length_drop]; omega
  · exact Nat.le_refl _
theorem takeW_le (l : List UInt8) (p : UInt8 → Bool) : (l.takeWhile p).length ≤ l.length := (List.takeWhile_sublist p).length_le
/-- An edit that a piece says, as a value. -/
def SaidV (lo : Nat) (t : List UInt8) (v : Value) (w : World) : Prop := ∃ u, v = .agg #[.int .i64 (saidE t).kind, .int .i64 (saidE t).id, u] ∧ w.ownsRow lo 66 2 u (saidE t).fields.length (cellsF (saidE t).fields)
set_option maxRecDepth 100000 in
set_option maxHeartbeats 4000000 in
theorem asaid_any (t : List UInt8) (ht : t.length ≤ 60000) (w : World) (hT : Tabs w) :
    Calls Tryz.prog 92 #[.string (B t)] w fun e w' => ∃ v, e = .returned v ∧ SaidV w.heap.size t v w' ∧ Below w.heap.size w w' := by
  obtain ⟨wa, hwa⟩ : ∃ wa, wa = w.alloc (.cells #[.int .i64 0, .int .i64 0, .slice none 0 0] 64) := ⟨_, rfl⟩
  have hba : Below w.heap.size w wa := by rw [hwa]; exact (Below.refl _ w).alloc (Nat.le_refl _) _
  have hza : wa.heap.size = w.heap.size + 1 := by rw [hwa]; simp
  have CX := Lib.hid (show Cells wa w.heap.size 64 #[.int .i64 0, .int .i64 0, .slice none 0 0] by rw [hwa]; exact Cells.new _ _ _)
  have HBA := Lib.hid hba
  have l1 : (lineS t).length ≤ 60000 := by have := takeW_le t (· != 10); unfold lineS; omega
  have l2 := trim_le (lineS t) [32]
  have l3 : (nameS t).length ≤ 60000 := by have := takeW_le (Lib.trimPrefix (lineS t) [32]) (· != 32); unfold nameS; omega
  have l4 : (figS t).length ≤ 60000 := by unfold figS; rw [List.length_drop]; omega
  have l5 : (restD t).length ≤ 60000 := by unfold restD; rw [List.length_drop]; omega
  have C1 := Lib.hid (cut_byte t 10 (by omega) wa)
  rw [show t.takeWhile (· != 10) = lineS t from rfl, show t.drop ((lineS t).length + 1) = restD t from rfl] at C1
  have TP := Lib.hid (fun W => Tryz.strings_TrimPrefix (B (lineS t)) ⟨#[32]⟩ W)
  rw [B_data, show (⟨#[32]⟩ : ByteArray).data.toList = [32] from rfl] at TP
  rw [show (⟨(Lib.trimPrefix (lineS t) [32]).toArray⟩ : ByteArray) = B (Lib.trimPrefix (lineS t) [32]) from rfl] at TP
  have C2 := Lib.hid (fun W => cut_byte (Lib.trimPrefix (lineS t) [32]) 32 (by omega) W)
  rw [show (Lib.trimPrefix (lineS t) [32]).takeWhile (· != 32) = nameS t from rfl, show (Lib.trimPrefix (lineS t) [32]).drop ((nameS t).length + 1) = figS t from rfl] at C2
  have AT := Lib.hid (fun W (hW : Below w.heap.size w W) => atoi_any (figS t) (by omega) W (hT.below hW (Nat.le_refl _)))
  have KN := Lib.hid (fun W => akind_any (nameS t) W)
  have UF := Lib.hid (fun W => aunfold_any (restD t) l5 W)
  have SD : Hid (saidE t = ⟨kindOf (nameS t), atoiV (figS t), unfoldF (restD t)⟩) := rfl
  generalize lineS t = la at *
  generalize B (Lib.trimPrefix la [32]) = tl at *
  generalize restD t = re at *
  generalize nameS t = na at *
  generalize figS t = fi at *
  clear hba hT l1 l2 l3 l4 l5
  subst hwa
  go_enter Tryz.func92, Tryz.ntmps92
  go_wp2_with fail
  refine C1.out.mono ?_
  rintro e w1 ⟨⟨b1, rfl⟩, h1⟩
  have HB1 := Lib.hid (HBA.out.trans (h1.mono HBA.out.size))
  have K1 := Lib.hid (cells_kept CX.out h1 (by rw [hza]; omega))
  have z1 := h1.size
  rw [hza] at z1
  have TP1 := Lib.hid (TP.out w1)
  clear C1 h1 TP CX
  go_wp2_with fail
  refine TP1.out.mono ?_
  rintro e w2 ⟨rfl, rfl⟩
  have C22 := Lib.hid (C2.out w2)
  clear TP1 C2
  go_wp2_with fail
  refine C22.out.mono ?_
  rintro e w3 ⟨⟨b3, rfl⟩, h3⟩
  have HB3 := Lib.hid (HB1.out.trans (h3.mono HB1.out.size))
  have K3 := Lib.hid (cells_kept K1.out h3 (by omega))
  have z3 := h3.size
  have AT3 := Lib.hid (AT.out w3 HB3.out)
  clear C22 h3 K1 AT
  go_wp2_with fail
  refine AT3.out.mono ?_
  rintro e w4 ⟨⟨T, q, hq⟩, h4⟩
  have HB4 := Lib.hid (HB3.out.trans (h4.mono HB3.out.size))
  have K4 := Lib.hid (cells_kept K3.out h4 (by omega))
  have z4 := h4.size
  have KN4 := Lib.hid (KN.out w4)
  clear AT3 h4 K3 KN
  rcases hq with rfl | rfl
  all_goals
    go_wp2_with fail
    refine KN4.out.mono ?_
    rintro e w5 ⟨rfl, h5⟩
    have HB5 := Lib.hid (HB4.out.trans (h5.mono HB4.out.size))
    have K5 := Lib.hid (cells_kept K4.out h5 (by omega))
    have z5 := h5.size
    have UF5 := Lib.hid (UF.out w5)
    clear KN4 h5 K4 UF
    go_wp2_with fail
    refine UF5.out.mono ?_
    rintro e w6 ⟨u, rfl, hu, h6⟩
    have HB6 := Lib.hid (HB5.out.trans (h6.mono HB5.out.size))
    have K6 := cells_kept K5.out h6 (by omega)
    obtain ⟨ua, uc, rfl, _⟩ := own_slice hu
    have hlow : ∀ k, (Value.slice ua (unfoldF re).length uc).ownBlock = some k → w.heap.size < k := fun k hk => by have := (hu.lt k hk).1; omega
    have k0 := K6.cell 0
    have k1 := K6.cell 1
    have k2 := K6.cell 2
    have f0 := K6.frozen 0
    have f1 := K6.frozen 1
    have f2 := K6.frozen 2
    have R7 := Lib.hid (((K6.set 0 (.int .i64 (kindOf na))).set 1 (.int .i64 (atoiV fi))).set 2 (.slice ua (unfoldF re).length uc))
    have HU := Lib.hid (rowBase (base' := w.heap.size) hu (by omega))
    have HL := Lib.hid hlow
    clear UF5 h6 K5 hu K6 hlow
    go_wp2_with fail
    refine bodyPost_ret (ret_edit rfl _ _ w.heap.size _ rfl R7.out rfl) rfl ?_
    refine ⟨_, rfl, ?_, ((HB6.out.setCell (p := ⟨w.heap.size, 0, none⟩) (Nat.le_refl _) _).setCell (p := ⟨w.heap.size, 1, none⟩) (Nat.le_refl _) _).setCell (p := ⟨w.heap.size, 2, none⟩) (Nat.le_refl _) _⟩
    rw [show SaidV w.heap.size t = fun v w' => ∃ u, v = .agg #[.int .i64 (saidE t).kind, .int .i64 (saidE t).id, u] ∧ w'.ownsRow w.heap.size 66 2 u (saidE t).fields.length (cellsF (saidE t).fields) from rfl, SD.out]
    have hn : ∀ p : Addr, p.block = w.heap.size → ∀ k, (Value.slice ua (unfoldF re).length uc).ownBlock = some k → k ≠ p.block := fun p hp k hk => by have := HL.out k hk; omega
    exact ⟨_, rfl, row_cell (p := ⟨w.heap.size, 2, none⟩) (row_cell (p := ⟨w.heap.size, 1, none⟩) (row_cell (p := ⟨w.heap.size, 0, none⟩) HU.out (fun e => by have := HL.out _ e; simp at this) _) (fun e => by have := HL.out _ e; simp at this) _) (fun e => by have := HL.out _ e; simp at this) _⟩
end Go.Proofs.YtgaooalckjjplaaGreatDoor

namespace Go.Proofs.YtgaooalckjjplaaGreatDoor
open Go.RowKit Go.Shelf
attribute [local go_sem] Oper.semAt_some

/-- What is read, line by line: the edits, where the one begins that is under way. -/
def stepR (t : List UInt8) (st : List Ed × Nat) (x : Ln) : List Ed × Nat := if st.2 < x.at_ ∧ Lib.hasPrefix x.text [32, 32] = false then (st.1 ++ [saidE ((t.drop st.2).take (x.at_ - st.2))], x.at_) else st
def readS (t : List UInt8) (xs : List Ln) : List Ed × Nat := xs.foldl (stepR t) ([], 0)
theorem readS_snoc (t : List UInt8) (xs : List Ln) (x : Ln) : readS t (xs ++ [x]) = stepR t (readS t xs) x := by unfold readS; rw [List.foldl_append]; rfl
theorem fold_pieces (t : List UInt8) : ∀ (xs : List Ln) (acc : List Ed) (b : Nat), (xs.foldl (stepR t) (acc, b)).1 ++ [saidE (t.drop (xs.foldl (stepR t) (acc, b)).2)] = acc ++ (piecesOn t b xs).map saidE
  | [], acc, b => rfl
  | x :: r, acc, b => by
    rw [List.foldl_cons, piecesOn]
    by_cases h : b < x.at_ ∧ Lib.hasPrefix x.text [32, 32] = false
    · rw [show stepR t (acc, b) x = (acc ++ [saidE ((t.drop b).take (x.at_ - b))], x.at_) from if_pos h, fold_pieces t r, if_pos h, List.map_cons]; simp
    · rw [show stepR t (acc, b) x = (acc, b) from if_neg h, fold_pieces t r, if_neg h]
theorem readL_eq (t : List UInt8) : readL t = (readS t (linesOf t)).1 ++ [saidE (t.drop (readS t (linesOf t)).2)] := by
  unfold readL readS
  rw [fold_pieces]; rfl
theorem readS_take (t : List UInt8) (k : Nat) : ((readS t ((linesOf t).take k)).2 ≤ (((linesOf t).take k).flatMap Ln.bytes).length) ∧ (readS t ((linesOf t).take k)).1.length ≤ k := by
  induction k with
  | zero => exact ⟨Nat.le_refl _, Nat.le_refl _⟩
  | succ k ih =>
    rw [List.take_add_one]
    cases h : (linesOf t)[k]? with
    | none => simp only [Option.toList, List.append_nil]; omega
    | some x =>
      obtain ⟨hk, e⟩ := List.getElem?_eq_some_iff.1 h
      have hat := (linesOf_at t ((linesOf t).take k) x ((linesOf t).drop (k + 1)) (by conv => lhs; rw [← List.take_append_drop k (linesOf t), List.drop_eq_getElem_cons hk, e])).2
      show (readS t (_ ++ [x])).2 ≤ _ ∧ (readS t (_ ++ [x])).1.length ≤ _
      rw [readS_snoc]
      have hb : ((((linesOf t).take k ++ [x])).flatMap Ln.bytes).length = (((linesOf t).take k).flatMap Ln.bytes).length + x.bytes.length := by rw [List.flatMap_append, List.length_append]; simp
      show (stepR t _ x).2 ≤ (((linesOf t).take k ++ [x]).flatMap Ln.bytes).length ∧ _
      rw [hb]
      unfold stepR
      split
      · refine ⟨by show x.at_ ≤ _; omega, ?_⟩
        show (_ ++ [_]).length ≤ _
        rw [List.length_append]; simp only [List.length_cons, List.length_nil]; omega
      · exact ⟨by omega, by omega⟩
theorem readS_at {t : List UInt8} {pre post : List Ln} {x : Ln} (h : linesOf t = pre ++ x :: post) : (readS t pre).2 ≤ x.at_ ∧ x.at_ ≤ t.length ∧ (readS t pre).1.length ≤ t.length := by
  have e : pre = (linesOf t).take pre.length := by rw [h]; simp
  have h1 := readS_take t pre.length
  rw [← e] at h1
  have h2 := (linesOf_at t pre x post h).2
  have h3 := congrArg List.length (linesOf_join t)
  rw [h, List.flatMap_append, List.length_append] at h3
  have h4 := linesOf_length t
  rw [h, List.length_append, List.length_cons] at h4
  exact ⟨by omega, by omega, by omega⟩
theorem readS_end (t : List UInt8) : (readS t (linesOf t)).2 ≤ t.length ∧ (readS t (linesOf t)).1.length ≤ t.length := by
  have h1 := readS_take t (linesOf t).length
  rw [List.take_length, linesOf_join] at h1
  have := linesOf_length t
  exact ⟨h1.1, by omega⟩
theorem ext_B (t : List UInt8) (i j : Nat) : (B t).extract i j = B ((t.drop i).take (j - i)) := by
  apply ByteArray.ext
  simp [B, ByteArray.data_extract, List.extract_eq_take_drop]
theorem OwnE.turned {lo B k : Nat} {W W' : World} {v : Value} {eds : List Ed} {fvs : List Value} (h : OwnE lo W v eds fvs) (ht : Turned B k W W') (hlo : B + k ≤ lo) : OwnE lo W' v eds fvs :=
  ⟨ht.row h.row (fun b e => .inr (by have := (h.row.lt b e).1; omega)), h.len, fun i ed fv h1 h2 => ht.row (h.each i ed fv h1 h2) (fun b e => .inr (by have := ((h.each i ed fv h1 h2).lt b e).1; omega))⟩
theorem OwnE.set {lo : Nat} {W : World} {v : Value} {eds : List Ed} {fvs : List Value} (h : OwnE lo W v eds fvs) {p : Addr} (hp : p.block < lo) (u : Value) : OwnE lo (W.setCell p u) v eds fvs :=
  ⟨row_cell h.row (fun e => by have := (h.row.lt _ e).1; omega) _, h.len, fun i ed fv h1 h2 => row_cell (h.each i ed fv h1 h2) (fun e => by have := ((h.each i ed fv h1 h2).lt _ e).1; omega) _⟩
theorem OwnE.snoc {lo : Nat} {w2 w3 : World} {v v' x : Value} {eds : List Ed} {fvs : List Value} {ed : Ed} (h : OwnE lo w2 v eds fvs) (hx : w2.ownsRow lo 66 2 x ed.fields.length (cellsF ed.fields))
    (own3 : w3.ownsRow lo 64 3 v' (eds.length + 1) (edRow eds fvs ++ [.int .i64 ed.kind, .int .i64 ed.id, x])) (grow3 : w2.grownBy w3 v.ownBlock) : OwnE lo w3 v' (eds ++ [ed]) (fvs ++ [x]) := by
  have hty : ∀ (fx : Value) (n : Nat) (xs : List Value), w2.ownsRow lo 66 2 fx n xs → w3.ownsRow lo 66 2 fx n xs := fun fx n xs hx =>
    row_same hx (fun r e => grow3.block r (hx.lt r e).2 (fun q => own_own_ne h.row hx (by decide) r q.symm e))
  refine ⟨by rw [edRow_snoc _ _ _ _ h.len, List.length_append]; exact own3, by rw [List.length_append, List.length_append, h.len]; rfl, fun i y fx h1 h2 => ?_⟩
  rcases Nat.lt_or_ge i eds.length with q | q
  · rw [List.getElem?_append_left q] at h1
    rw [List.getElem?_append_left (by rw [h.len]; exact q)] at h2
    exact hty _ _ _ (h.each i y fx h1 h2)
  · rw [List.getElem?_append_right q] at h1
    rw [List.getElem?_append_right (by rw [h.len]; exact q), h.len] at h2
    rcases hq : i - eds.length with _ | j
    · rw [hq] at h1 h2
      simp at h1 h2
      subst h1 h2
      exact hty _ _ _ hx
    · rw [hq] at h1; simp at h1
theorem row_not {W : World} {lo sz n b : Nat} {T U : TypeId} {v : Value} {xs : List Value} {cur : Array Value} (h : W.ownsRow lo T sz v n xs) (hc : Cells W b U cur) (ht : T ≠ U) : v.ownBlock ≠ some b := by
  intro e
  rcases h.2 with ⟨rfl, _⟩ | ⟨g, cap, cur', rfl, _, hg, _⟩
  · cases e
  · have : g = b := Option.some.inj e
    subst this
    have h2 := hg.symm.trans hc
    injection h2 with h2
    injection h2 with _ h2 _
    exact ht h2
/-- What holds between two rounds. -/
def InvR (w : World) (t : List UInt8) (st : List Ed × Nat) (W : World) : Prop :=
  ∃ u fvs, Boxed W w.heap.size 9 (.string (B t)) ∧ Boxed W (w.heap.size + 1) 22 u ∧ Boxed W (w.heap.size + 2) 3 (.int .i64 (st.2 : Nat)) ∧ OwnE (w.heap.size + 9) W u st.1 fvs ∧ Below w.heap.size w W
theorem InvR.turned {w : World} {t : List UInt8} {st : List Ed × Nat} {W W' : World} {k : Nat} (h : InvR w t st W) (ht : Turned (w.heap.size + 4) k W W') (hk : k ≤ 5) : InvR w t st W' := by
  obtain ⟨u, fvs, h1, h2, h3, h4, h5⟩ := h
  exact ⟨u, fvs, ht.box h1 (.inl (by omega)), ht.box h2 (.inl (by omega)), ht.box h3 (.inl (by omega)), h4.turned ht (by omega), h5.trans (ht.below (by omega) h5.size)⟩
theorem InvR.alloc {w : World} {t : List UInt8} {st : List Ed × Nat} {W : World} (h : InvR w t st W) (o : Obj) : InvR w t st (W.alloc o) := by
  obtain ⟨u, fvs, h1, h2, h3, h4, h5⟩ := h
  exact ⟨u, fvs, h1.alloc _, h2.alloc _, h3.alloc _, h4.below ((Below.refl _ W).alloc (Nat.le_refl _) _) (Nat.le_refl _), h5.alloc h5.size _⟩
end Go.Proofs.YtgaooalckjjplaaGreatDoor

namespace Go.Proofs.YtgaooalckjjplaaGreatDoor
open Go.RowKit Go.Shelf

/-- A field's lines stand behind an edit. -/
theorem flush_ls {s s' : StD} (h : flushD s = some s') : s'.2 = [] := by
  unfold flushD at h
  split at h
  · rename_i q; injection h with h; subst h; exact q
  · split at h
    · injection h with h; subst h; rfl
    · cases h
theorem line_ne {s s' : StD} {x : List UInt8} (h : s.2 ≠ [] → s.1 ≠ []) (hf : lineD s x = some s') : s'.2 ≠ [] → s'.1 ≠ [] := by
  unfold lineD at hf
  split at hf
  · split at hf
    · cases hf
    · rename_i q
      injection hf with hf
      subst hf
      exact fun _ => q
  · split at hf
    · cases hf
    · injection hf with hf
      subst hf
      intro _
      simp
theorem step_ne {s s' : StD} {x : List UInt8} (h : s.2 ≠ [] → s.1 ≠ []) (hf : stepD s x = some s') : s'.2 ≠ [] → s'.1 ≠ [] := by
  unfold stepD at hf
  split at hf
  · exact line_ne h hf
  · cases hs : flushD s with
    | none => rw [hs] at hf; cases hf
    | some s1 =>
      rw [hs] at hf
      exact line_ne (fun q => absurd (flush_ls hs) q) hf
theorem run_ne : ∀ (xs : List (List UInt8)) {s s' : StD}, (s.2 ≠ [] → s.1 ≠ []) → runD xs s = some s' → s'.2 ≠ [] → s'.1 ≠ []
  | [], s, s', h, hr => by
    injection hr with hr
    subst hr
    exact h
  | x :: r, s, s', h, hr => by
    rw [runD] at hr
    cases hs : stepD s x with
    | none => rw [hs] at hr; cases hr
    | some s1 =>
      rw [hs] at hr
      exact run_ne r (step_ne h hs) hr
theorem edRow_turn : ∀ (p : List Ed) (e e' : Ed) (F : List Value), e.kind = e'.kind → e.id = e'.id → edRow (p ++ [e]) F = edRow (p ++ [e']) F
  | [], e, e', F, h1, h2 => by
    cases F with
    | nil => rfl
    | cons f r =>
      show (Value.int .i64 e.kind :: .int .i64 e.id :: f :: edRow [] r) = (Value.int .i64 e'.kind :: .int .i64 e'.id :: f :: edRow [] r)
      rw [h1, h2]
  | x :: p, e, e', F, h1, h2 => by
    cases F with
    | nil => rfl
    | cons f r =>
      show (_ :: _ :: _ :: edRow (p ++ [e]) r) = (_ :: _ :: _ :: edRow (p ++ [e']) r)
      rw [edRow_turn p e e' r h1 h2]
theorem cellsF_snoc' (fs : List Fld) (f : Fld) : cellsF (fs ++ [f]) = cellsF fs ++ [.string (B f.1), .string (B f.2)] := by unfold cellsF; simp
/-- One field more behind the last edit's. -/
theorem own_field {lo : Nat} {W w2 : World} {og oc g c : Nat} {p : List Ed} {e : Ed} {fvs : List Value} {f : Fld} (h : OwnE lo W (.slice (some ⟨og, 0, none⟩) (p.length + 1) oc) (p ++ [e]) fvs) (hb : Below W.heap.size W w2) (hlo : lo ≤ W.heap.size)
    (hr : w2.ownsRow W.heap.size 66 2 (.slice (some ⟨g, 0, none⟩) (e.fields.length + 1) c) (e.fields.length + 1) (cellsF e.fields ++ [.string (B f.1), .string (B f.2)])) :
    OwnE lo (w2.setCell ⟨og, p.length * 3 + 2, none⟩ (.slice (some ⟨g, 0, none⟩) (e.fields.length + 1) c)) (.slice (some ⟨og, 0, none⟩) (p.length + 1) oc) (p ++ [⟨e.kind, e.id, e.fields ++ [f]⟩]) (fvs.set p.length (.slice (some ⟨g, 0, none⟩) (e.fields.length + 1) c)) := by
  have hl0 := h.len
  rw [List.length_append, List.length_singleton] at hl0
  have hrow := row_below h.row hb (Nat.le_refl _)
  rw [List.length_append, List.length_singleton] at hrow
  refine ⟨?_, by rw [List.length_set, List.length_append, List.length_singleton]; exact hl0, fun i ed fv h1 h2 => ?_⟩
  · rw [List.length_append, List.length_singleton, ← edRow_turn p e ⟨e.kind, e.id, e.fields ++ [f]⟩ _ rfl rfl, ← edRow_set (p ++ [e]) fvs p.length _ h.len]
    exact row_put hrow _
  · have h1' := h1
    rcases Nat.lt_or_ge i p.length with q | q
    · rw [List.getElem?_append_left q] at h1
      rw [List.getElem?_set_ne (by omega)] at h2
      have hx := row_below (h.each i ed fv (by rw [List.getElem?_append_left q]; exact h1) h2) hb (Nat.le_refl _)
      exact row_cell hx (fun z => own_own_ne hrow hx (by decide) og rfl z) _
    · have hi : i = p.length := by
        have := (List.getElem?_eq_some_iff.1 h1').1
        rw [List.length_append, List.length_singleton] at this
        omega
      subst hi
      rw [List.getElem?_append_right (Nat.le_refl _), Nat.sub_self] at h1
      cases h1
      rw [List.getElem?_set_self (by omega)] at h2
      cases h2
      have hr' := rowBase hr hlo
      show World.ownsRow _ lo _ 2 _ (e.fields ++ [f]).length (cellsF (e.fields ++ [f]))
      rw [cellsF_snoc', List.length_append, List.length_singleton]
      exact row_cell hr' (fun z => own_own_ne hrow hr' (by decide) og rfl z) _
/-- A line's text, in its cell. -/
theorem line_cell {l : List UInt8} {k : Nat} {x : List UInt8} (h : (linesT l)[k]? = some x) : (cellsOf (linesOf l))[k * 4 + 2]? = some (.string (B x)) := by
  unfold linesT at h
  rw [List.getElem?_map] at h
  cases hy : (linesOf l)[k]? with
  | none => rw [hy] at h; cases h
  | some y =>
    rw [hy] at h
    cases h
    obtain ⟨hk, hyy⟩ := List.getElem?_eq_some_iff.1 hy
    have e : linesOf l = (linesOf l).take k ++ y :: (linesOf l).drop (k + 1) := by
      rw [← hyy]; simp
    have hkl : ((linesOf l).take k).length = k := by rw [List.length_take]; omega
    have := cellsOf_at ((linesOf l).take k) y ((linesOf l).drop (k + 1)) 2 (by decide)
    rw [← e, hkl] at this
    rw [this]
    rfl
end Go.Proofs.YtgaooalckjjplaaGreatDoor

namespace Go.Proofs.YtgaooalckjjplaaGreatDoor
open Go.RowKit Go.Shelf
attribute [local go_sem] Oper.semAt_some

theorem unfold_fine (t : List UInt8) : Fine8 (unfoldF t) ∧ ∀ f ∈ unfoldF t, f.1.length ≤ 32 ∧ f.2.length ≤ 1000 := by
  unfold unfoldF
  cases h : parseL (dd [32, 32] ((linesOf t).map sees)).1 with
  | error e => exact ⟨⟨by simp, fun f hf => by cases hf⟩, fun f hf => by cases hf⟩
  | ok its =>
    obtain ⟨_, hil, hif⟩ := parse_join h
    have hcnt := parse_cnt h
    rw [← recs_cnt] at hcnt
    have hrl := lenS_le (recs its) 40 (fun r hr => by
      unfold recs at hr
      obtain ⟨it, h1, rfl⟩ := List.mem_map.1 hr
      exact (hif it (List.mem_filter.1 h1).1).1)
    have each : ∀ f ∈ (recs its).flatten, f.1.length ≤ 32 ∧ f.2.length ≤ 1000 := fun f hf => by
      obtain ⟨r, hr, hfr⟩ := List.mem_flatten.1 hf
      unfold recs at hr
      obtain ⟨it, h1, rfl⟩ := List.mem_map.1 hr
      obtain ⟨h2, h3⟩ := List.mem_filter.1 h1
      obtain ⟨_, _, h4⟩ := chkN_zero (parse_gk h it h2 (by simpa using h3))
      obtain ⟨h5, h6⟩ := foldN_good _ h4 f hfr
      exact ⟨goodKey_len h5, h6⟩
    refine ⟨⟨?_, fun f hf => ?_⟩, each⟩
    · show ((recs its).flatten).length ≤ _
      rw [flatten_len]; omega
    · have := each f hf; omega
theorem read_fines (t : List UInt8) : Fines8 (readL t) := by
  intro ed hed
  obtain ⟨p, _, rfl⟩ := List.mem_map.1 hed
  exact (unfold_fine _).1
theorem read_len (t : List UInt8) : (readL t).length ≤ t.length + 1 := by
  rw [readL_eq, List.length_append]
  have := (readS_end t).2
  simp only [List.length_cons, List.length_nil]; omega
/-- What Decode comes to. -/
def DecR (w w' : World) (t : List UInt8) (e : Ending) : Prop :=
  Below w.heap.size w w' ∧ ((decL t = none ∧ e = .returned (.tuple #[.slice none 0 0, .iface 54 (.int .i64 2)])) ∨ ∃ eds u fvs, decL t = some eds ∧ e = .returned (.tuple #[u, .nilIface]) ∧ OwnE w.heap.size w' u eds fvs)
set_option maxRecDepth 100000 in
set_option maxHeartbeats 4000000 in
theorem decode_any (t : List UInt8) (ht : t.length ≤ maxLen) (w : World) (hT : Tabs w) :
    Calls Tryz.prog 19 #[.string (B t)] w fun e w' => DecR w w' t e := by
  have bs := B_size t
  by_cases hl : ¬ t.length ≤ 50000
  · have NO : Hid (DecR w w t (.returned (.tuple #[.slice none 0 0, .iface 54 (.int .i64 2)]))) := ⟨Below.refl _ _, .inl ⟨by unfold decL; rw [if_neg (fun h => hl h.1)], rfl⟩⟩
    have q : ¬ ((B t).size : Int) ≤ 50000 := by omega
    generalize B t = s at *
    go_enter Tryz.func19, Tryz.ntmps19
    go_wp2_with fail
    go_ret2
    exact NO.out
  replace hl := Classical.not_not.1 hl
  have RD := Lib.hid (read_any t hl w hT)
  have q : ((B t).size : Int) ≤ 50000 := by omega
  have hrl := read_len t
  have RF := Lib.hid (read_fines t)
  have RI := Lib.hid (read_I64 t)
  have HT := Lib.hid hT
  have YES : Hid (∀ W u fvs, OwnE w.heap.size W u (readL t) fvs → Below w.heap.size w W → (chkB (readL t)).2 = 0 → batchT (readL t) = t → DecR w W t (.returned (.tuple #[u, .nilIface]))) := fun W u fvs ho hb h1 h2 =>
    ⟨hb, .inr ⟨readL t, u, fvs, by unfold decL; rw [if_pos ⟨hl, h1, h2⟩], rfl, ho⟩⟩
  have NO : Hid (∀ W, Below w.heap.size w W → ¬ ((chkB (readL t)).2 = 0 ∧ batchT (readL t) = t) → DecR w W t (.returned (.tuple #[.slice none 0 0, .iface 54 (.int .i64 2)]))) := fun W hb h =>
    ⟨hb, .inl ⟨by unfold decL; rw [if_neg (fun h2 => h h2.2)], rfl⟩⟩
  clear hT ht bs
  generalize readL t = eds at *
  go_enter Tryz.func19, Tryz.ntmps19
  go_wp2_with fail
  refine RD.out.mono ?_
  rintro e w1 ⟨u, fvs, rfl, ho, b1⟩
  have EN := Lib.hid (encode_any eds u w1 ho.edv (by omega) RF.out RI.out (HT.out.below b1 (Nat.le_refl _)))
  have HO := Lib.hid ho
  have B1 := Lib.hid b1
  obtain ⟨ua, uc, rfl, _⟩ := own_slice ho.row
  clear RD ho b1
  go_wp2_with fail
  refine EN.out.mono ?_
  rintro e w2 ⟨b2, ⟨h0, rfl⟩ | ⟨h0, u', rfl, hz⟩⟩
  · have B2 := Lib.hid (B1.out.trans (b2.mono B1.out.size))
    have Z0 := Lib.hid h0
    have E2 := bsameA (batchT eds) t
    by_cases hq : batchT eds = t
    · have E3 : ((B (batchT eds)).toList == (B t).toList) = true := by rw [E2]; exact decide_eq_true hq
      have Y := Lib.hid (YES.out w2 _ fvs (HO.out.below b2 (Nat.le_refl _)) B2.out Z0.out hq)
      clear EN YES NO b2 h0 HO E2 hq
      generalize B (batchT eds) = own at *
      go_wp2_with fail
      go_ret2
      exact Y.out
    · have E3 : ((B (batchT eds)).toList == (B t).toList) = false := by rw [E2]; exact decide_eq_false hq
      have E4 : ¬ (B (batchT eds)).toList = (B t).toList := by simpa using E3
      have Y := Lib.hid (NO.out w2 B2.out (fun h => hq h.2))
      clear EN YES NO b2 h0 HO E2 hq
      generalize B (batchT eds) = own at *
      go_wp2_with fail
      go_ret2
      exact Y.out
  · have B2 := Lib.hid (B1.out.trans (b2.mono B1.out.size))
    have Y := Lib.hid (NO.out w2 B2.out (fun h => h0 h.1))
    obtain ⟨_, ⟨rfl, hx⟩ | ⟨kk, ⟨q, _, rfl, _⟩, _, _⟩⟩ := hz
    · have hpos : 0 < (chkB eds).2 := Nat.pos_of_ne_zero h0
      rw [errV_pos _ hpos]
      clear EN YES NO b2 h0 HO hx hpos
      generalize ((chkB eds).2 : Int) = zz at *
      go_wp2_with fail
      go_ret2
      exact Y.out
    · clear EN YES NO b2 h0 HO
      go_wp2_with fail
      go_ret2
      exact Y.out
end Go.Proofs.YtgaooalckjjplaaGreatDoor

namespace Go.Proofs.YtgaooalckjjplaaGreatDoor
open Go.RowKit Go.Shelf
attribute [local go_sem] Oper.semAt_some

def txA : List UInt8 := [32, 105, 110, 115, 101, 114, 116, 32, 48, 10, 32, 32, 65, 58, 32, 49, 10, 32, 32, 32, 50, 10]
def edA0 : Ed := ⟨2, 7, []⟩
def edA1 : Ed := ⟨3, 0, [([65], [49, 10, 50])]⟩
theorem itoa7 : Lib.itoa 7 = [55] := by
  rw [show (7 : Int) = ((7 : Nat) : Int) from rfl, Lib.itoa_nonneg, Lib.decDigits_one (by decide)]; rfl
theorem itoa0 : Lib.itoa 0 = [48] := by
  rw [show (0 : Int) = ((0 : Nat) : Int) from rfl, Lib.itoa_nonneg, Lib.decDigits_one (by decide)]; rfl
theorem chkA0 : (chkB [edA0]).2 = 0 := by decide +kernel
theorem chkA1 : (chkB [edA1]).2 = 0 := by decide +kernel
theorem textA0 : batchT [edA0] = [32, 100, 101, 108, 101, 116, 101, 32, 55, 10] := by
  unfold batchT batchLs edLs edA0
  rw [List.flatMap_cons]
  unfold lineA
  rw [itoa7]; rfl
theorem textA1 : batchT [edA1] = txA := by
  unfold batchT batchLs edLs edA1
  rw [List.flatMap_cons]
  unfold lineA
  rw [itoa0]; rfl
theorem decA1 : decL txA = some [edA1] := decL_iff.2 ⟨by decide, chkA1, fun ed h => by rw [List.mem_singleton.1 h]; exact ⟨by decide, by decide⟩, textA1⟩
set_option maxRecDepth 100000 in
set_option maxHeartbeats 4000000 in
theorem aliveA_any (w : World) (hT : Tabs w) : Calls Tryz.prog 18 #[] w fun e w' => e = .returned (.bool true) ∧ Below w.heap.size w w' := by
  obtain ⟨wa, hwa⟩ : ∃ wa, wa = w.alloc (.cells #[.int .i64 2, .int .i64 7, .slice none 0 0] 64) := ⟨_, rfl⟩
  have hba : Below w.heap.size w wa := by rw [hwa]; exact (Below.refl _ w).alloc (Nat.le_refl _) _
  have cE : Cells wa w.heap.size 64 #[.int .i64 2, .int .i64 7, .slice none 0 0] := by rw [hwa]; exact Cells.new _ _ _
  have hV : EdV wa (.slice (some ⟨w.heap.size, 0, none⟩) 1 1) [edA0] := by
    refine ⟨_, 1, rfl, Nat.le_refl _, fun i ed hi => ?_⟩
    match i, hi with
    | 0, hi =>
      simp at hi; subst hi
      exact ⟨_, 0, .slice none 0 0, rfl, cE.lt, by rw [cE.cell]; rfl, by rw [cE.cell]; rfl, by rw [cE.cell]; rfl, ⟨none, 0, rfl, Nat.le_refl _, fun i f h => by simp [edA0] at h⟩, fun n c h => by cases h; rfl⟩
    | i + 1, hi => simp at hi
  have EN := encode_any [edA0] _ wa hV (by decide) (fun ed h => by rw [List.mem_singleton.1 h]; exact ⟨by decide, fun f hf => by cases hf⟩) (fun ed h => by rw [List.mem_singleton.1 h]; exact ⟨by decide, by decide⟩) (hT.below hba (Nat.le_refl _))
  have HEN := Lib.hid EN
  have HBA := Lib.hid hba
  have DE := Lib.hid (fun W (hW : Below w.heap.size w W) => decode_any txA (by decide) W (hT.below hW (Nat.le_refl _)))
  rw [show B txA = (⟨#[32, 105, 110, 115, 101, 114, 116, 32, 48, 10, 32, 32, 65, 58, 32, 49, 10, 32, 32, 32, 50, 10]⟩ : ByteArray) from rfl] at DE
  clear EN hba hV cE hT
  subst hwa
  go_enter Tryz.func18, Tryz.ntmps18
  go_wp2_with fail
  refine HEN.out.mono ?_
  rintro e w1 ⟨b1, ⟨_, rfl⟩ | ⟨hx, _⟩⟩
  rotate_left
  · exact absurd chkA0 hx
  rw [textA0, show B [32, 100, 101, 108, 101, 116, 101, 32, 55, 10] = (⟨#[32, 100, 101, 108, 101, 116, 101, 32, 55, 10]⟩ : ByteArray) from rfl]
  have B1 := Lib.hid (HBA.out.trans (b1.mono HBA.out.size))
  have DE1 := Lib.hid (DE.out w1 B1.out)
  clear HEN b1 DE
  go_wp2_with fail
  refine DE1.out.mono ?_
  rintro e w2 ⟨b2, ⟨hx, _⟩ | ⟨eds, u, fvs, hd, rfl, ho⟩⟩
  · rw [decA1] at hx; cases hx
  rw [decA1] at hd
  obtain rfl := Option.some.inj hd
  obtain ⟨A, cap, rfl, hle, hc⟩ := ho.edv
  obtain ⟨b, off, fv, rfl, hb, c0, c1, c2, hfl⟩ := hc 0 edA1 rfl
  obtain ⟨FA, fcap, rfl, hfle, hfc⟩ := hfl.1
  obtain ⟨fb, foff, rfl, hfb, d0, d1⟩ := hfc 0 ([65], [49, 10, 50]) rfl
  have B2 := Lib.hid (B1.out.trans (b2.mono B1.out.size))
  simp only [Nat.zero_mul, Nat.add_zero] at c2 d1
  rw [show B ([65], [49, 10, 50]).2 = (⟨#[49, 10, 50]⟩ : ByteArray) from rfl] at d1
  rw [show edA1.fields.length = 1 from rfl] at c2
  clear DE1 b2 hd ho hc hfl hfc c0 c1 d0
  simp only [List.length_cons, List.length_nil]
  go_wp2_with fail
  go_ret
  exact ⟨rfl, B2.out⟩
end Go.Proofs.YtgaooalckjjplaaGreatDoor

namespace Go.Proofs.YtgaooalckjjplaaGreatDoor
open Go.RowKit Go.Shelf
attribute [local go_sem] Oper.semAt_some

theorem batch_le {eds : List Ed} (hg : ∀ ed ∈ eds, goodE ed = 0) (hi : ∀ ed ∈ eds, I64 ed.id) : (batchT eds).length ≤ 600000 * eds.length := by
  induction eds with
  | nil => exact Nat.le_refl _
  | cons a r ih =>
    have h1 := edT_le (goodE_F (hg a List.mem_cons_self)) (hi a List.mem_cons_self)
    have h2 := ih (fun x hx => hg x (List.mem_cons_of_mem _ hx)) (fun x hx => hi x (List.mem_cons_of_mem _ hx))
    rw [batchT_cons, List.length_append, List.length_cons]; omega
set_option maxRecDepth 100000 in
set_option maxHeartbeats 8000000 in
theorem refEncodeA_any (eds : List Ed) (v : Value) (w : World) (h : EdV w v eds) (hl : eds.length ≤ 51) (hg : ∀ ed ∈ eds, goodE ed = 0) (hi : ∀ ed ∈ eds, I64 ed.id) :
    Calls Tryz.prog 51 #[v] w fun e w' => e = .returned (.string (B (batchT eds))) ∧ Below w.heap.size w w' := by
  obtain ⟨A, cap, rfl, hle, hc⟩ := h
  have PC := Lib.hid hc
  have HG := Lib.hid hg
  have HI := Lib.hid hi
  clear hc hg hi
  go_enter Tryz.func51, Tryz.ntmps51
  go_wp2_with fail
  go_loopw [3, 4] (fun sv i wr => ∃ k : Nat, k ≤ eds.length ∧ i = .int .i64 k ∧ sv = .string (B (batchT (eds.take k))) ∧ Below w.heap.size w wr) (fun _ i _ => eds.length - (intOf i).toNat)
  case atStart => exact ⟨0, Nat.zero_le _, rfl, rfl, Below.refl _ _⟩
  case round =>
    obtain ⟨k, hk, rfl, rfl, hb⟩ := hrel
    by_cases hlt : k < eds.length
    · obtain ⟨ed, hed⟩ : ∃ ed, eds[k]? = some ed := ⟨_, List.getElem?_eq_getElem hlt⟩
      obtain ⟨b, off, fv, rfl, hbb, c0, c1, c2, hfl⟩ := PC.out k ed hed
      have hie := HI.out ed (List.mem_of_getElem? hed)
      have GF := goodE_F (HG.out ed (List.mem_of_getElem? hed))
      have TK : Hid (batchT (eds.take (k + 1)) = batchT (eds.take k) ++ ((lineA ed.kind ed.id ++ [10]) ++ indL [32, 32] (linesOf (foldG ed.fields)))) := by
        show _ = _
        rw [take_snoc hed, batchT_snoc, edT_parts GF]
      have ELE := edT_le GF hie
      rw [edT_parts GF, List.length_append, List.length_append] at ELE
      have BLE : (batchT (eds.take k)).length ≤ 600000 * 51 := by
        have h1 := batch_le (eds := eds.take k) (fun x hx => HG.out x (List.mem_of_mem_take hx)) (fun x hx => HI.out x (List.mem_of_mem_take hx))
        rw [List.length_take] at h1
        have : min k eds.length ≤ 51 := by omega
        omega
      have fle := foldG_le GF
      have fl40 := GF.len
      have hEE : ∀ W, Below wr.drew.heap.size wr.drew W → (Instr.loadAt 64 (.pointer (some ⟨b, off + k * 3, none⟩))).run Tryz.prog W = .ok (.agg #[.int .i64 ed.kind, .int .i64 ed.id, fv]) W ∧ (Instr.loadAt 46 (.pointer (some ⟨b, off + k * 3 + 2, none⟩))).run Tryz.prog W = .ok fv W := fun W hW => by
        have hW' : Below w.heap.size w W := hb.drew.trans (hW.mono hb.size)
        have d0 := (hW'.cell (p := ⟨b, off + k * 3, none⟩) hbb).trans c0
        have d1 := (hW'.cell (p := ⟨b, off + k * 3 + 1, none⟩) hbb).trans c1
        have d2 := (hW'.cell (p := ⟨b, off + k * 3 + 1 + 1, none⟩) hbb).trans c2
        obtain ⟨fa, fc, rfl, _, _⟩ := _root_.id hfl.1
        exact ⟨by simp [go_sem, d0, d1, d2], by simp [go_sem, d2]⟩
      have hfv' : ∀ W, Below wr.drew.heap.size wr.drew W → Flds W fv ed.fields := fun W hW => hfl.1.below (hb.drew.trans (hW.mono hb.size)) (Nat.le_refl _)
      have hlt2 := hlt
      go_upto_region 5 with fail
      refine wp_region_any (by kernel_rfl) ?_
      refine region_re5 _ wr.drew b off eds.length cap k ed.kind ed.id fv (B (batchT (eds.take k))) (B (lineA ed.kind ed.id)) (B (foldG ed.fields)) (B (indL [32, 32] (linesOf (foldG ed.fields)))) _ rfl rfl rfl rfl hlt2 hEE (by rw [B_size]; omega) (by rw [B_size]; omega) (by rw [B_size]; omega) ?h5 ?h13 ?h14 ?hQ
      case h5 => exact fun W hW => (refLineA_any ed.kind ed.id fv hie W).mono fun e w' ⟨he, hb⟩ => ⟨_, he, rfl, hb⟩
      case h13 => exact fun W hW => (refFold_any ed.fields fv W (hfv' W hW) (by omega) GF.small).mono fun e w' ⟨he, hb⟩ => ⟨_, he, rfl, hb⟩
      case h14 =>
        intro W hW
        refine (refIndent_any (B (foldG ed.fields)) ⟨#[32, 32]⟩ (by rw [B_size]; omega) (by decide) W).mono ?_
        rintro e w' ⟨rfl, hb⟩
        exact ⟨_, rfl, by rw [B_data]; rfl, hb⟩
      case hQ =>
        intro y0 y1 y2 y3 y4 y5 y6 y7 y8 y9 y10 y11 y12 y13 y14 y15 w2 hb2 hy15
        have hy : y15 = .string (B (batchT (eds.take k)) ++ B (lineA ed.kind ed.id) ++ ⟨#[10]⟩ ++ B (indL [32, 32] (linesOf (foldG ed.fields)))) := hy15
        rw [show (⟨#[10]⟩ : ByteArray) = B [10] from rfl, B_append, B_append, B_append, show batchT (eds.take k) ++ lineA ed.kind ed.id ++ [10] ++ indL [32, 32] (linesOf (foldG ed.fields)) = batchT (eds.take (k + 1)) by rw [TK.out]; simp] at hy
        subst hy
        have HB2 := Lib.hid (hb.drew.trans (hb2.mono hb.size))
        clear hb2 hy15 hEE hfv' hfl GF hie hed c0 c1 c2 TK ELE BLE fle
        simp only [List.foldl, List.setIfInBounds_toArray, List.set_cons_zero, List.set_cons_succ]
        generalize hXe : B (batchT (eds.take (k + 1))) = X at *
        go_wp2_with fail
        go_roundw
        case rel => exact ⟨k + 1, hlt, by go_num, by rw [hXe], HB2.out⟩
        case measure => simp [intOf]; omega
    · obtain rfl : k = eds.length := by omega
      rw [List.take_length] at *
      have HB := Lib.hid hb
      clear hb PC HG HI
      generalize hXe : B (batchT eds) = X at *
      go_wp2_with fail
      go_ret
      exact ⟨by rw [hXe]; rfl, HB.out⟩
end Go.Proofs.YtgaooalckjjplaaGreatDoor

namespace Go.Proofs.YtgaooalckjjplaaGreatDoor
open Go.RowKit Go.Shelf

theorem joinNl_snocs : ∀ (xs : List (List UInt8)) (y : List UInt8), xs ≠ [] → joinNl (xs ++ [y]) = joinNl xs ++ 10 :: y
  | [], _, h => absurd rfl h
  | [p], y, _ => rfl
  | p :: q :: r, y, _ => by
    show p ++ 10 :: joinNl ((q :: r) ++ [y]) = (p ++ 10 :: joinNl (q :: r)) ++ 10 :: y
    rw [joinNl_snocs (q :: r) y (by simp)]; simp
theorem joinNl_mono : ∀ (xs ys : List (List UInt8)), (joinNl xs).length ≤ (joinNl (xs ++ ys)).length
  | [], ys => by simp [joinNl]
  | [p], [] => by simp
  | [p], q :: r => by show p.length ≤ (p ++ 10 :: joinNl (q :: r)).length; simp
  | p :: q :: r, ys => by
    show (p ++ 10 :: joinNl (q :: r)).length ≤ (p ++ 10 :: joinNl ((q :: r) ++ ys)).length
    have := joinNl_mono (q :: r) ys
    simp only [List.length_append, List.length_cons] at this ⊢; omega
/-- What is said up to k further lines. -/
def accV (a : List UInt8) (r : List (List UInt8)) (k : Nat) : List UInt8 := joinNl (dropSp (afterC a) :: (r.take k).map fun l => dropDot l.tail)
theorem accV_step (a : List UInt8) (r : List (List UInt8)) (k : Nat) (x : List UInt8) (hx : r[k]? = some x) : accV a r (k + 1) = accV a r k ++ 10 :: dropDot x.tail := by
  unfold accV
  rw [List.take_add_one, hx, show (some x).toList = [x] from rfl, List.map_append, ← List.cons_append]
  exact joinNl_snocs _ _ (by simp)
theorem accV_le (a : List UInt8) (r : List (List UInt8)) (k : Nat) : (accV a r k).length ≤ (saidV (a :: r)).length := by
  unfold accV saidV saidP
  simp only [List.headD_cons, List.tail_cons]
  have := joinNl_mono (dropSp (afterC a) :: (r.take k).map fun l => dropDot l.tail) ((r.drop k).map fun l => dropDot l.tail)
  rw [List.cons_append, ← List.map_append, List.take_append_drop] at this
  exact this
theorem accV_all (a : List UInt8) (r : List (List UInt8)) : accV a r r.length = saidV (a :: r) := by
  unfold accV saidV saidP
  rw [List.take_length]; rfl
theorem allK_drop (r : List (List UInt8)) (k : Nat) (x : List UInt8) (h : r[k]? = some x) : sayG 3 (r.drop k) = ((kindL x == 3) && sayG 3 (r.drop (k + 1))) := sayG_drop r k 3 x h
theorem sayF_cons {a : List UInt8} {r : List (List UInt8)} (h : kindL a = 4) : sayF (a :: r) = sayG 3 r := by
  rw [sayF_eq]
  show (decide (0 < (a :: r).length) && ((kindL a == 4) && sayG 3 r)) = _
  simp [h]

set_option maxRecDepth 100000 in
set_option maxHeartbeats 4000000 in
theorem refUnfold_no (ls : List (List UInt8)) (v : Value) (w : World) (hs : Strs w v (ls.map B)) (hl : ∀ l ∈ ls, l.length ≤ 100000) (hn : ls.length ≤ 100000) (h0 : ls = [] ∨ ∃ a r, ls = a :: r ∧ kindL a ≠ 4) :
    Calls Tryz.prog 48 #[v] w fun e w' => e = .returned (.tuple #[.agg #[.string ⟨#[]⟩, .string ⟨#[]⟩], .int .i64 2]) ∧ Below w.heap.size w w' := by
  obtain ⟨A, cap, rfl, hle, hc⟩ := hs
  have hcb := cellB hc
  clear hc
  rcases h0 with rfl | ⟨a, r, rfl, hka⟩
  · clear hcb
    rw [List.length_map, List.length_nil]
    go_enter Tryz.func48, Tryz.ntmps48
    go_wp2_with fail
    have RE := Cells.new w 66 #[.string ⟨#[]⟩, .string ⟨#[]⟩]
    refine bodyPost_ret (ret_f2 rfl _ _ w.heap.size _ rfl RE rfl) rfl ?_
    exact ⟨rfl, (Below.refl _ _).alloc (Nat.le_refl _) _⟩
  · obtain ⟨b, off, rfl, hbb, hca⟩ := hcb 0 a rfl
    rw [Nat.add_zero] at hca
    clear hcb
    have hal := hl a (by simp)
    have RK := fun w => refKind_any (B a) (by rw [B_size]; omega) w
    rw [B_data] at RK
    have hki : ((kindL a : Int) != 4) = true := by simp; omega
    rw [List.length_map, List.length_cons] at *
    have hnz : ((r.length : Int) + 1 == 0) = false := by rw [beq_eq_false_iff_ne]; omega
    clear hka
    generalize kindL a = ka at *
    generalize B a = X at *
    go_enter Tryz.func48, Tryz.ntmps48
    go_wp2_with fail
    refine (RK _).mono ?_
    rintro e w1 ⟨rfl, b1⟩
    have R1 := cells_kept (Cells.new w 66 #[.string ⟨#[]⟩, .string ⟨#[]⟩]) b1 (by simp)
    have c0 := R1.cell 0
    have c1 := R1.cell 1
    have f0 := R1.frozen 0
    have f1 := R1.frozen 1
    have hb1 : Below w.heap.size w w1 := ((Below.refl _ _).alloc (Nat.le_refl _) _).trans (b1.mono (by simp))
    simp only [List.getElem?_toArray, List.getElem?_cons_zero, List.getElem?_cons_succ] at c0 c1
    have RE := (R1.set 0 (.string ⟨#[]⟩)).set 1 (.string ⟨#[]⟩)
    rw [set2] at RE
    clear b1
    go_wp2_with fail
    refine bodyPost_ret (ret_f2 rfl _ _ w.heap.size _ rfl RE rfl) rfl ?_
    exact ⟨rfl, (hb1.setCell (Nat.le_refl _) _).setCell (Nat.le_refl _) _⟩
end Go.Proofs.YtgaooalckjjplaaGreatDoor

