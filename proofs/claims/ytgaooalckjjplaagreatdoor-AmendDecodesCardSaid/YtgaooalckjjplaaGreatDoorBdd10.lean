/- Texts put together: AJ, AK, BJ, AL. -/
import Derived.Test.YtgaooalckjjplaaGreatDoorBfa1
import Derived.Test.YtgaooalckjjplaaGreatDoorBfa2
import Derived.Test.YtgaooalckjjplaaGreatDoorBfa3
import Derived.Test.YtgaooalckjjplaaGreatDoorBfa4
import Derived.Test.YtgaooalckjjplaaGreatDoorBfa5
import Derived.Test.YtgaooalckjjplaaGreatDoorBfa7
import Derived.Test.YtgaooalckjjplaaGreatDoorBfa8
import Derived.Test.YtgaooalckjjplaaGreatDoorBfa9
import Derived.Test.YtgaooalckjjplaaGreatDoorBfa10
import Derived.Test.YtgaooalckjjplaaGreatDoorBfa11
import Derived.Test.YtgaooalckjjplaaGreatDoorBfa12
import Derived.Test.YtgaooalckjjplaaGreatDoorBfa13
import Derived.Test.YtgaooalckjjplaaGreatDoorBfa14
import Derived.Test.YtgaooalckjjplaaGreatDoorBfa15
import Derived.Test.YtgaooalckjjplaaGreatDoorBfa16
import Derived.Test.YtgaooalckjjplaaGreatDoorBfa17
import Derived.Test.YtgaooalckjjplaaGreatDoorBdd1
import Derived.Test.YtgaooalckjjplaaGreatDoorBdd2
import Derived.Test.YtgaooalckjjplaaGreatDoorBdd3
import Derived.Test.YtgaooalckjjplaaGreatDoorBdd4
import Derived.Test.YtgaooalckjjplaaGreatDoorBdd5
import Derived.Test.YtgaooalckjjplaaGreatDoorBdd6
import Derived.Test.YtgaooalckjjplaaGreatDoorBdd7
import Derived.Test.YtgaooalckjjplaaGreatDoorBdd8
import Derived.Test.YtgaooalckjjplaaGreatDoorBdd9
set_option linter.unusedVariables false
namespace Go.Proofs.YtgaooalckjjplaaGreatDoor
open Go.RowKit Go.Shelf
attribute [local go_sem] Oper.semAt_some

theorem freeze_below {N : Nat} {w w' : World} (h : Below N w w') {p : Addr} (hp : N ≤ p.block) (k : Nat) : Below N w (w'.freeze p k) := by
  unfold World.freeze
  by_cases hk : k = 0
  · rw [if_pos hk]; exact h
  · rw [if_neg hk]
    refine ⟨h.os, h.tape, h.output, ?_, fun j hj => ?_⟩
    · simp; exact h.size
    · simp only [Array.getElem?_modify]
      rw [if_neg (by omega)]
      exact h.block j hj
theorem bytes_below (w : World) (e : TypeId) (s : ByteArray) : Below w.heap.size w (Lib.bytesWorld w e s) := by
  unfold Lib.bytesWorld
  exact freeze_below ((Below.refl _ w).drew.alloc (Nat.le_refl _) _) (Nat.le_refl _) _
theorem atoi_any (l : List UInt8) (hl : l.length ≤ 1000000) (w : World) (ht : Tabs w) :
    Calls Tryz.prog 112 #[.string (B l)] w fun e w' => (∃ T q, e = .returned (.tuple #[.int .i64 (atoiV l), .nilIface]) ∨ e = .returned (.tuple #[.int .i64 (atoiV l), .iface T q])) ∧ Below w.heap.size w w' := by
  cases h : Lib.atoiAll l with
  | ok v =>
    refine (Tryz.strconv_Atoi_ok (B l) (by rw [B_size]; omega) v (by rw [B_data]; exact h) w).mono ?_
    rintro e w' ⟨rfl, hw⟩
    refine ⟨⟨0, undef, .inl (by unfold atoiV; rw [h])⟩, ?_⟩
    rcases hw with rfl | ⟨t, rfl⟩
    · exact Below.refl _ _
    · exact bytes_below _ _ _
  | range =>
    obtain ⟨tp, p, hv⟩ := ht.ran
    refine (Tryz.strconv_Atoi_range_var (B l) (by rw [B_size]; omega) (by rw [B_data]; exact h) tp p w hv).mono ?_
    rintro e w' ⟨N, rfl, _, _, hb⟩
    exact ⟨⟨_, _, .inr (by unfold atoiV; rw [h, B_data])⟩, hb⟩
  | _ =>
    obtain ⟨tp, p, hv⟩ := ht.syn
    refine (Tryz.strconv_Atoi_syntax_var (B l) (by rw [B_size]; omega) (by rw [B_data]; exact h) tp p w hv).mono ?_
    rintro e w' ⟨N, rfl, _, _, hb⟩
    exact ⟨⟨_, _, .inr (by unfold atoiV; rw [h])⟩, hb⟩
theorem results_cellE {fn : Func} {p : Tmp} {ty : TypeId} (h : fn.results = #[.cell p ty]) (tmps : Array Value) (P : Program) (w : World) :
    (results fn tmps).run P w = ((asAddr (tmps.getD p undef)).run P w).andThen fun a w₁ => (loadVar ty a).run P w₁ := by
  simp only [results, h]
  simp [Sem.run_bind, Result.andThen]
set_option maxRecDepth 100000 in
theorem ret_edit {fn : Func} {p : Tmp} (h : fn.results = #[.cell p 64]) (tmps : Array Value) (w : World) (b : Nat) (cur : Array Value) (hp : tmps.getD p undef = .pointer (some ⟨b, 0, none⟩))
    (hc : Cells w b 64 cur) (hz : cur.size = 3) : (results fn tmps).run Tryz.prog w = .ok (.agg cur) w := by
  have L := run_loadVar_row (P := Tryz.prog) w b 64 64 cur (0, 0) _ hc Tryz.underlying64 rfl (by rw [hz]; kernel_rfl)
  rw [results_cellE h, hp]
  show (loadVar _ _).run _ _ = _
  exact L
theorem trim_le (l p : List UInt8) : (Lib.trimPrefix l p).length ≤ l.length := by
  unfold Lib.trimPrefix
  split
  · rw [List.length_drop]; omega
  · exact Nat.le_refl _
theorem takeW_le (l : List UInt8) (p : UInt8 → Bool) : (l.takeWhile p).length ≤ l.length := (List.takeWhile_sublist p).length_le
/-- An edit that a piece says, as a value. -/
def SaidV (lo : Nat) (t : List UInt8) (v : Value) (w : World) : Prop := ∃ u, v = .agg #[.int .i64 (saidE t).kind, .int .i64 (saidE t).id, u] ∧ w.ownsRow lo 66 2 u (saidE t).fields.length (cellsF (saidE t).fields)
set_option maxRecDepth 100000 in
set_option maxHeartbeats 4000000 in
theorem asaid_any (t : List UInt8) (ht : t.length ≤ 60000) (w : World) (hT : Tabs w) :
    Calls Tryz.prog 92 #[.string (B t)] w fun e w' => ∃ v, e = .returned v ∧ SaidV w.heap.size t v w' ∧ Below w.heap.size w w' := by
  obtain ⟨wa, hwa⟩ : ∃ wa, wa = w.alloc (.cells #[.int .i64 0, .int .i64 0, .slice none 0 0] 64) := ⟨_, rfl⟩
  have hba : Below w.heap.size w wa := by rw [hwa]; exact (Below.refl _ w).alloc (Nat.le_refl _) _
  have hza : wa.heap.size = w.heap.size + 1 := by rw [hwa]; simp
  have CX := Lib.hid (show Cells wa w.heap.size 64 #[.int .i64 0, .int .i64 0, .slice none 0 0] by rw [hwa]; exact Cells.new _ _ _)
  have HBA := Lib.hid hba
  have l1 : (lineS t).length ≤ 60000 := by have := takeW_le t (· != 10); unfold lineS; omega
  have l2 := trim_le (lineS t) [32]
  have l3 : (nameS t).length ≤ 60000 := by have := takeW_le (Lib.trimPrefix (lineS t) [32]) (· != 32); unfold nameS; omega
  have l4 : (figS t).length ≤ 60000 := by unfold figS; rw [List.length_drop]; omega
  have l5 : (restD t).length ≤ 60000 := by unfold restD; rw [List.length_drop]; omega
  have C1 := Lib.hid (cut_byte t 10 (by omega) wa)
  rw [show t.takeWhile (· != 10) = lineS t from rfl, show t.drop ((lineS t).length + 1) = restD t from rfl] at C1
  have TP := Lib.hid (fun W => Tryz.strings_TrimPrefix (B (lineS t)) ⟨#[32]⟩ W)
  rw [B_data, show (⟨#[32]⟩ : ByteArray).data.toList = [32] from rfl] at TP
  rw [show (⟨(Lib.trimPrefix (lineS t) [32]).toArray⟩ : ByteArray) = B (Lib.trimPrefix (lineS t) [32]) from rfl] at TP
  have C2 := Lib.hid (fun W => cut_byte (Lib.trimPrefix (lineS t) [32]) 32 (by omega) W)
  rw [show (Lib.trimPrefix (lineS t) [32]).takeWhile (· != 32) = nameS t from rfl, show (Lib.trimPrefix (lineS t) [32]).drop ((nameS t).length + 1) = figS t from rfl] at C2
  have AT := Lib.hid (fun W (hW : Below w.heap.size w W) => atoi_any (figS t) (by omega) W (hT.below hW (Nat.le_refl _)))
  have KN := Lib.hid (fun W => akind_any (nameS t) W)
  have UF := Lib.hid (fun W => aunfold_any (restD t) l5 W)
  have SD : Hid (saidE t = ⟨kindOf (nameS t), atoiV (figS t), unfoldF (restD t)⟩) := rfl
  generalize lineS t = la at *
  generalize B (Lib.trimPrefix la [32]) = tl at *
  generalize restD t = re at *
  generalize nameS t = na at *
  generalize figS t = fi at *
  clear hba hT l1 l2 l3 l4 l5
  subst hwa
  go_enter Tryz.func92, Tryz.ntmps92
  go_wp2_with fail
  refine C1.out.mono ?_
  rintro e w1 ⟨⟨b1, rfl⟩, h1⟩
  have HB1 := Lib.hid (HBA.out.trans (h1.mono HBA.out.size))
  have K1 := Lib.hid (cells_kept CX.out h1 (by rw [hza]; omega))
  have z1 := h1.size
  rw [hza] at z1
  have TP1 := Lib.hid (TP.out w1)
  clear C1 h1 TP CX
  go_wp2_with fail
  refine TP1.out.mono ?_
  rintro e w2 ⟨rfl, rfl⟩
  have C22 := Lib.hid (C2.out w2)
  clear TP1 C2
  go_wp2_with fail
  refine C22.out.mono ?_
  rintro e w3 ⟨⟨b3, rfl⟩, h3⟩
  have HB3 := Lib.hid (HB1.out.trans (h3.mono HB1.out.size))
  have K3 := Lib.hid (cells_kept K1.out h3 (by omega))
  have z3 := h3.size
  have AT3 := Lib.hid (AT.out w3 HB3.out)
  clear C22 h3 K1 AT
  go_wp2_with fail
  refine AT3.out.mono ?_
  rintro e w4 ⟨⟨T, q, hq⟩, h4⟩
  have HB4 := Lib.hid (HB3.out.trans (h4.mono HB3.out.size))
  have K4 := Lib.hid (cells_kept K3.out h4 (by omega))
  have z4 := h4.size
  have KN4 := Lib.hid (KN.out w4)
  clear AT3 h4 K3 KN
  rcases hq with rfl | rfl
  all_goals
    go_wp2_with fail
    refine KN4.out.mono ?_
    rintro e w5 ⟨rfl, h5⟩
    have HB5 := Lib.hid (HB4.out.trans (h5.mono HB4.out.size))
    have K5 := Lib.hid (cells_kept K4.out h5 (by omega))
    have z5 := h5.size
    have UF5 := Lib.hid (UF.out w5)
    clear KN4 h5 K4 UF
    go_wp2_with fail
    refine UF5.out.mono ?_
    rintro e w6 ⟨u, rfl, hu, h6⟩
    have HB6 := Lib.hid (HB5.out.trans (h6.mono HB5.out.size))
    have K6 := cells_kept K5.out h6 (by omega)
    obtain ⟨ua, uc, rfl, _⟩ := own_slice hu
    have hlow : ∀ k, (Value.slice ua (unfoldF re).length uc).ownBlock = some k → w.heap.size < k := fun k hk => by have := (hu.lt k hk).1; omega
    have k0 := K6.cell 0
    have k1 := K6.cell 1
    have k2 := K6.cell 2
    have f0 := K6.frozen 0
    have f1 := K6.frozen 1
    have f2 := K6.frozen 2
    have R7 := Lib.hid (((K6.set 0 (.int .i64 (kindOf na))).set 1 (.int .i64 (atoiV fi))).set 2 (.slice ua (unfoldF re).length uc))
    have HU := Lib.hid (rowBase (base' := w.heap.size) hu (by omega))
    have HL := Lib.hid hlow
    clear UF5 h6 K5 hu K6 hlow
    go_wp2_with fail
    refine bodyPost_ret (ret_edit rfl _ _ w.heap.size _ rfl R7.out rfl) rfl ?_
    refine ⟨_, rfl, ?_, ((HB6.out.setCell (p := ⟨w.heap.size, 0, none⟩) (Nat.le_refl _) _).setCell (p := ⟨w.heap.size, 1, none⟩) (Nat.le_refl _) _).setCell (p := ⟨w.heap.size, 2, none⟩) (Nat.le_refl _) _⟩
    rw [show SaidV w.heap.size t = fun v w' => ∃ u, v = .agg #[.int .i64 (saidE t).kind, .int .i64 (saidE t).id, u] ∧ w'.ownsRow w.heap.size 66 2 u (saidE t).fields.length (cellsF (saidE t).fields) from rfl, SD.out]
    have hn : ∀ p : Addr, p.block = w.heap.size → ∀ k, (Value.slice ua (unfoldF re).length uc).ownBlock = some k → k ≠ p.block := fun p hp k hk => by have := HL.out k hk; omega
    exact ⟨_, rfl, row_cell (p := ⟨w.heap.size, 2, none⟩) (row_cell (p := ⟨w.heap.size, 1, none⟩) (row_cell (p := ⟨w.heap.size, 0, none⟩) HU.out (fun e => by have := HL.out _ e; simp at this) _) (fun e => by have := HL.out _ e; simp at this) _) (fun e => by have := HL.out _ e; simp at this) _⟩
end Go.Proofs.YtgaooalckjjplaaGreatDoor

namespace Go.Proofs.YtgaooalckjjplaaGreatDoor
open Go.RowKit Go.Shelf
attribute [local go_sem] Oper.semAt_some

/-- What is read, line by line: the edits, where the one begins that is under way. -/
def stepR (t : List UInt8) (st : List Ed × Nat) (x : Ln) : List Ed × Nat := if st.2 < x.at_ ∧ Lib.hasPrefix x.text [32, 32] = false then (st.1 ++ [saidE ((t.drop st.2).take (x.at_ - st.2))], x.at_) else st
def readS (t : List UInt8) (xs : List Ln) : List Ed × Nat := xs.foldl (stepR t) ([], 0)
theorem readS_snoc (t : List UInt8) (xs : List Ln) (x : Ln) : readS t (xs ++ [x]) = stepR t (readS t xs) x := by unfold readS; rw [List.foldl_append]; rfl
theorem fold_pieces (t : List UInt8) : ∀ (xs : List Ln) (acc : List Ed) (b : Nat), (xs.foldl (stepR t) (acc, b)).1 ++ [saidE (t.drop (xs.foldl (stepR t) (acc, b)).2)] = acc ++ (piecesOn t b xs).map saidE
  | [], acc, b => rfl
  | x :: r, acc, b => by
    rw [List.foldl_cons, piecesOn]
    by_cases h : b < x.at_ ∧ Lib.hasPrefix x.text [32, 32] = false
    · rw [show stepR t (acc, b) x = (acc ++ [saidE ((t.drop b).take (x.at_ - b))], x.at_) from if_pos h, fold_pieces t r, if_pos h, List.map_cons]; simp
    · rw [show stepR t (acc, b) x = (acc, b) from if_neg h, fold_pieces t r, if_neg h]
theorem readL_eq (t : List UInt8) : readL t = (readS t (linesOf t)).1 ++ [saidE (t.drop (readS t (linesOf t)).2)] := by
  unfold readL readS
  rw [fold_pieces]; rfl
theorem readS_take (t : List UInt8) (k : Nat) : ((readS t ((linesOf t).take k)).2 ≤ (((linesOf t).take k).flatMap Ln.bytes).length) ∧ (readS t ((linesOf t).take k)).1.length ≤ k := by
  induction k with
  | zero => exact ⟨Nat.le_refl _, Nat.le_refl _⟩
  | succ k ih =>
    rw [List.take_add_one]
    cases h : (linesOf t)[k]? with
    | none => simp only [Option.toList, List.append_nil]; omega
    | some x =>
      obtain ⟨hk, e⟩ := List.getElem?_eq_some_iff.1 h
      have hat := (linesOf_at t ((linesOf t).take k) x ((linesOf t).drop (k + 1)) (by conv => lhs; rw [← List.take_append_drop k (linesOf t), List.drop_eq_getElem_cons hk, e])).2
      show (readS t (_ ++ [x])).2 ≤ _ ∧ (readS t (_ ++ [x])).1.length ≤ _
      rw [readS_snoc]
      have hb : ((((linesOf t).take k ++ [x])).flatMap Ln.bytes).length = (((linesOf t).take k).flatMap Ln.bytes).length + x.bytes.length := by rw [List.flatMap_append, List.length_append]; simp
      show (stepR t _ x).2 ≤ (((linesOf t).take k ++ [x]).flatMap Ln.bytes).length ∧ _
      rw [hb]
      unfold stepR
      split
      · refine ⟨by show x.at_ ≤ _; omega, ?_⟩
        show (_ ++ [_]).length ≤ _
        rw [List.length_append]; simp only [List.length_cons, List.length_nil]; omega
      · exact ⟨by omega, by omega⟩
theorem readS_at {t : List UInt8} {pre post : List Ln} {x : Ln} (h : linesOf t = pre ++ x :: post) : (readS t pre).2 ≤ x.at_ ∧ x.at_ ≤ t.length ∧ (readS t pre).1.length ≤ t.length := by
  have e : pre = (linesOf t).take pre.length := by rw [h]; simp
  have h1 := readS_take t pre.length
  rw [← e] at h1
  have h2 := (linesOf_at t pre x post h).2
  have h3 := congrArg List.length (linesOf_join t)
  rw [h, List.flatMap_append, List.length_append] at h3
  have h4 := linesOf_length t
  rw [h, List.length_append, List.length_cons] at h4
  exact ⟨by omega, by omega, by omega⟩
theorem readS_end (t : List UInt8) : (readS t (linesOf t)).2 ≤ t.length ∧ (readS t (linesOf t)).1.length ≤ t.length := by
  have h1 := readS_take t (linesOf t).length
  rw [List.take_length, linesOf_join] at h1
  have := linesOf_length t
  exact ⟨h1.1, by omega⟩
theorem ext_B (t : List UInt8) (i j : Nat) : (B t).extract i j = B ((t.drop i).take (j - i)) := by
  apply ByteArray.ext
  simp [B, ByteArray.data_extract, List.extract_eq_take_drop]
theorem OwnE.turned {lo B k : Nat} {W W' : World} {v : Value} {eds : List Ed} {fvs : List Value} (h : OwnE lo W v eds fvs) (ht : Turned B k W W') (hlo : B + k ≤ lo) : OwnE lo W' v eds fvs :=
  ⟨ht.row h.row (fun b e => .inr (by have := (h.row.lt b e).1; omega)), h.len, fun i ed fv h1 h2 => ht.row (h.each i ed fv h1 h2) (fun b e => .inr (by have := ((h.each i ed fv h1 h2).lt b e).1; omega))⟩
theorem OwnE.set {lo : Nat} {W : World} {v : Value} {eds : List Ed} {fvs : List Value} (h : OwnE lo W v eds fvs) {p : Addr} (hp : p.block < lo) (u : Value) : OwnE lo (W.setCell p u) v eds fvs :=
  ⟨row_cell h.row (fun e => by have := (h.row.lt _ e).1; omega) _, h.len, fun i ed fv h1 h2 => row_cell (h.each i ed fv h1 h2) (fun e => by have := ((h.each i ed fv h1 h2).lt _ e).1; omega) _⟩
theorem OwnE.snoc {lo : Nat} {w2 w3 : World} {v v' x : Value} {eds : List Ed} {fvs : List Value} {ed : Ed} (h : OwnE lo w2 v eds fvs) (hx : w2.ownsRow lo 66 2 x ed.fields.length (cellsF ed.fields))
    (own3 : w3.ownsRow lo 64 3 v' (eds.length + 1) (edRow eds fvs ++ [.int .i64 ed.kind, .int .i64 ed.id, x])) (grow3 : w2.grownBy w3 v.ownBlock) : OwnE lo w3 v' (eds ++ [ed]) (fvs ++ [x]) := by
  have hty : ∀ (fx : Value) (n : Nat) (xs : List Value), w2.ownsRow lo 66 2 fx n xs → w3.ownsRow lo 66 2 fx n xs := fun fx n xs hx =>
    row_same hx (fun r e => grow3.block r (hx.lt r e).2 (fun q => own_own_ne h.row hx (by decide) r q.symm e))
  refine ⟨by rw [edRow_snoc _ _ _ _ h.len, List.length_append]; exact own3, by rw [List.length_append, List.length_append, h.len]; rfl, fun i y fx h1 h2 => ?_⟩
  rcases Nat.lt_or_ge i eds.length with q | q
  · rw [List.getElem?_append_left q] at h1
    rw [List.getElem?_append_left (by rw [h.len]; exact q)] at h2
    exact hty _ _ _ (h.each i y fx h1 h2)
  · rw [List.getElem?_append_right q] at h1
    rw [List.getElem?_append_right (by rw [h.len]; exact q), h.len] at h2
    rcases hq : i - eds.length with _ | j
    · rw [hq] at h1 h2
      simp at h1 h2
      subst h1 h2
      exact hty _ _ _ hx
    · rw [hq] at h1; simp at h1
theorem row_not {W : World} {lo sz n b : Nat} {T U : TypeId} {v : Value} {xs : List Value} {cur : Array Value} (h : W.ownsRow lo T sz v n xs) (hc : Cells W b U cur) (ht : T ≠ U) : v.ownBlock ≠ some b := by
  intro e
  rcases h.2 with ⟨rfl, _⟩ | ⟨g, cap, cur', rfl, _, hg, _⟩
  · cases e
  · have : g = b := Option.some.inj e
    subst this
    have h2 := hg.symm.trans hc
    injection h2 with h2
    injection h2 with _ h2 _
    exact ht h2
/-- What holds between two rounds. -/
def InvR (w : World) (t : List UInt8) (st : List Ed × Nat) (W : World) : Prop :=
  ∃ u fvs, Boxed W w.heap.size 9 (.string (B t)) ∧ Boxed W (w.heap.size + 1) 22 u ∧ Boxed W (w.heap.size + 2) 3 (.int .i64 (st.2 : Nat)) ∧ OwnE (w.heap.size + 9) W u st.1 fvs ∧ Below w.heap.size w W
theorem InvR.turned {w : World} {t : List UInt8} {st : List Ed × Nat} {W W' : World} {k : Nat} (h : InvR w t st W) (ht : Turned (w.heap.size + 4) k W W') (hk : k ≤ 5) : InvR w t st W' := by
  obtain ⟨u, fvs, h1, h2, h3, h4, h5⟩ := h
  exact ⟨u, fvs, ht.box h1 (.inl (by omega)), ht.box h2 (.inl (by omega)), ht.box h3 (.inl (by omega)), h4.turned ht (by omega), h5.trans (ht.below (by omega) h5.size)⟩
theorem InvR.alloc {w : World} {t : List UInt8} {st : List Ed × Nat} {W : World} (h : InvR w t st W) (o : Obj) : InvR w t st (W.alloc o) := by
  obtain ⟨u, fvs, h1, h2, h3, h4, h5⟩ := h
  exact ⟨u, fvs, h1.alloc _, h2.alloc _, h3.alloc _, h4.below ((Below.refl _ W).alloc (Nat.le_refl _) _) (Nat.le_refl _), h5.alloc h5.size _⟩
set_option maxRecDepth 100000 in
set_option maxHeartbeats 4000000 in
theorem read_any (t : List UInt8) (ht : t.length ≤ 50000) (w : World) (hT : Tabs w) :
    Calls Tryz.prog 45 #[.string (B t)] w fun e w' => ∃ u fvs, e = .returned u ∧ OwnE w.heap.size w' u (readL t) fvs ∧ Below w.heap.size w w' := by
  obtain ⟨xs, hxs⟩ : ∃ xs, linesOf t = xs := ⟨_, rfl⟩
  have HXS := Lib.hid hxs
  have HT := Lib.hid hT
  have RA : Hid (∀ pre x post, xs = pre ++ x :: post → (readS t pre).2 ≤ x.at_ ∧ x.at_ ≤ t.length ∧ (readS t pre).1.length ≤ t.length) := fun pre x post h => readS_at (hxs.trans h)
  clear hxs hT
  refine callsIn_wide (n := 9).1 ?_
  refine callsIn_of_wp_marks Tryz.func45 rfl trivial ?_ rfl
  simp only [Tryz.ntmps45, List.size_toArray, List.length_cons, List.length_nil, Nat.reduceAdd, Nat.reduceSub, Array.replicate_succ, Array.replicate_zero, List.push_toArray, List.append_toArray, List.nil_append, List.cons_append]
  gi_wp2_with fail
  refine ⟨trivial, (callsIn_wide.2 (split_any (B t) _)).mono ?_⟩
  rintro e w3 ⟨rfl, rfl⟩
  gi_wp2_with fail
  obtain ⟨w1, hw1⟩ : ∃ w1, w1 = ((((w.alloc (.cells #[.string (B t)] 9)).alloc (.cells #[.slice none 0 0] 22)).alloc (.cells #[.int .i64 0] 3)).alloc (.cells #[.string (B t)] 9)) := ⟨_, rfl⟩
  have hz : w1.heap.size = w.heap.size + 4 := by rw [hw1]; simp
  have k3 : Boxed w1 (w.heap.size + 3) 9 (.string (B t)) := by
    rw [hw1]
    have := Boxed.new (((w.alloc (.cells #[.string (B t)] 9)).alloc (.cells #[.slice none 0 0] 22)).alloc (.cells #[.int .i64 0] 3)) 9 (.string (B t))
    simpa using this
  have init : InvR w t ([], 0) w1 := by
    rw [hw1]
    refine InvR.alloc ⟨.slice none 0 0, [], ((Boxed.new w _ _).alloc _).alloc _, (boxNew2 w _ _ _).alloc _, boxNew3 w _ _ _ _, ⟨⟨rfl, .inl ⟨rfl, rfl⟩⟩, rfl, fun i ed fv h1 _ => by simp at h1⟩, (((Below.refl _ w).alloc (Nat.le_refl _) _).alloc (by simp) _).alloc (by simp; omega) _⟩ _
  rw [← hw1]
  clear hw1
  have HH := split_hands (B t) (w.heap.size + 3) w1 k3 (by rw [B_size]; omega)
  rw [B_data, HXS.out] at HH
  refine wp_rangedA (gf := 132) (lb := #[.pointer (some ⟨w.heap.size + 3, 0, none⟩)]) rfl (enters_of Tryz.func132 (by kernel_rfl) rfl) HH (fun _ => rfl)
    (fun pre W => InvR w t (readS t pre) W) (fun _ _ _ => False) (by rw [hz]; intro pre W W' h ht; exact h.turned ht (by omega)) (fun _ _ _ _ hs _ => hs) init
    (fun a pre x a' W => ∃ Bx, w.heap.size + 9 ≤ Bx ∧ a' = { tmps := (a.tmps.setIfInBounds 8 (.agg (lineV x))).setIfInBounds 5 (.pointer (some ⟨Bx, 0, none⟩)), defers := [] } ∧ Cells W Bx 172 (lineV x) ∧ InvR w t (readS t pre) W)
    ?hM ?assign ?body ?done ?stop
  case hM =>
    rw [hz]
    rintro a pre x a' _ W W' ⟨Bx, h1, h2, h3, h4⟩ ht
    exact ⟨Bx, h1, h2, (ht.same Bx h3.lt (.inr (by omega))).trans h3, h4.turned (ht.sub (Nat.le_refl _) (by omega)) (Nat.le_refl 5)⟩
  case assign =>
    rw [hz]
    intro l pre x post W hx hsz hi
    clear hx
    dsimp only [lineV]
    gi_wp2
    exact ⟨(Stay.refl _ _ W).alloc hsz _, W.heap.size, by omega, rfl, Cells.new _ _ _, hi.alloc _⟩
  case body =>
    rw [hz]
    rintro l pre x post a' W hx hsz ⟨Bx, hB, rfl, hc, u, fvs, h1, h2, h3, h4, h5⟩
    obtain ⟨r1, r2, r3⟩ := RA.out pre x post hx
    have SN := Lib.hid (readS_snoc t pre x)
    clear hx RA
    obtain ⟨⟨acc, beg⟩, hst⟩ : ∃ st, readS t pre = st := ⟨_, rfl⟩
    rw [hst] at r1 r3 h3 h4 SN
    dsimp only at r1 r3 h3 h4
    simp only [List.setIfInBounds_toArray, List.set_cons_zero, List.set_cons_succ, lineV] at hc ⊢
    have p1 : W.cell? ⟨Bx, 1, none⟩ = some (.int .i64 x.at_) := hc.cell 1
    have p2 : W.cell? ⟨Bx, 2, none⟩ = some (.string ⟨x.text.toArray⟩) := hc.cell 2
    have p3 := h3.cell
    have HI : Hid (InvR w t (acc, beg) W) := ⟨u, fvs, h1, h2, h3, h4, h5⟩
    refine wpIn_block (wpIn_seq ?_)
    by_cases hcd : beg < x.at_ ∧ Lib.hasPrefix x.text [32, 32] = false
    · obtain ⟨hlt, hp⟩ := hcd
      have q : ¬ (x.at_ : Int) ≤ (beg : Int) := by omega
      refine wpIn_mono (Q := fun e a' w' => e = .normal ∧ w' = W ∧ ∃ y9 y10 y11 y12 y13 y14 y15 y16 y17, a' = { tmps := #[.string (B t), .pointer (some ⟨w.heap.size, 0, none⟩), .slice none 0 0, .pointer (some ⟨w.heap.size + 1, 0, none⟩), .pointer (some ⟨w.heap.size + 1 + 1, 0, none⟩), .pointer (some ⟨Bx, 0, none⟩), .string (B t), .func (.func 132) #[] #[.pointer (some ⟨w.heap.size + 1 + 1 + 1, 0, none⟩)], .agg #[.int .i64 x.no, .int .i64 x.at_, .string ⟨x.text.toArray⟩, .bool x.ended], y9, y10, y11, y12, y13, y14, y15, y16, y17, .bool true, undef, undef, undef, undef, undef, undef, undef, undef, undef, undef, undef, undef, undef, undef, undef, undef, undef, undef], defers := [] }) ?first ?rest
      case first =>
        clear HI SN h1 h2 h3 h4 h5
        gi_wp2_with fail
        refine ⟨trivial, ((callsIn_wide.2 (Tryz.strings_HasPrefix ⟨x.text.toArray⟩ ⟨#[32, 32]⟩ W)).inRound l).mono ?_⟩
        rintro e V ⟨rfl, rfl⟩
        rw [show Lib.hasPrefix (⟨x.text.toArray⟩ : ByteArray).data.toList (⟨#[32, 32]⟩ : ByteArray).data.toList = Lib.hasPrefix x.text [32, 32] from rfl, hp]
        gi_wp2_with fail
        all_goals exact ⟨rfl, rfl, _, _, _, _, _, _, _, _, _, rfl⟩
      case rest =>
        rintro e a' w' ⟨rfl, hw', y9, y10, y11, y12, y13, y14, y15, y16, y17, rfl⟩
        subst hw'
        change Code.wpIn _ _ _ _ _ _ _
        refine wpIn_cond_true rfl (wpIn_seq (wp_region_round (by decide +kernel) (by rintro ⟨a, w, h⟩; exact h) (by kernel_rfl) ?_))
        have hzW := h5.size
        have hcbx := hc.lt
        obtain ⟨ua, uc, rfl, _⟩ := own_slice h4.row
        have hS : ∀ V, Below w'.drew.heap.size w'.drew V → V.cell? ⟨w.heap.size + 1, 0, none⟩ = some (.slice ua acc.length uc) ∧ V.cell? ⟨w.heap.size, 0, none⟩ = some (.string (B t)) ∧ V.cell? ⟨w.heap.size + 1 + 1, 0, none⟩ = some (.int .i64 (beg : Nat)) ∧ V.cell? ⟨Bx, 1, none⟩ = some (.int .i64 (x.at_ : Nat)) := fun V hV => by
          have hV' : Below w'.heap.size w' V := (Below.refl w'.heap.size w').drew.trans hV
          exact ⟨(hV'.cell (p := ⟨w.heap.size + 1, 0, none⟩) (by show w.heap.size + 1 < _; omega)).trans h2.cell, (hV'.cell (p := ⟨w.heap.size, 0, none⟩) (by show w.heap.size < _; omega)).trans h1.cell, (hV'.cell (p := ⟨w.heap.size + 1 + 1, 0, none⟩) (by show w.heap.size + 1 + 1 < _; omega)).trans h3.cell, (hV'.cell (p := ⟨Bx, 1, none⟩) hcbx).trans p1⟩
        obtain ⟨pc, hpc⟩ : ∃ pc, pc = (t.drop beg).take (x.at_ - beg) := ⟨_, rfl⟩
        have hpl : pc.length ≤ 60000 := by rw [hpc, List.length_take, List.length_drop]; omega
        have SN1 : Hid (readS t (pre ++ [x]) = (acc ++ [saidE pc], x.at_)) := by
          show _ = _
          rw [SN.out, hpc]; exact if_pos ⟨hlt, hp⟩
        obtain ⟨i0, hi, hz0, hz1, hz2⟩ := info_parts infoEd9
        refine region_rd6 _ w'.drew (w.heap.size + 1) w.heap.size (w.heap.size + 1 + 1) Bx (w.heap.size + 9) (.slice ua acc.length uc) (B t) beg x.at_ (SaidV (w.heap.size + 9) pc) _ rfl rfl rfl rfl rfl hS hsz ⟨r1, by rw [B_size]; exact r2⟩ ?pm ?pf ?pC ?pQ
        case pm =>
          rintro v x y hb ⟨u, e, h⟩
          exact ⟨u, e, row_below h hb (Nat.le_refl _)⟩
        case pf =>
          rintro v w ⟨u, rfl, h⟩
          obtain ⟨A, c, rfl, _⟩ := own_slice h
          exact ⟨_, _, _, _, _, rfl⟩
        case pC =>
          intro V hV
          have hV' : Below w'.heap.size w' V := (Below.refl w'.heap.size w').drew.trans hV
          rw [ext_B, ← hpc]
          refine (asaid_any pc hpl V (HT.out.below (h5.trans (hV'.mono h5.size)) (Nat.le_refl _))).mono ?_
          rintro e w2 ⟨v, rfl, ⟨u, e, h⟩, hb⟩
          exact ⟨v, rfl, ⟨u, e, rowBase h (Nat.le_trans hsz hV'.size)⟩, hb⟩
        case pQ =>
          intro y0 y1 y2 y3 y4 y5 y6 y7 w2 hb2 hy0 hy7
          subst hy0
          obtain ⟨b9, u9, cs9, rfl, ⟨ux, rfl, hux⟩, hlo9, hcs, hcb⟩ := hy7
          injection hcs with hcs
          subst hcs
          have hB2 : Below w'.heap.size w' w2 := (Below.refl w'.heap.size w').drew.trans hb2
          have hO2 := h4.below hB2 (Nat.le_refl _)
          obtain ⟨xa, xc, rfl, _⟩ := own_slice hux
          have HV : Hid (∀ (i : Nat) (u : Value), [Value.int .i64 (saidE pc).kind, .int .i64 (saidE pc).id, .slice xa (saidE pc).fields.length xc][i]? = some u → w2.cell? ((⟨b9, 0, none⟩ : Addr).add i) = some u) := fun i u h => by
            have ea : (⟨b9, 0, none⟩ : Addr).add i = ⟨b9, i, none⟩ := by unfold Addr.add; split <;> simp_all
            rw [ea, hcb.cell i]; simpa using h
          have k1 : Boxed w2 w.heap.size 9 (.string (B t)) := (hB2.block _ h1.lt).trans h1
          have k2 : Boxed w2 (w.heap.size + 1) 22 (.slice ua acc.length uc) := (hB2.block _ h2.lt).trans h2
          have k3' : Boxed w2 (w.heap.size + 1 + 1) 3 (.int .i64 (beg : Nat)) := (hB2.block _ h3.lt).trans h3
          have kc := cells_kept hc hB2 hcbx
          have hz2' := hB2.size
          have HR := Lib.hid hO2.row
          have HO2 := Lib.hid hO2
          have HUX := Lib.hid hux
          have HB2 := Lib.hid hB2
          have K := Lib.hid (And.intro k1 (And.intro k2 (And.intro k3' kc)))
          have H5 := Lib.hid h5
          have hal : acc.length ≤ 50000 := by omega
          clear hcb hb2 hB2 hO2 hux k1 k2 k3' kc h1 h2 h3 h4 h5 hS HI p1 p2 p3 hc SN hpc hpl
          generalize hfl : (saidE pc).fields.length = fl at *
          simp only [List.foldl, List.setIfInBounds_toArray, List.set_cons_zero, List.set_cons_succ]
          go_wp2_with (at_builtin; refine wpList_append_at rfl _ _ 22 rfl (w.heap.size + 9) 64 i0 _ 3 40 Tryz.underlying22 hi hz0 hz1 hz2 rfl (by decide) _ _ _ rfl HR.out ⟨b9, 0, none⟩ 1 1 _ rfl rfl HV.out (by intro u hu; simp at hu; rcases hu with rfl | rfl | rfl <;> rfl) (by unfold maxLen; omega) (by omega) (by omega) ?_)
          intro ov' w3 own3 grow3 at3
          have hrow : ∀ r, (Value.slice ua acc.length uc).ownBlock = some r → w.heap.size + 9 ≤ r := fun r e => (HR.out.lt r e).1
          obtain ⟨k1, k2, k3', kc⟩ := K.out
          have j1 := k1.kept grow3 (fun e => by have := hrow _ e.symm; omega)
          have j2 := k2.kept grow3 (fun e => by have := hrow _ e.symm; omega)
          have j3 := k3'.kept grow3 (fun e => by have := hrow _ e.symm; omega)
          have jc : Cells w3 Bx 172 _ := (grow3.block Bx kc.lt (fun e => row_not HR.out kc (by decide) e.symm)).trans kc
          have hs3 := grow3.size
          have f2 := j2.cell
          have f2' := j2.frozen
          have OS := Lib.hid (HO2.out.snoc (ed := saidE pc) (by rw [hfl]; exact HUX.out) own3 grow3)
          have HG := Lib.hid grow3
          have HROW := Lib.hid hrow
          have J := Lib.hid (And.intro j1 (And.intro j2 (And.intro j3 jc)))
          obtain ⟨ova, ovc, rfl, _⟩ := own_slice own3
          clear own3 grow3 at3 hrow k1 k2 k3' kc j1 j2 j3 jc HO2 HUX HV
          go_wp2_with fail
          change Code.wpIn _ _ _ _ _ _ _
          obtain ⟨j1, j2, j3, jc⟩ := J.out
          obtain ⟨w4, hw4⟩ : ∃ w4, w4 = w3.setCell ⟨w.heap.size + 1, 0, none⟩ (.slice ova (acc.length + 1) ovc) := ⟨_, rfl⟩
          have q1 : Boxed w4 w.heap.size 9 (.string (B t)) := by rw [hw4]; exact j1.other (by omega) _
          have q2 : Boxed w4 (w.heap.size + 1) 22 (.slice ova (acc.length + 1) ovc) := by rw [hw4]; exact Boxed.set _ j2
          have q3 : Boxed w4 (w.heap.size + 1 + 1) 3 (.int .i64 (beg : Nat)) := by rw [hw4]; exact j3.other (by omega) _
          have qc : Cells w4 Bx 172 #[.int .i64 x.no, .int .i64 x.at_, .string ⟨x.text.toArray⟩, .bool x.ended] := by rw [hw4]; exact jc.other (p := ⟨w.heap.size + 1, 0, none⟩) (by show Bx ≠ w.heap.size + 1; omega) _
          have hs4 : w4.heap.size = w3.heap.size := by rw [hw4]; simp
          have st4 : Stay (w.heap.size + 4) 5 w' w4 := by
            rw [hw4]
            exact (((Stay.refl _ _ _).below HB2.out (by omega)).grown HG.out (by omega) (fun r e => .inr (by have := HROW.out r e; omega))).setCell (.inl (by show w.heap.size + 1 < _; omega)) _
          have own4 := (OS.out).set (p := ⟨w.heap.size + 1, 0, none⟩) (by show w.heap.size + 1 < _; omega) (.slice ova (acc.length + 1) ovc)
          rw [← hw4] at own4
          have B4 : Below w.heap.size w w4 := by
            rw [hw4]
            exact ((H5.out.trans (HB2.out.mono H5.out.size)).grown HG.out (by omega) (fun r e => by have := HROW.out r e; omega)).setCell (p := ⟨w.heap.size + 1, 0, none⟩) (by show w.heap.size ≤ w.heap.size + 1; omega) _
          rw [← hw4]
          have g1 : w4.cell? ⟨Bx, 1, none⟩ = some (.int .i64 x.at_) := qc.cell 1
          have g2 := q3.cell
          have g2' := q3.frozen
          have FIN : Hid (Stay (w.heap.size + 4) 5 w' (w4.setCell ⟨w.heap.size + 1 + 1, 0, none⟩ (.int .i64 x.at_)) ∧ InvR w t (readS t (pre ++ [x])) (w4.setCell ⟨w.heap.size + 1 + 1, 0, none⟩ (.int .i64 x.at_))) :=
            ⟨st4.setCell (.inl (by show w.heap.size + 1 + 1 < _; omega)) _, by
              rw [SN1.out]
              exact ⟨_, _, q1.other (by omega) _, q2.other (by omega) _, Boxed.set _ q3, own4.set (p := ⟨w.heap.size + 1 + 1, 0, none⟩) (by show w.heap.size + 1 + 1 < _; omega) _, B4.setCell (p := ⟨w.heap.size + 1 + 1, 0, none⟩) (by show w.heap.size ≤ w.heap.size + 1 + 1; omega) _⟩⟩
          clear own4 B4 st4 q1 q2 q3 qc j1 j2 j3 jc J OS HG HROW hw4
          gi_wp2_with fail
          exact FIN.out
    · refine wpIn_mono (Q := fun e a' w' => e = .normal ∧ w' = W ∧ ∃ y9 y10 y11 y12 y13 y14 y15 y16 y17, a' = { tmps := #[.string (B t), .pointer (some ⟨w.heap.size, 0, none⟩), .slice none 0 0, .pointer (some ⟨w.heap.size + 1, 0, none⟩), .pointer (some ⟨w.heap.size + 1 + 1, 0, none⟩), .pointer (some ⟨Bx, 0, none⟩), .string (B t), .func (.func 132) #[] #[.pointer (some ⟨w.heap.size + 1 + 1 + 1, 0, none⟩)], .agg #[.int .i64 x.no, .int .i64 x.at_, .string ⟨x.text.toArray⟩, .bool x.ended], y9, y10, y11, y12, y13, y14, y15, y16, y17, .bool false, undef, undef, undef, undef, undef, undef, undef, undef, undef, undef, undef, undef, undef, undef, undef, undef, undef, undef], defers := [] }) ?first ?rest
      case first =>
        clear HI SN h1 h2 h3 h4 h5
        by_cases hlt : beg < x.at_
        · have hp : Lib.hasPrefix x.text [32, 32] = true := by
            cases h : Lib.hasPrefix x.text [32, 32] with
            | true => rfl
            | false => exact absurd ⟨hlt, h⟩ hcd
          have q : ¬ (x.at_ : Int) ≤ (beg : Int) := by omega
          gi_wp2_with fail
          refine ⟨trivial, ((callsIn_wide.2 (Tryz.strings_HasPrefix ⟨x.text.toArray⟩ ⟨#[32, 32]⟩ W)).inRound l).mono ?_⟩
          rintro e V ⟨rfl, rfl⟩
          rw [show Lib.hasPrefix (⟨x.text.toArray⟩ : ByteArray).data.toList (⟨#[32, 32]⟩ : ByteArray).data.toList = Lib.hasPrefix x.text [32, 32] from rfl, hp]
          gi_wp2_with fail
          all_goals exact ⟨rfl, rfl, _, _, _, _, _, _, _, _, _, rfl⟩
        · have q : (x.at_ : Int) ≤ (beg : Int) := by omega
          gi_wp2_with fail
          refine ⟨trivial, ?_⟩
          gi_wp2_with fail
          all_goals exact ⟨rfl, rfl, _, _, _, _, _, _, _, _, _, rfl⟩
      case rest =>
        rintro e a' w' ⟨rfl, hw', y9, y10, y11, y12, y13, y14, y15, y16, y17, rfl⟩
        subst hw'
        change Code.wpIn _ _ _ _ _ _ _
        refine wpIn_cond_false rfl ?_
        gi_wp2
        refine ⟨Stay.refl _ _ _, ?_⟩
        show InvR w t (readS t (pre ++ [x])) w'
        rw [SN.out, show stepR t (acc, beg) x = (acc, beg) from if_neg hcd]
        exact HI.out
  case done =>
    rw [hz]
    rintro W ⟨u, fvs, h1, h2, h3, h4, h5⟩ hK
    rename_i Q' K hcont
    refine hcont _ _ ?_
    refine wpIn_seq ?_
    refine wpIn_wide.2 ?_
    refine wp_region_any (by kernel_rfl) ?_
    obtain ⟨st, hst⟩ : ∃ st, readS t xs = st := ⟨_, rfl⟩
    have e1 := readL_eq t
    have e2 := readS_end t
    rw [HXS.out, hst] at e1 e2
    rw [hst] at h3 h4
    obtain ⟨acc, beg⟩ := st
    dsimp only at h3 h4 e1 e2
    obtain ⟨ua, uc, rfl, _⟩ := own_slice h4.row
    have hkl : w.heap.size + 4 < W.heap.size := (Array.getElem?_eq_some_iff.1 hK).1
    have hS : ∀ V, Below W.drew.heap.size W.drew V → V.cell? ⟨w.heap.size + 1, 0, none⟩ = some (.slice ua acc.length uc) ∧ V.cell? ⟨w.heap.size, 0, none⟩ = some (.string (B t)) ∧ V.cell? ⟨w.heap.size + 1 + 1, 0, none⟩ = some (.int .i64 (beg : Nat)) ∧ True := fun V hV => by
      have hV' : Below W.heap.size W V := (Below.refl W.heap.size W).drew.trans hV
      exact ⟨(hV'.cell (p := ⟨w.heap.size + 1, 0, none⟩) (by show w.heap.size + 1 < _; omega)).trans h2.cell, (hV'.cell (p := ⟨w.heap.size, 0, none⟩) (by show w.heap.size < _; omega)).trans h1.cell, (hV'.cell (p := ⟨w.heap.size + 1 + 1, 0, none⟩) (by show w.heap.size + 1 + 1 < _; omega)).trans h3.cell, trivial⟩
    obtain ⟨pc, hpc⟩ : ∃ pc, pc = t.drop beg := ⟨_, rfl⟩
    have hpl : pc.length ≤ 60000 := by rw [hpc, List.length_drop]; omega
    rw [← hpc] at e1
    obtain ⟨i0, hi, hz0, hz1, hz2⟩ := info_parts infoEd9
    refine region_rd8 _ W.drew (w.heap.size + 1) w.heap.size (w.heap.size + 1 + 1) (w.heap.size + 5) (.slice ua acc.length uc) (B t) beg (SaidV (w.heap.size + 5) pc) _ rfl rfl rfl rfl hS (by show w.heap.size + 5 ≤ W.heap.size; omega) (by rw [B_size]; exact e2.1) ?pm ?pf ?pC ?pQ
    case pm =>
      rintro v x y hb ⟨u, e, h⟩
      exact ⟨u, e, row_below h hb (Nat.le_refl _)⟩
    case pf =>
      rintro v w ⟨u, rfl, h⟩
      obtain ⟨A, c, rfl, _⟩ := own_slice h
      exact ⟨_, _, _, _, _, rfl⟩
    case pC =>
      intro V hV
      have hV' : Below W.heap.size W V := (Below.refl W.heap.size W).drew.trans hV
      rw [ext_B, show (t.drop beg).take ((B t).size - beg) = pc by rw [hpc, B_size, List.take_of_length_le (by rw [List.length_drop]; omega)]]
      refine (asaid_any pc hpl V (HT.out.below (h5.trans (hV'.mono h5.size)) (Nat.le_refl _))).mono ?_
      rintro e w2 ⟨v, rfl, ⟨u, e, h⟩, hb⟩
      exact ⟨v, rfl, ⟨u, e, rowBase h (by have := hV'.size; omega)⟩, hb⟩
    case pQ =>
      intro y0 y1 y2 y3 y4 y5 w2 hb2 hy0 hy5
      subst hy0
      obtain ⟨b9, u9, cs9, rfl, ⟨ux, rfl, hux⟩, hlo9, hcs, hcb⟩ := hy5
      injection hcs with hcs
      subst hcs
      have hB2 : Below W.heap.size W w2 := (Below.refl W.heap.size W).drew.trans hb2
      have hO2 : OwnE (w.heap.size + 5) w2 (.slice ua acc.length uc) acc fvs := by
        have h := h4.below hB2 (Nat.le_refl _)
        exact ⟨rowBase h.row (by omega), h.len, fun i ed fv q1 q2 => rowBase (h.each i ed fv q1 q2) (by omega)⟩
      obtain ⟨xa, xc, rfl, _⟩ := own_slice hux
      have HV : Hid (∀ (i : Nat) (u : Value), [Value.int .i64 (saidE pc).kind, .int .i64 (saidE pc).id, .slice xa (saidE pc).fields.length xc][i]? = some u → w2.cell? ((⟨b9, 0, none⟩ : Addr).add i) = some u) := fun i u h => by
        have ea : (⟨b9, 0, none⟩ : Addr).add i = ⟨b9, i, none⟩ := by unfold Addr.add; split <;> simp_all
        rw [ea, hcb.cell i]; simpa using h
      have hK2 : w2.heap[w.heap.size + 4]? = some (Obj.deferred (some [])) := (hB2.block _ hkl).trans hK
      have hz2' := hB2.size
      have HR := Lib.hid hO2.row
      have HO2 := Lib.hid hO2
      have HUX := Lib.hid hux
      have HB2 := Lib.hid (h5.trans (hB2.mono h5.size))
      have hal : acc.length ≤ 50000 := by omega
      clear hcb hb2 hB2 hO2 hux h1 h2 h3 h4 h5 hS hpc hpl
      generalize hfl : (saidE pc).fields.length = fl at *
      simp only [List.foldl, List.setIfInBounds_toArray, List.set_cons_zero, List.set_cons_succ]
      go_wp2_with (at_builtin; refine wpList_append_at rfl _ _ 22 rfl (w.heap.size + 5) 64 i0 _ 3 40 Tryz.underlying22 hi hz0 hz1 hz2 rfl (by decide) _ _ _ rfl HR.out ⟨b9, 0, none⟩ 1 1 _ rfl rfl HV.out (by intro u hu; simp at hu; rcases hu with rfl | rfl | rfl <;> rfl) (by unfold maxLen; omega) (by omega) (by omega) ?_)
      intro ov' w3 own3 grow3 at3
      have hrow : ∀ r, (Value.slice ua acc.length uc).ownBlock = some r → w.heap.size + 5 ≤ r := fun r e => (HR.out.lt r e).1
      have hK3 : w3.heap[w.heap.size + 4]? = some (Obj.deferred (some [])) := (grow3.block _ (by omega) (fun e => by have := hrow _ e.symm; omega)).trans hK2
      have OS := HO2.out.snoc (ed := saidE pc) (by rw [hfl]; exact HUX.out) own3 grow3
      rw [← e1] at OS
      have B3 : Below w.heap.size w w3 := HB2.out.grown grow3 HB2.out.size (fun r e => by have := hrow r e; omega)
      have pb := grownBy_putObj' w3 (w.heap.size + 4) (.deferred none)
      have kb : Below w.heap.size w3 (w3.putObj (w.heap.size + 4) (.deferred none)) := belowK_b (w := w) (Nat.le_refl _) w3 _ _ _ (by omega) hK3 rfl rfl
      have FIN : Hid (OwnE w.heap.size (w3.putObj (w.heap.size + 4) (.deferred none)) ov' (readL t) (fvs ++ [.slice xa fl xc]) ∧ Below w.heap.size w (w3.putObj (w.heap.size + 4) (.deferred none))) :=
        ⟨⟨rowBase (row_same OS.row fun b e => pb.block b (OS.row.lt b e).2 (fun q => by have := (OS.row.lt b e).1; have := Option.some.inj q; omega)) (by omega), OS.len, fun i ed fv q1 q2 => rowBase (row_same (OS.each i ed fv q1 q2) fun b e => pb.block b ((OS.each i ed fv q1 q2).lt b e).2 (fun q => by have := ((OS.each i ed fv q1 q2).lt b e).1; have := Option.some.inj q; omega)) (by omega)⟩, B3.trans kb⟩
      have hK4 := Lib.hid hK3
      obtain ⟨ova, ovc, rfl, _⟩ := own_slice own3
      clear own3 grow3 at3 hrow HO2 HUX HV OS B3 pb kb hK3 hK2 hK
      go_wp2_with fail
      change Code.wpIn _ _ _ _ _ _ _
      gi_wp2
      refine ⟨by simp, .inl ⟨_, _, rfl, run_takeDeferred hK4.out, ?_⟩⟩
      exact ⟨_, results_tmp rfl _ _ _, .slice ova (acc.length + 1) ovc, _, rfl, FIN.out.1, FIN.out.2⟩
  case stop =>
    intro c pre W _ h _
    exact h.elim
end Go.Proofs.YtgaooalckjjplaaGreatDoor

namespace Go.Proofs.YtgaooalckjjplaaGreatDoor
open Go.RowKit Go.Shelf

/-- A field's lines stand behind an edit. -/
theorem flush_ls {s s' : StD} (h : flushD s = some s') : s'.2 = [] := by
  unfold flushD at h
  split at h
  · rename_i q; injection h with h; subst h; exact q
  · split at h
    · injection h with h; subst h; rfl
    · cases h
theorem line_ne {s s' : StD} {x : List UInt8} (h : s.2 ≠ [] → s.1 ≠ []) (hf : lineD s x = some s') : s'.2 ≠ [] → s'.1 ≠ [] := by
  unfold lineD at hf
  split at hf
  · split at hf
    · cases hf
    · rename_i q
      injection hf with hf
      subst hf
      exact fun _ => q
  · split at hf
    · cases hf
    · injection hf with hf
      subst hf
      intro _
      simp
theorem step_ne {s s' : StD} {x : List UInt8} (h : s.2 ≠ [] → s.1 ≠ []) (hf : stepD s x = some s') : s'.2 ≠ [] → s'.1 ≠ [] := by
  unfold stepD at hf
  split at hf
  · exact line_ne h hf
  · cases hs : flushD s with
    | none => rw [hs] at hf; cases hf
    | some s1 =>
      rw [hs] at hf
      exact line_ne (fun q => absurd (flush_ls hs) q) hf
theorem run_ne : ∀ (xs : List (List UInt8)) {s s' : StD}, (s.2 ≠ [] → s.1 ≠ []) → runD xs s = some s' → s'.2 ≠ [] → s'.1 ≠ []
  | [], s, s', h, hr => by
    injection hr with hr
    subst hr
    exact h
  | x :: r, s, s', h, hr => by
    rw [runD] at hr
    cases hs : stepD s x with
    | none => rw [hs] at hr; cases hr
    | some s1 =>
      rw [hs] at hr
      exact run_ne r (step_ne h hs) hr
theorem edRow_turn : ∀ (p : List Ed) (e e' : Ed) (F : List Value), e.kind = e'.kind → e.id = e'.id → edRow (p ++ [e]) F = edRow (p ++ [e']) F
  | [], e, e', F, h1, h2 => by
    cases F with
    | nil => rfl
    | cons f r =>
      show (Value.int .i64 e.kind :: .int .i64 e.id :: f :: edRow [] r) = (Value.int .i64 e'.kind :: .int .i64 e'.id :: f :: edRow [] r)
      rw [h1, h2]
  | x :: p, e, e', F, h1, h2 => by
    cases F with
    | nil => rfl
    | cons f r =>
      show (_ :: _ :: _ :: edRow (p ++ [e]) r) = (_ :: _ :: _ :: edRow (p ++ [e']) r)
      rw [edRow_turn p e e' r h1 h2]
theorem cellsF_snoc' (fs : List Fld) (f : Fld) : cellsF (fs ++ [f]) = cellsF fs ++ [.string (B f.1), .string (B f.2)] := by unfold cellsF; simp
/-- One field more behind the last edit's. -/
theorem own_field {lo : Nat} {W w2 : World} {og oc g c : Nat} {p : List Ed} {e : Ed} {fvs : List Value} {f : Fld} (h : OwnE lo W (.slice (some ⟨og, 0, none⟩) (p.length + 1) oc) (p ++ [e]) fvs) (hb : Below W.heap.size W w2) (hlo : lo ≤ W.heap.size)
    (hr : w2.ownsRow W.heap.size 66 2 (.slice (some ⟨g, 0, none⟩) (e.fields.length + 1) c) (e.fields.length + 1) (cellsF e.fields ++ [.string (B f.1), .string (B f.2)])) :
    OwnE lo (w2.setCell ⟨og, p.length * 3 + 2, none⟩ (.slice (some ⟨g, 0, none⟩) (e.fields.length + 1) c)) (.slice (some ⟨og, 0, none⟩) (p.length + 1) oc) (p ++ [⟨e.kind, e.id, e.fields ++ [f]⟩]) (fvs.set p.length (.slice (some ⟨g, 0, none⟩) (e.fields.length + 1) c)) := by
  have hl0 := h.len
  rw [List.length_append, List.length_singleton] at hl0
  have hrow := row_below h.row hb (Nat.le_refl _)
  rw [List.length_append, List.length_singleton] at hrow
  refine ⟨?_, by rw [List.length_set, List.length_append, List.length_singleton]; exact hl0, fun i ed fv h1 h2 => ?_⟩
  · rw [List.length_append, List.length_singleton, ← edRow_turn p e ⟨e.kind, e.id, e.fields ++ [f]⟩ _ rfl rfl, ← edRow_set (p ++ [e]) fvs p.length _ h.len]
    exact row_put hrow _
  · have h1' := h1
    rcases Nat.lt_or_ge i p.length with q | q
    · rw [List.getElem?_append_left q] at h1
      rw [List.getElem?_set_ne (by omega)] at h2
      have hx := row_below (h.each i ed fv (by rw [List.getElem?_append_left q]; exact h1) h2) hb (Nat.le_refl _)
      exact row_cell hx (fun z => own_own_ne hrow hx (by decide) og rfl z) _
    · have hi : i = p.length := by
        have := (List.getElem?_eq_some_iff.1 h1').1
        rw [List.length_append, List.length_singleton] at this
        omega
      subst hi
      rw [List.getElem?_append_right (Nat.le_refl _), Nat.sub_self] at h1
      cases h1
      rw [List.getElem?_set_self (by omega)] at h2
      cases h2
      have hr' := rowBase hr hlo
      show World.ownsRow _ lo _ 2 _ (e.fields ++ [f]).length (cellsF (e.fields ++ [f]))
      rw [cellsF_snoc', List.length_append, List.length_singleton]
      exact row_cell hr' (fun z => own_own_ne hrow hr' (by decide) og rfl z) _
/-- A line's text, in its cell. -/
theorem line_cell {l : List UInt8} {k : Nat} {x : List UInt8} (h : (linesT l)[k]? = some x) : (cellsOf (linesOf l))[k * 4 + 2]? = some (.string (B x)) := by
  unfold linesT at h
  rw [List.getElem?_map] at h
  cases hy : (linesOf l)[k]? with
  | none => rw [hy] at h; cases h
  | some y =>
    rw [hy] at h
    cases h
    obtain ⟨hk, hyy⟩ := List.getElem?_eq_some_iff.1 hy
    have e : linesOf l = (linesOf l).take k ++ y :: (linesOf l).drop (k + 1) := by
      rw [← hyy]; simp
    have hkl : ((linesOf l).take k).length = k := by rw [List.length_take]; omega
    have := cellsOf_at ((linesOf l).take k) y ((linesOf l).drop (k + 1)) 2 (by decide)
    rw [← e, hkl] at this
    rw [this]
    rfl
end Go.Proofs.YtgaooalckjjplaaGreatDoor

namespace Go.Proofs.YtgaooalckjjplaaGreatDoor
open Go.RowKit Go.Shelf
attribute [local go_sem] Oper.semAt_some

theorem unfold_fine (t : List UInt8) : Fine8 (unfoldF t) ∧ ∀ f ∈ unfoldF t, f.1.length ≤ 32 ∧ f.2.length ≤ 1000 := by
  unfold unfoldF
  cases h : parseL (dd [32, 32] ((linesOf t).map sees)).1 with
  | error e => exact ⟨⟨by simp, fun f hf => by cases hf⟩, fun f hf => by cases hf⟩
  | ok its =>
    obtain ⟨_, hil, hif⟩ := parse_join h
    have hcnt := parse_cnt h
    rw [← recs_cnt] at hcnt
    have hrl := lenS_le (recs its) 40 (fun r hr => by
      unfold recs at hr
      obtain ⟨it, h1, rfl⟩ := List.mem_map.1 hr
      exact (hif it (List.mem_filter.1 h1).1).1)
    have each : ∀ f ∈ (recs its).flatten, f.1.length ≤ 32 ∧ f.2.length ≤ 1000 := fun f hf => by
      obtain ⟨r, hr, hfr⟩ := List.mem_flatten.1 hf
      unfold recs at hr
      obtain ⟨it, h1, rfl⟩ := List.mem_map.1 hr
      obtain ⟨h2, h3⟩ := List.mem_filter.1 h1
      obtain ⟨_, _, h4⟩ := chkN_zero (parse_gk h it h2 (by simpa using h3))
      obtain ⟨h5, h6⟩ := foldN_good _ h4 f hfr
      exact ⟨goodKey_len h5, h6⟩
    refine ⟨⟨?_, fun f hf => ?_⟩, each⟩
    · show ((recs its).flatten).length ≤ _
      rw [flatten_len]; omega
    · have := each f hf; omega
theorem read_fines (t : List UInt8) : Fines8 (readL t) := by
  intro ed hed
  obtain ⟨p, _, rfl⟩ := List.mem_map.1 hed
  exact (unfold_fine _).1
theorem read_len (t : List UInt8) : (readL t).length ≤ t.length + 1 := by
  rw [readL_eq, List.length_append]
  have := (readS_end t).2
  simp only [List.length_cons, List.length_nil]; omega
/-- What Decode comes to. -/
def DecR (w w' : World) (t : List UInt8) (e : Ending) : Prop :=
  Below w.heap.size w w' ∧ ((decL t = none ∧ e = .returned (.tuple #[.slice none 0 0, .iface 54 (.int .i64 2)])) ∨ ∃ eds u fvs, decL t = some eds ∧ e = .returned (.tuple #[u, .nilIface]) ∧ OwnE w.heap.size w' u eds fvs)
set_option maxRecDepth 100000 in
set_option maxHeartbeats 4000000 in
theorem decode_any (t : List UInt8) (ht : t.length ≤ maxLen) (w : World) (hT : Tabs w) :
    Calls Tryz.prog 19 #[.string (B t)] w fun e w' => DecR w w' t e := by
  have bs := B_size t
  by_cases hl : ¬ t.length ≤ 50000
  · have NO : Hid (DecR w w t (.returned (.tuple #[.slice none 0 0, .iface 54 (.int .i64 2)]))) := ⟨Below.refl _ _, .inl ⟨by unfold decL; rw [if_neg (fun h => hl h.1)], rfl⟩⟩
    have q : ¬ ((B t).size : Int) ≤ 50000 := by omega
    generalize B t = s at *
    go_enter Tryz.func19, Tryz.ntmps19
    go_wp2_with fail
    go_ret2
    exact NO.out
  replace hl := Classical.not_not.1 hl
  have RD := Lib.hid (read_any t hl w hT)
  have q : ((B t).size : Int) ≤ 50000 := by omega
  have hrl := read_len t
  have RF := Lib.hid (read_fines t)
  have RI := Lib.hid (read_I64 t)
  have HT := Lib.hid hT
  have YES : Hid (∀ W u fvs, OwnE w.heap.size W u (readL t) fvs → Below w.heap.size w W → (chkB (readL t)).2 = 0 → batchT (readL t) = t → DecR w W t (.returned (.tuple #[u, .nilIface]))) := fun W u fvs ho hb h1 h2 =>
    ⟨hb, .inr ⟨readL t, u, fvs, by unfold decL; rw [if_pos ⟨hl, h1, h2⟩], rfl, ho⟩⟩
  have NO : Hid (∀ W, Below w.heap.size w W → ¬ ((chkB (readL t)).2 = 0 ∧ batchT (readL t) = t) → DecR w W t (.returned (.tuple #[.slice none 0 0, .iface 54 (.int .i64 2)]))) := fun W hb h =>
    ⟨hb, .inl ⟨by unfold decL; rw [if_neg (fun h2 => h h2.2)], rfl⟩⟩
  clear hT ht bs
  generalize readL t = eds at *
  go_enter Tryz.func19, Tryz.ntmps19
  go_wp2_with fail
  refine RD.out.mono ?_
  rintro e w1 ⟨u, fvs, rfl, ho, b1⟩
  have EN := Lib.hid (encode_any eds u w1 ho.edv (by omega) RF.out RI.out (HT.out.below b1 (Nat.le_refl _)))
  have HO := Lib.hid ho
  have B1 := Lib.hid b1
  obtain ⟨ua, uc, rfl, _⟩ := own_slice ho.row
  clear RD ho b1
  go_wp2_with fail
  refine EN.out.mono ?_
  rintro e w2 ⟨b2, ⟨h0, rfl⟩ | ⟨h0, u', rfl, hz⟩⟩
  · have B2 := Lib.hid (B1.out.trans (b2.mono B1.out.size))
    have Z0 := Lib.hid h0
    have E2 := bsameA (batchT eds) t
    by_cases hq : batchT eds = t
    · have E3 : ((B (batchT eds)).toList == (B t).toList) = true := by rw [E2]; exact decide_eq_true hq
      have Y := Lib.hid (YES.out w2 _ fvs (HO.out.below b2 (Nat.le_refl _)) B2.out Z0.out hq)
      clear EN YES NO b2 h0 HO E2 hq
      generalize B (batchT eds) = own at *
      go_wp2_with fail
      go_ret2
      exact Y.out
    · have E3 : ((B (batchT eds)).toList == (B t).toList) = false := by rw [E2]; exact decide_eq_false hq
      have E4 : ¬ (B (batchT eds)).toList = (B t).toList := by simpa using E3
      have Y := Lib.hid (NO.out w2 B2.out (fun h => hq h.2))
      clear EN YES NO b2 h0 HO E2 hq
      generalize B (batchT eds) = own at *
      go_wp2_with fail
      go_ret2
      exact Y.out
  · have B2 := Lib.hid (B1.out.trans (b2.mono B1.out.size))
    have Y := Lib.hid (NO.out w2 B2.out (fun h => h0 h.1))
    obtain ⟨_, ⟨rfl, hx⟩ | ⟨kk, ⟨q, _, rfl, _⟩, _, _⟩⟩ := hz
    · have hpos : 0 < (chkB eds).2 := Nat.pos_of_ne_zero h0
      rw [errV_pos _ hpos]
      clear EN YES NO b2 h0 HO hx hpos
      generalize ((chkB eds).2 : Int) = zz at *
      go_wp2_with fail
      go_ret2
      exact Y.out
    · clear EN YES NO b2 h0 HO
      go_wp2_with fail
      go_ret2
      exact Y.out
end Go.Proofs.YtgaooalckjjplaaGreatDoor

