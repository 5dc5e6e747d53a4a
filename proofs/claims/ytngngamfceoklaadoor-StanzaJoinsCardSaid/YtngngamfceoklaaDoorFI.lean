/- What lines of a field say. -/
import Derived.Test.YtngngamfceoklaaDoorFH
namespace Go.Proofs.YtngngamfceoklaaDoor
open Go.RowKit Go.Shelf

theorem results_cell1 {fn : Func} {p : Tmp} {ty : TypeId} (h : fn.results = #[.cell p ty]) (tmps : Array Value) (P : Program) (w : World) :
    (results fn tmps).run P w = ((asAddr (tmps.getD p undef)).run P w).andThen fun a w₁ => (loadVar ty a).run P w₁ := by
  simp only [results, h]
  simp [Sem.run_bind, Result.andThen]
set_option maxRecDepth 100000 in
theorem ret_f1 {fn : Func} {p : Tmp} (h : fn.results = #[.cell p 73]) (tmps : Array Value) (w : World) (b : Nat) (cur : Array Value) (hp : tmps.getD p undef = .pointer (some ⟨b, 0, none⟩))
    (hc : Cells w b 73 cur) (hz : cur.size = 2) : (results fn tmps).run Tryd.prog w = .ok (.agg cur) w := by
  have L := run_loadVar_row (P := Tryd.prog) w b 73 73 cur (0, 0) _ hc Tryd.underlying73 rfl (by rw [hz]; kernel_rfl)
  rw [results_cell1 h, hp]
  show (loadVar _ _).run _ _ = _
  exact L
set_option maxRecDepth 100000 in
theorem ret_f2 {fn : Func} {p u : Tmp} (h : fn.results = #[.cell p 73, .tmp u]) (tmps : Array Value) (w : World) (b : Nat) (cur : Array Value) (hp : tmps.getD p undef = .pointer (some ⟨b, 0, none⟩))
    (hc : Cells w b 73 cur) (hz : cur.size = 2) : (results fn tmps).run Tryd.prog w = .ok (.tuple #[.agg cur, tmps.getD u undef]) w := by
  have L := run_loadVar_row (P := Tryd.prog) w b 73 73 cur (0, 0) _ hc Tryd.underlying73 rfl (by rw [hz]; kernel_rfl)
  rw [results_cell_tmp h, hp]
  show ((loadVar _ _).run _ _).andThen _ = _
  rw [L]; rfl
theorem cells_kept {w w' : World} {b N : Nat} {t : TypeId} {cur : Array Value} (h : Cells w b t cur) (hb : Below N w w') (hN : b < N) : Cells w' b t cur := (hb.block b hN).trans h
theorem set2 (c0 c1 v0 v1 : Value) : ((#[c0, c1].setIfInBounds 0 v0).setIfInBounds 1 v1) = #[v0, v1] := by
  simp [List.setIfInBounds_toArray, List.set]

set_option maxRecDepth 100000 in
set_option maxHeartbeats 2000000 in
theorem said_any (a : List UInt8) (r : List (List UInt8)) (v : Value) (w : World) (hs : Strs w v ((a :: r).map B)) (ha : a.length ≤ 100000) (hr : ∀ l ∈ r, l.length ≤ 100000 ∧ kindL l = 3) (hka : kindL a = 4) (hn : r.length ≤ 100000)
    (hj : (saidV (a :: r)).length ≤ 100000000) :
    Calls Tryd.prog 65 #[v] w fun e w' => e = .returned (fieldV (before a) (saidV (a :: r))) ∧ Below w.heap.size w w' := by
  obtain ⟨A, cap, rfl, hle, hc⟩ := hs
  have hcb := cellB hc
  obtain ⟨b, off, rfl, hbb, hca⟩ := hcb 0 a rfl
  have PC := Lib.hid (fun (j : Nat) x (hx : r[j]? = some x) => (show w.cell? ⟨b, off + (j + 1), none⟩ = some (.string (B x)) by
    obtain ⟨b', off', e, _, h⟩ := hcb (j + 1) x (by simpa using hx)
    cases e; exact h))
  clear hc hcb
  rw [List.length_map, List.length_cons] at hle ⊢
  have CP := fun w => cut_pair (B a) (by rw [B_size]; unfold maxLen; omega) (by rw [B_data]; exact hka) w
  rw [pre_B, post_B] at CP
  have TS := fun w => trim_sp (afterC a) w
  have HS : Hid (saidP (a :: r) = dropSp (afterC a) :: r.map (fun l => dropDot l.tail)) := rfl
  have HJ : Hid (Lib.join (((dropSp (afterC a) :: r.map (fun l => dropDot l.tail)).map B).map (·.data.toList)) [10] = saidV (a :: r)) := by
    show _ = _
    unfold saidV
    rw [← joinNl_eq, HS.out, List.map_map]
    congr 1
    conv => rhs; rw [← List.map_id (dropSp (afterC a) :: r.map (fun l => dropDot l.tail))]
    exact List.map_congr_left fun l _ => B_data l
  generalize dropSp (afterC a) = p0 at *
  generalize afterC a = ac at *
  obtain ⟨i0, hi, hz0, hz1, hz2⟩ := info_parts infoStr
  rw [Nat.add_zero] at hca
  go_enter Tryd.func65, Tryd.ntmps65
  go_wp2_with fail
  refine (CP _).mono ?_
  rintro e w1 ⟨rfl, b1⟩
  go_wp2_with fail
  refine (TS _).mono ?_
  rintro e w2 ⟨rfl, rfl⟩
  have RB : Cells w1 w.heap.size 73 #[.string ⟨#[]⟩, .string ⟨#[]⟩] := cells_kept (Cells.new w _ _) b1 (by simp)
  have hb1 : Below w.heap.size w w1 := ((Below.refl _ _).alloc (Nat.le_refl _) _).trans (b1.mono (by simp))
  have PC1 := Lib.hid (fun (j : Nat) x (hx : r[j]? = some x) => (hb1.cell (p := ⟨b, off + (j + 1), none⟩) hbb).trans (PC.out j x hx))
  have hs1 := b1.size
  simp only [World.size_alloc] at hs1
  have hb1lt : b < w1.heap.size := by omega
  have BW := Lib.hid hb1
  clear b1 PC hca hb1 CP TS
  have hw1 := BW.out.size
  go_wp2_with fail
  all_goals
    go_loopw [6, 23] (fun v6 i wr => ∃ (k : Nat), k ≤ r.length ∧ i = .int .i64 k ∧ OwnS wr w1.heap.size v6 ((p0 :: (r.take k).map (fun l => dropDot l.tail)).map B) ∧ Below w1.heap.size w1 wr) (fun _ i _ => r.length - (intOf i).toNat)
    case atStart => exact ⟨0, Nat.zero_le _, rfl, OwnS.one w1 _ (Nat.le_refl _) _, (Below.refl _ _).alloc (Nat.le_refl _) _⟩
    case round =>
      obtain ⟨k, hkr, rfl, hown, hb⟩ := hrel
      by_cases hkl : k < r.length
      · first
        | (exfalso; omega)
        | (obtain ⟨x, hx⟩ : ∃ x, r[k]? = some x := ⟨_, List.getElem?_eq_getElem hkl⟩
           have hcx := PC1.out k x hx
           have hcx2 := (hb.cell (p := ⟨b, off + (k + 1), none⟩) hb1lt).trans hcx
           rw [show off + (k + 1) = off + 1 + k by omega] at hcx2
           obtain ⟨hxl, hx3⟩ := hr x (List.mem_of_getElem? hx)
           obtain ⟨c, d, t, rfl⟩ := kind3 hx3
           have TK : Hid ((p0 :: (r.take (k + 1)).map (fun l => dropDot l.tail)).map B = (p0 :: (r.take k).map (fun l => dropDot l.tail)).map B ++ [B (dropDot (d :: t))]) := by
             show _ = _
             rw [List.take_add_one, hx]; simp
           have TD := fun w => trim_dot (d :: t) w
           have hll : ((p0 :: (r.take k).map (fun l => dropDot l.tail)).map B).length = k + 1 := by simp; omega
           have HLL := Lib.hid hll
           have hsz : (B (c :: d :: t)).size = t.length + 2 := by rw [B_size]; rfl
           have hex := tail_B c (d :: t)
           rw [hsz] at hex
           clear hx hcx hx3
           generalize (p0 :: (r.take k).map (fun l => dropDot l.tail)).map B = ls at *
           generalize dropDot (d :: t) = y at *
           generalize B (c :: d :: t) = X at *
           generalize B (d :: t) = Y at *
           go_wp2_with fail
           refine (TD _).mono ?_
           rintro e w4 ⟨rfl, rfl⟩
           have hs3 := hb.size
           have HC := Lib.hid (strCell wr (B y) 9)
           have hown4 : wr.ownsRow w1.heap.size 9 1 u6 ls.length (ls.map Value.string) := hown
           clear hown
           go_wp2_with (at_builtin; refine wpList_append_own _ rfl _ _ 53 rfl w1.heap.size 9 i0 _ 1 16 Tryd.underlying53 hi hz0 hz1 hz2 rfl (by decide) _ _ _ rfl (hown4.alloc _) ⟨wr.heap.size, 0, none⟩ 1 1 _ rfl rfl HC.out ?c2 ?c3 ?c4 ?c5 ?_)
           case c2 => intro u hu; simp at hu; subst hu; rfl
           case c3 => unfold maxLen; omega
           case c4 => omega
           case c5 => simp; omega
           intro v' w5 hown' hgrow _
           obtain ⟨g', cap', rfl⟩ := ownsRow_succ hown'
           have hb5 : Below w1.heap.size w1 w5 := (hb.alloc (by omega) _).grown hgrow (by simp; omega) (fun j ej => (hown4.lt j ej).1)
           go_wp2_with fail
           go_roundw
           case rel =>
             refine ⟨k + 1, hkl, by go_num, ?_, hb5⟩
             rw [TK.out]
             unfold OwnS
             rw [List.length_append, List.map_append, HLL.out]; exact hown'
           case measure => simp [intOf]; omega)
      · obtain rfl : k = r.length := by omega
        rw [List.take_length] at hown
        obtain ⟨g, cap', e⟩ := Joins.ownsRow_form hown (by simp)
        subst e
        have hst := hown.strs
        obtain ⟨A', cap2, e, hle2, hc2⟩ := hst
        cases e
        have RBr := cells_kept RB hb (by omega)
        have JN := Tryd.strings_Join g 0 cap' _ ⟨#[10]⟩ wr (fun j x hx => by obtain ⟨b', o', e, _, h⟩ := hc2 j x hx; cases e; exact h) (by obtain ⟨b', o', e, h, _⟩ := hc2 0 _ rfl; cases e; exact h) (by simp; omega) hle2 (by show (Lib.join _ [10]).length ≤ _; rw [HJ.out]; omega)
        rw [show (⟨#[10]⟩ : ByteArray).data.toList = [10] from rfl, HJ.out] at JN
        simp only [List.length_map, List.length_cons] at JN ⊢
        have hbw := hb.size
        have hbA := BW.out.trans (hb.mono hw1)
        clear hown hc2 hle2 HJ
        go_wp2_with fail
        refine JN.mono ?_
        rintro e w5 ⟨rfl, b5⟩
        have R5 := cells_kept RBr b5 (by omega)
        have c0 := R5.cell 0
        have c1 := R5.cell 1
        have f0 := R5.frozen 0
        have f1 := R5.frozen 1
        have hb5 := hbA.trans (b5.mono (by omega))
        simp only [List.getElem?_toArray, List.getElem?_cons_zero, List.getElem?_cons_succ] at c0 c1
        rw [mkB]
        have RE := (R5.set 0 (.string (B (before a)))).set 1 (.string (B (saidV (a :: r))))
        rw [set2] at RE
        go_wp2_with fail
        refine bodyPost_ret (ret_f1 rfl _ _ w.heap.size _ rfl RE rfl) rfl ?_
        exact ⟨rfl, (hb5.setCell (Nat.le_refl _) _).setCell (Nat.le_refl _) _⟩
end Go.Proofs.YtngngamfceoklaaDoor
