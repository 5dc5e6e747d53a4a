/- Texts put together: EV, AK, AL, SC. -/
import Derived.Deep.RegionLaw
import Derived.Test.YtbkeoiefolkjfaaGreatDoorBxa8
import Derived.Test.YtbkeoiefolkjfaaGreatDoorBxa14
import Derived.Test.YtbkeoiefolkjfaaGreatDoorBxa15
import Derived.Test.YtbkeoiefolkjfaaGreatDoorBxa18
import Derived.Test.YtbkeoiefolkjfaaGreatDoorBxa19
set_option linter.unusedVariables false
set_option maxRecDepth 100000
set_option maxHeartbeats 16000000
namespace Go.Proofs.YtbkeoiefolkjfaaGreatDoor
open Go.RowKit Go.Shelf
attribute [local go_sem] Oper.semAt_some
def edRow : List Ed -> List Value -> List Value
 | ed :: r, fv :: q => .int .i64 ed.kind :: .int .i64 ed.id :: fv :: edRow r q
 | _, _ => []
theorem edRow_snoc : ∀ (l : List Ed) (vs : List Value) (ed : Ed) (v : Value), vs.length = l.length -> edRow (l ++ [ed]) (vs ++ [v]) = edRow l vs ++ [.int .i64 ed.kind, .int .i64 ed.id, v]
 | [], [], ed, v, _ => rfl
 | a :: l, b :: vs, ed, v, h => by
  show _ :: _ :: _ :: edRow (l ++ [ed]) (vs ++ [v]) = _
  rw [edRow_snoc l vs ed v (by simpa using h)]; rfl
 | [], _ :: _, _, _, h => by simp at h
 | _ :: _, [], _, _, h => by simp at h
theorem edRow_at : ∀ (l : List Ed) (vs : List Value) (i : Nat) (ed : Ed) (v : Value), l[i]? = some ed -> vs[i]? = some v -> (edRow l vs)[i * 3]? = some (.int .i64 ed.kind) /\ (edRow l vs)[i * 3 + 1]? = some (.int .i64 ed.id) /\ (edRow l vs)[i * 3 + 1 + 1]? = some v
 | [], _, i, _, _, h, _ => by simp at h
 | _ :: _, [], i, _, _, _, h => by simp at h
 | a :: l, b :: vs, 0, ed, v, h1, h2 => by simp at h1 h2; subst h1 h2; exact ⟨rfl, rfl, rfl⟩
 | a :: l, b :: vs, i + 1, ed, v, h1, h2 => by
  obtain ⟨x, y, z⟩ := edRow_at l vs i ed v (by simpa using h1) (by simpa using h2)
  rw [show (i + 1) * 3 = i * 3 + 3 by omega]
  exact ⟨x, y, z⟩
structure OwnE (lo : Nat) (w : World) (v : Value) (eds : List Ed) (fvs : List Value) : Prop where
 row : w.ownsRow lo 40 3 v eds.length (edRow eds fvs)
 len : fvs.length = eds.length
 each : ∀ (i : Nat) ed fv, eds[i]? = some ed -> fvs[i]? = some fv -> w.ownsRow lo 83 2 fv ed.fields.length (cellsF ed.fields)
theorem OwnE.below {lo : Nat} {w w' : World} {v : Value} {eds : List Ed} {fvs : List Value} {N : Nat} (h : OwnE lo w v eds fvs) (hb : Below N w w') (hN : w.heap.size <= N) : OwnE lo w' v eds fvs :=
 ⟨row_below h.row hb hN, h.len, fun i ed fv h1 h2 => row_below (h.each i ed fv h1 h2) hb hN⟩
theorem OwnE.edv {lo : Nat} {w : World} {v : Value} {eds : List Ed} {fvs : List Value} (h : OwnE lo w v eds fvs) : EdV w v eds := by
 by_cases h0 : eds = []
 ·subst h0
  obtain ⟨A, c, rfl, hle⟩ := own_slice h.row
  exact ⟨A, c, rfl, hle, fun i ed hi => by simp at hi⟩
 have hn : eds.length ≠ 0 := fun e => h0 (List.length_eq_zero_iff.1 e)
 have hrow := h.row
 obtain ⟨g, cap, hug⟩ := Joins.ownsRow_form hrow (by omega)
 have hle : eds.length <= cap := by
  obtain ⟨A, c, e, hle⟩ := own_slice h.row
  rw [hug] at e; cases e; exact hle
 rw [hug] at hrow
 refine ⟨_, cap, hug, hle, fun i ed hi => ?_⟩
 have hil := (List.getElem?_eq_some_iff.1 hi).1
 obtain ⟨fv, hfv⟩ : ∃ fv, fvs[i]? = some fv := ⟨_, List.getElem?_eq_getElem (by rw [h.len]; exact hil)⟩
 obtain ⟨a0, a1, a2⟩ := edRow_at eds fvs i ed fv hi hfv
 refine ⟨g, 0, fv, rfl, (hrow.lt g rfl).2, ?_, ?_, ?_, FldR.own (h.each i ed fv hi hfv)⟩
 ·rw [Nat.zero_add, World.ownsRow.cellAt hrow (i * 3) (by omega), a0]
 ·rw [Nat.zero_add, World.ownsRow.cellAt hrow (i * 3 + 1) (by omega), a1]
 rw [Nat.zero_add, World.ownsRow.cellAt hrow (i * 3 + 1 + 1) (by omega), a2]
theorem infoEd9 : (Tryz.prog.info? 40).map (fun i => (i.zero, i.size, i.bytes)) = some (some (.agg #[.int .i64 0, .int .i64 0, .slice none 0 0]), 3, 40) := by kernel_rfl
theorem own_any (eds : List Ed) (v : Value) (w : World) (h : EdV w v eds) (hl : eds.length <= 51) (hf : Fines eds) :
  Calls Tryz.prog 20 #[v] w fun e w' => ∃ v' fvs, e = .returned v' /\ OwnE w.heap.size w' v' eds fvs /\ Below w.heap.size w w' := by
 obtain ⟨i0, hi, hz0, hz1, hz2⟩ := info_parts infoEd9
 obtain ⟨A, cap, rfl, hle, hc⟩ := h
 have PC := Lib.hid hc
 have HF := Lib.hid hf
 clear hc hf
 have hoN : Hid ((w.alloc (.cells #[] 40)).ownsRow w.heap.size 40 3 (.slice (some ⟨w.heap.size, 0, none⟩) 0 0) 0 []) := World.ownsRow_lit w #[] 0 (Nat.le_refl _) (by decide) rfl
 have hba := Lib.hid ((Below.refl w.heap.size w).alloc (Nat.le_refl _) (.cells #[] 40))
 go_enter Tryz.func20, Tryz.ntmps20
 go_wp2_with fail
 go_loopw [3, 9] (fun ox i wr => ∃ (k : Nat) (ov : Value) (fvs : List Value), ov = ox /\ k <= eds.length /\ i = .int .i64 k /\ OwnE w.heap.size wr ov (eds.take k) fvs /\ Below w.heap.size w wr) (fun _ i _ => eds.length - (intOf i).toNat)
 case atStart => exact ⟨0, _, [], rfl, Nat.zero_le _, rfl, ⟨hoN.out, rfl, fun i ed fv h1 _ => by simp at h1⟩, hba.out⟩
 case round =>
 obtain ⟨k, ov, fvs, rfl, hk, rfl, hO, hB⟩ := hrel
 by_cases hlt : k < eds.length
 ·obtain ⟨ed, hed⟩ : ∃ ed, eds[k]? = some ed := ⟨_, List.getElem?_eq_getElem hlt⟩
  obtain ⟨b, off, fv, rfl, hbb, c0, c1, c2, hfl⟩ := PC.out k ed hed
  obtain ⟨fa, fc, rfl⟩ := hfl.form
  replace c0 := (hB.cell (p := ⟨b, off + k * 3, none⟩) hbb).trans c0
  replace c1 := (hB.cell (p := ⟨b, off + k * 3 + 1, none⟩) hbb).trans c1
  replace c2 := (hB.cell (p := ⟨b, off + k * 3 + 1 + 1, none⟩) hbb).trans c2
  obtain ⟨wa, hwa⟩ : ∃ wa, wa = wr.alloc (.cells #[.int .i64 ed.kind, .int .i64 ed.id, .slice fa ed.fields.length fc] 40) := ⟨_, rfl⟩
  have hb9 : Below wr.heap.size wr wa := by rw [hwa]; exact (Below.refl _ wr).alloc (Nat.le_refl _) _
  have hza : wa.heap.size = wr.heap.size + 1 := by rw [hwa]; simp
  have cE : Cells wa wr.heap.size 40 #[.int .i64 ed.kind, .int .i64 ed.id, .slice fa ed.fields.length fc] := by rw [hwa]; exact Cells.new _ _ _
  have hBa : Below w.heap.size w wa := hB.trans (hb9.mono hB.size)
  have hlen : (eds.take k).length = k := take_len hed
  obtain ⟨oa, oc, rfl⟩ : ∃ A c, ov = .slice A k c := by
   obtain ⟨A, c, e, _⟩ := own_slice hO.row
   rw [hlen] at e
   exact ⟨A, c, e⟩
  have HE9 : Hid (∀ W', Below wa.drew.heap.size wa.drew W' -> W'.cell? ⟨wr.heap.size, 0, none⟩ = some (.int .i64 ed.kind) /\ W'.cell? ⟨wr.heap.size, 1, none⟩ = some (.int .i64 ed.id) /\ W'.cell? ⟨wr.heap.size, 2, none⟩ = some (.slice fa ed.fields.length fc)) := fun W' hW' => by
   have := cells_kept cE.drew hW' (by show wr.heap.size < wa.heap.size; omega)
   exact ⟨by rw [this.cell]; rfl, by rw [this.cell]; rfl, by rw [this.cell]; rfl⟩
  have HL9 : Hid (w.heap.size <= wa.drew.heap.size) := show w.heap.size <= wa.heap.size from hBa.size
  have CP : Hid (∀ W', Below wa.drew.heap.size wa.drew W' -> Calls Tryz.prog 41 #[.slice fa ed.fields.length fc] W' fun e w' => ∃ v', e = .returned v' /\ (∃ A c, v' = .slice A ed.fields.length c /\ w'.ownsRow w.heap.size 83 2 v' ed.fields.length (cellsF ed.fields)) /\ Below W'.heap.size W' w') := fun W' hW' => by
   have hB' : Below w.heap.size w W' := hBa.drew.trans (hW'.mono hBa.size)
   have hfl' := hfl.below hB' (Nat.le_refl _)
   refine (copies_own ed.fields _ W' hfl'.1 hfl'.2 (by have := (HF.out ed (List.mem_of_getElem? hed)).len; omega)).mono ?_
   rintro e w' ⟨v', rfl, ho, hb⟩
   obtain ⟨A, c, e, _⟩ := own_slice ho
   exact ⟨v', rfl, ⟨A, c, e, rowBase ho hB'.size⟩, hb⟩
  have SN : Hid (eds.take (k + 1) = eds.take k ++ [ed]) := take_snoc hed
  have HO := Lib.hid hO
  have HBA := Lib.hid hBa
  have HB9 := Lib.hid hb9
  have HLEN := Lib.hid hlen
  clear hed hO hB hb9 cE hBa hfl
  subst hwa
  go_upto_region 5 with fail
  refine wp_region_any (by kernel_rfl) ?_
  refine region_ow5 _ (wr.alloc (.cells #[.int .i64 ed.kind, .int .i64 ed.id, .slice fa ed.fields.length fc] 40)).drew wr.heap.size w.heap.size (.slice oa k oc) ed.kind ed.id fa ed.fields.length fc
   (fun v w2 => ∃ A c, v = .slice A ed.fields.length c /\ w2.ownsRow w.heap.size 83 2 v ed.fields.length (cellsF ed.fields)) _ rfl rfl rfl HE9.out HL9.out ?hPM ?hPF CP.out ?hQ
  case hPM =>
   rintro v x y hb ⟨A, c, e, h1⟩
   exact ⟨A, c, e, row_below h1 hb (Nat.le_refl _)⟩
  case hPF =>
   rintro v w ⟨A, c, e, _⟩
   exact ⟨_, _, _, e⟩
  case hQ =>
  intro y0 y1 y2 y3 y4 y5 y6 y7 y8 y9 w2 hb2 hy0 hy9
  subst hy0
  obtain ⟨b9, u, rfl, ⟨A9, c9, rfl, hown9⟩, hlo9, hcb⟩ := hy9
  have hB2r : Below wr.heap.size wr w2 := HB9.out.drew.trans (hb2.mono HB9.out.size)
  have hB2 : Below w.heap.size w w2 := HBA.out.drew.trans (hb2.mono HBA.out.size)
  have HV : Hid (∀ (i : Nat) (u : Value), [Value.int .i64 ed.kind, .int .i64 ed.id, .slice A9 ed.fields.length c9][i]? = some u -> w2.cell? ((⟨b9, 0, none⟩ : Addr).add i) = some u) := fun i u h => by
   have ea : (⟨b9, 0, none⟩ : Addr).add i = ⟨b9, i, none⟩ := by unfold Addr.add; split <;> simp_all
   rw [ea, hcb.cell i]; simpa using h
  have hO2 := HO.out.below hB2r (Nat.le_refl _)
  have hrow2 := hO2.row
  rw [HLEN.out] at hrow2
  have HR := Lib.hid hrow2
  have HB2 := Lib.hid hB2
  have HO2 := Lib.hid hO2
  have HOWN := Lib.hid hown9
  have hlo2 := hB2.size
  clear hcb hb2 hB2r hB2 hO2 hrow2 hown9 HE9 HL9 CP HO HBA HB9
  simp only [List.foldl, List.setIfInBounds_toArray, List.set_cons_zero, List.set_cons_succ]
  go_wp2_with (at_builtin; refine wpList_append_at rfl _ _ 37 rfl w.heap.size 40 i0 _ 3 40 Tryz.underlying37 hi hz0 hz1 hz2 rfl (by decide) _ _ _ rfl HR.out ⟨b9, 0, none⟩ 1 1 _ rfl rfl HV.out (by intro u hu; simp at hu; rcases hu with rfl | rfl | rfl <;> rfl) (by unfold maxLen; omega) (by omega) hlo2 ?_)
  intro ov' w3 own3 grow3 at3
  have hge : ∀ r, (Value.slice oa k oc).ownBlock = some r -> w.heap.size <= r := fun r e => (HR.out.lt r e).1
  have B3 : Below w.heap.size w w3 := HB2.out.grown grow3 HB2.out.size hge
  have hty : ∀ (fx : Value) (n : Nat) (xs : List Value), w2.ownsRow w.heap.size 83 2 fx n xs -> w3.ownsRow w.heap.size 83 2 fx n xs := fun fx n xs hx =>
   row_same hx (fun r e => grow3.block r (hx.lt r e).2 (fun q => own_own_ne HR.out hx (by decide) r q.symm e))
  have OE : OwnE w.heap.size w3 ov' (eds.take (k + 1)) (fvs ++ [.slice A9 ed.fields.length c9]) := by
   have hl0 := HO2.out.len
   refine ⟨?_, by rw [SN.out, List.length_append, List.length_append, hl0]; rfl, fun i x fx h1 h2 => ?_⟩
   ·rw [SN.out, edRow_snoc _ _ _ _ hl0, List.length_append, HLEN.out]; exact own3
   rw [SN.out] at h1
   rcases Nat.lt_or_ge i (eds.take k).length with q | q
   ·rw [List.getElem?_append_left q] at h1
    rw [List.getElem?_append_left (by omega)] at h2
    exact hty _ _ _ (HO2.out.each i x fx h1 h2)
   rw [List.getElem?_append_right q] at h1
   rw [List.getElem?_append_right (by omega), hl0] at h2
   rcases hq : i - (eds.take k).length with _ | j
   ·rw [hq] at h1 h2
    simp at h1 h2
    subst h1 h2
    exact hty _ _ _ HOWN.out
   rw [hq] at h1; simp at h1
  have HOE := Lib.hid OE
  have HB3 := Lib.hid B3
  obtain ⟨oa', on', oc', rfl⟩ : ∃ A n c, ov' = .slice A n c := by
   obtain ⟨A, c, e, _⟩ := own_slice own3
   exact ⟨A, _, c, e⟩
  clear own3 grow3 at3 OE B3 hty hge HR HV HO2 HOWN HB2
  go_wp2_with fail
  go_roundw
  case rel => exact ⟨k + 1, _, _, rfl, hlt, by go_num, HOE.out, HB3.out⟩
  case measure => simp [intOf]; omega
 obtain rfl : k = eds.length := by omega
 rw [List.take_length] at hO
 obtain ⟨oa, oc, rfl⟩ : ∃ A c, ov = .slice A eds.length c := by
  obtain ⟨A, c, e, _⟩ := own_slice hO.row
  exact ⟨A, c, e⟩
 have HO := Lib.hid hO
 clear PC hO
 go_wp2_with fail
 go_ret
 exact ⟨_, fvs, rfl, HO.out, hB⟩
end Go.Proofs.YtbkeoiefolkjfaaGreatDoor
namespace Go.Proofs.YtbkeoiefolkjfaaGreatDoor
open Go.RowKit Go.Shelf
attribute [local go_sem] Oper.semAt_some
def stepR (t : List UInt8) (st : List Ed × Nat) (x : Ln) : List Ed × Nat := if st.2 < x.at_ /\ Lib.hasPrefix x.text [32, 32] = false then (st.1 ++ [saidE ((t.drop st.2).take (x.at_ - st.2))], x.at_) else st
def readS (t : List UInt8) (xs : List Ln) : List Ed × Nat := xs.foldl (stepR t) ([], 0)
theorem readS_snoc (t : List UInt8) (xs : List Ln) (x : Ln) : readS t (xs ++ [x]) = stepR t (readS t xs) x := by unfold readS; rw [List.foldl_append]; rfl
theorem fold_pieces (t : List UInt8) : ∀ (xs : List Ln) (acc : List Ed) (b : Nat), (xs.foldl (stepR t) (acc, b)).1 ++ [saidE (t.drop (xs.foldl (stepR t) (acc, b)).2)] = acc ++ (piecesOn t b xs).map saidE
 | [], acc, b => rfl
 | x :: r, acc, b => by
  rw [List.foldl_cons, piecesOn]
  by_cases h : b < x.at_ /\ Lib.hasPrefix x.text [32, 32] = false
  ·rw [show stepR t (acc, b) x = (acc ++ [saidE ((t.drop b).take (x.at_ - b))], x.at_) from if_pos h, fold_pieces t r, if_pos h, List.map_cons]; simp
  rw [show stepR t (acc, b) x = (acc, b) from if_neg h, fold_pieces t r, if_neg h]
theorem readL_eq (t : List UInt8) : readL t = (readS t (linesOf t)).1 ++ [saidE (t.drop (readS t (linesOf t)).2)] := by
 unfold readL readS
 rw [fold_pieces]; rfl
theorem readS_take (t : List UInt8) (k : Nat) : ((readS t ((linesOf t).take k)).2 <= (((linesOf t).take k).flatMap Ln.bytes).length) /\ (readS t ((linesOf t).take k)).1.length <= k := by
 induction k with
 | zero => exact ⟨Nat.le_refl _, Nat.le_refl _⟩
 | succ k ih =>
 rw [List.take_add_one]
 cases h : (linesOf t)[k]? with
 | none => simp only [Option.toList, List.append_nil]; omega
 | some x =>
 obtain ⟨hk, e⟩ := List.getElem?_eq_some_iff.1 h
 have hat := (linesOf_at t ((linesOf t).take k) x ((linesOf t).drop (k + 1)) (by conv => lhs; rw [<- List.take_append_drop k (linesOf t), List.drop_eq_getElem_cons hk, e])).2
 show (readS t (_ ++ [x])).2 <= _ /\ (readS t (_ ++ [x])).1.length <= _
 rw [readS_snoc]
 have hb : ((((linesOf t).take k ++ [x])).flatMap Ln.bytes).length = (((linesOf t).take k).flatMap Ln.bytes).length + x.bytes.length := by rw [List.flatMap_append, List.length_append]; simp
 show (stepR t _ x).2 <= (((linesOf t).take k ++ [x]).flatMap Ln.bytes).length /\ _
 rw [hb]
 unfold stepR
 split
 ·refine ⟨by show x.at_ <= _; omega, ?_⟩
  show (_ ++ [_]).length <= _
  rw [List.length_append]; simp only [List.length_cons, List.length_nil]; omega
 exact ⟨by omega, by omega⟩
theorem readS_at {t : List UInt8} {pre post : List Ln} {x : Ln} (h : linesOf t = pre ++ x :: post) : (readS t pre).2 <= x.at_ /\ x.at_ <= t.length /\ (readS t pre).1.length <= t.length := by
 have e : pre = (linesOf t).take pre.length := by rw [h]; simp
 have h1 := readS_take t pre.length
 rw [<- e] at h1
 have h2 := (linesOf_at t pre x post h).2
 have h3 := congrArg List.length (linesOf_join t)
 rw [h, List.flatMap_append, List.length_append] at h3
 have h4 := linesOf_length t
 rw [h, List.length_append, List.length_cons] at h4
 exact ⟨by omega, by omega, by omega⟩
theorem readS_end (t : List UInt8) : (readS t (linesOf t)).2 <= t.length /\ (readS t (linesOf t)).1.length <= t.length := by
 have h1 := readS_take t (linesOf t).length
 rw [List.take_length, linesOf_join] at h1
 have := linesOf_length t
 exact ⟨h1.1, by omega⟩
theorem ext_B (t : List UInt8) (i j : Nat) : (B t).extract i j = B ((t.drop i).take (j - i)) := by
 apply ByteArray.ext
 simp [B, ByteArray.data_extract, List.extract_eq_take_drop]
theorem OwnE.turned {lo B k : Nat} {W W' : World} {v : Value} {eds : List Ed} {fvs : List Value} (h : OwnE lo W v eds fvs) (ht : Turned B k W W') (hlo : B + k <= lo) : OwnE lo W' v eds fvs :=
 ⟨ht.row h.row (fun b e => .inr (by have := (h.row.lt b e).1; omega)), h.len, fun i ed fv h1 h2 => ht.row (h.each i ed fv h1 h2) (fun b e => .inr (by have := ((h.each i ed fv h1 h2).lt b e).1; omega))⟩
theorem OwnE.set {lo : Nat} {W : World} {v : Value} {eds : List Ed} {fvs : List Value} (h : OwnE lo W v eds fvs) {p : Addr} (hp : p.block < lo) (u : Value) : OwnE lo (W.setCell p u) v eds fvs :=
 ⟨row_cell h.row (fun e => by have := (h.row.lt _ e).1; omega) _, h.len, fun i ed fv h1 h2 => row_cell (h.each i ed fv h1 h2) (fun e => by have := ((h.each i ed fv h1 h2).lt _ e).1; omega) _⟩
theorem OwnE.snoc {lo : Nat} {w2 w3 : World} {v v' x : Value} {eds : List Ed} {fvs : List Value} {ed : Ed} (h : OwnE lo w2 v eds fvs) (hx : w2.ownsRow lo 83 2 x ed.fields.length (cellsF ed.fields))
  (own3 : w3.ownsRow lo 40 3 v' (eds.length + 1) (edRow eds fvs ++ [.int .i64 ed.kind, .int .i64 ed.id, x])) (grow3 : w2.grownBy w3 v.ownBlock) : OwnE lo w3 v' (eds ++ [ed]) (fvs ++ [x]) := by
 have hty : ∀ (fx : Value) (n : Nat) (xs : List Value), w2.ownsRow lo 83 2 fx n xs -> w3.ownsRow lo 83 2 fx n xs := fun fx n xs hx =>
  row_same hx (fun r e => grow3.block r (hx.lt r e).2 (fun q => own_own_ne h.row hx (by decide) r q.symm e))
 refine ⟨by rw [edRow_snoc _ _ _ _ h.len, List.length_append]; exact own3, by rw [List.length_append, List.length_append, h.len]; rfl, fun i y fx h1 h2 => ?_⟩
 rcases Nat.lt_or_ge i eds.length with q | q
 ·rw [List.getElem?_append_left q] at h1
  rw [List.getElem?_append_left (by rw [h.len]; exact q)] at h2
  exact hty _ _ _ (h.each i y fx h1 h2)
 rw [List.getElem?_append_right q] at h1
 rw [List.getElem?_append_right (by rw [h.len]; exact q), h.len] at h2
 rcases hq : i - eds.length with _ | j
 ·rw [hq] at h1 h2
  simp at h1 h2
  subst h1 h2
  exact hty _ _ _ hx
 rw [hq] at h1; simp at h1
theorem row_not {W : World} {lo sz n b : Nat} {T U : TypeId} {v : Value} {xs : List Value} {cur : Array Value} (h : W.ownsRow lo T sz v n xs) (hc : Cells W b U cur) (ht : T ≠ U) : v.ownBlock ≠ some b := by
 intro e
 rcases h.2 with ⟨rfl, _⟩ | ⟨g, cap, cur', rfl, _, hg, _⟩
 ·cases e
 have : g = b := Option.some.inj e
 subst this
 have h2 := hg.symm.trans hc
 injection h2 with h2
 injection h2 with _ h2 _
 exact ht h2
def InvR (w : World) (t : List UInt8) (st : List Ed × Nat) (W : World) : Prop :=
 ∃ u fvs, Boxed W w.heap.size 9 (.string (B t)) /\ Boxed W (w.heap.size + 1) 37 u /\ Boxed W (w.heap.size + 2) 3 (.int .i64 (st.2 : Nat)) /\ OwnE (w.heap.size + 9) W u st.1 fvs /\ Below w.heap.size w W
theorem InvR.turned {w : World} {t : List UInt8} {st : List Ed × Nat} {W W' : World} {k : Nat} (h : InvR w t st W) (ht : Turned (w.heap.size + 4) k W W') (hk : k <= 5) : InvR w t st W' := by
 obtain ⟨u, fvs, h1, h2, h3, h4, h5⟩ := h
 exact ⟨u, fvs, ht.box h1 (.inl (by omega)), ht.box h2 (.inl (by omega)), ht.box h3 (.inl (by omega)), h4.turned ht (by omega), h5.trans (ht.below (by omega) h5.size)⟩
theorem InvR.alloc {w : World} {t : List UInt8} {st : List Ed × Nat} {W : World} (h : InvR w t st W) (o : Obj) : InvR w t st (W.alloc o) := by
 obtain ⟨u, fvs, h1, h2, h3, h4, h5⟩ := h
 exact ⟨u, fvs, h1.alloc _, h2.alloc _, h3.alloc _, h4.below ((Below.refl _ W).alloc (Nat.le_refl _) _) (Nat.le_refl _), h5.alloc h5.size _⟩
theorem read_any (t : List UInt8) (ht : t.length <= 50000) (w : World) (hT : Tabs w) :
  Calls Tryz.prog 64 #[.string (B t)] w fun e w' => ∃ u fvs, e = .returned u /\ OwnE w.heap.size w' u (readL t) fvs /\ Below w.heap.size w w' := by
 obtain ⟨xs, hxs⟩ : ∃ xs, linesOf t = xs := ⟨_, rfl⟩
 have HXS := Lib.hid hxs
 have HT := Lib.hid hT
 have RA : Hid (∀ pre x post, xs = pre ++ x :: post -> (readS t pre).2 <= x.at_ /\ x.at_ <= t.length /\ (readS t pre).1.length <= t.length) := fun pre x post h => readS_at (hxs.trans h)
 clear hxs hT
 refine callsIn_wide (n := 9).1 ?_
 refine callsIn_of_wp_marks Tryz.func64 rfl trivial ?_ rfl
 simp only [Tryz.ntmps64, List.size_toArray, List.length_cons, List.length_nil, Nat.reduceAdd, Nat.reduceSub, Array.replicate_succ, Array.replicate_zero, List.push_toArray, List.append_toArray, List.nil_append, List.cons_append]
 gi_wp2_with fail
 refine ⟨trivial, (callsIn_wide.2 (split_any (B t) _)).mono ?_⟩
 rintro e w3 ⟨rfl, rfl⟩
 gi_wp2_with fail
 obtain ⟨w1, hw1⟩ : ∃ w1, w1 = ((((w.alloc (.cells #[.string (B t)] 9)).alloc (.cells #[.slice none 0 0] 37)).alloc (.cells #[.int .i64 0] 3)).alloc (.cells #[.string (B t)] 9)) := ⟨_, rfl⟩
 have hz : w1.heap.size = w.heap.size + 4 := by rw [hw1]; simp
 have k3 : Boxed w1 (w.heap.size + 3) 9 (.string (B t)) := by
  rw [hw1]
  have := Boxed.new (((w.alloc (.cells #[.string (B t)] 9)).alloc (.cells #[.slice none 0 0] 37)).alloc (.cells #[.int .i64 0] 3)) 9 (.string (B t))
  simpa using this
 have init : InvR w t ([], 0) w1 := by
  rw [hw1]
  refine InvR.alloc ⟨.slice none 0 0, [], ((Boxed.new w _ _).alloc _).alloc _, (boxNew2 w _ _ _).alloc _, boxNew3 w _ _ _ _, ⟨⟨rfl, .inl ⟨rfl, rfl⟩⟩, rfl, fun i ed fv h1 _ => by simp at h1⟩, (((Below.refl _ w).alloc (Nat.le_refl _) _).alloc (by simp) _).alloc (by simp; omega) _⟩ _
 rw [<- hw1]
 clear hw1
 have HH := split_hands (B t) (w.heap.size + 3) w1 k3 (by rw [B_size]; omega)
 rw [B_data, HXS.out] at HH
 refine wp_rangedA (gf := 98) (lb := #[.pointer (some ⟨w.heap.size + 3, 0, none⟩)]) rfl (enters_of Tryz.func98 (by kernel_rfl) rfl) HH (fun _ => rfl)
  (fun pre W => InvR w t (readS t pre) W) (fun _ _ _ => False) (by rw [hz]; intro pre W W' h ht; exact h.turned ht (by omega)) (fun _ _ _ _ hs _ => hs) init
  (fun a pre x a' W => ∃ Bx, w.heap.size + 9 <= Bx /\ a' = { tmps := (a.tmps.setIfInBounds 8 (.agg (lineV x))).setIfInBounds 5 (.pointer (some ⟨Bx, 0, none⟩)), defers := [] } /\ Cells W Bx 99 (lineV x) /\ InvR w t (readS t pre) W)
  ?hM ?assign ?body ?done ?stop
 case hM =>
  rw [hz]
  rintro a pre x a' _ W W' ⟨Bx, h1, h2, h3, h4⟩ ht
  exact ⟨Bx, h1, h2, (ht.same Bx h3.lt (.inr (by omega))).trans h3, h4.turned (ht.sub (Nat.le_refl _) (by omega)) (Nat.le_refl 5)⟩
 case assign =>
  rw [hz]
  intro l pre x post W hx hsz hi
  clear hx
  dsimp only [lineV]
  gi_wp2
  exact ⟨(Stay.refl _ _ W).alloc hsz _, W.heap.size, by omega, rfl, Cells.new _ _ _, hi.alloc _⟩
 case body =>
  rw [hz]
  rintro l pre x post a' W hx hsz ⟨Bx, hB, rfl, hc, u, fvs, h1, h2, h3, h4, h5⟩
  obtain ⟨r1, r2, r3⟩ := RA.out pre x post hx
  have SN := Lib.hid (readS_snoc t pre x)
  clear hx RA
  obtain ⟨⟨acc, beg⟩, hst⟩ : ∃ st, readS t pre = st := ⟨_, rfl⟩
  rw [hst] at r1 r3 h3 h4 SN
  dsimp only at r1 r3 h3 h4
  simp only [List.setIfInBounds_toArray, List.set_cons_zero, List.set_cons_succ, lineV] at hc ⊢
  have p1 : W.cell? ⟨Bx, 1, none⟩ = some (.int .i64 x.at_) := hc.cell 1
  have p2 : W.cell? ⟨Bx, 2, none⟩ = some (.string ⟨x.text.toArray⟩) := hc.cell 2
  have p3 := h3.cell
  have HI : Hid (InvR w t (acc, beg) W) := ⟨u, fvs, h1, h2, h3, h4, h5⟩
  refine wpIn_block (wpIn_seq ?_)
  by_cases hcd : beg < x.at_ /\ Lib.hasPrefix x.text [32, 32] = false
  ·obtain ⟨hlt, hp⟩ := hcd
   have q : ¬ (x.at_ : Int) <= (beg : Int) := by omega
   refine wpIn_mono (Q := fun e a' w' => e = .normal /\ w' = W /\ ∃ y9 y10 y11 y12 y13 y14 y15 y16 y17, a' = { tmps := #[.string (B t), .pointer (some ⟨w.heap.size, 0, none⟩), .slice none 0 0, .pointer (some ⟨w.heap.size + 1, 0, none⟩), .pointer (some ⟨w.heap.size + 1 + 1, 0, none⟩), .pointer (some ⟨Bx, 0, none⟩), .string (B t), .func (.func 98) #[] #[.pointer (some ⟨w.heap.size + 1 + 1 + 1, 0, none⟩)], .agg #[.int .i64 x.no, .int .i64 x.at_, .string ⟨x.text.toArray⟩, .bool x.ended], y9, y10, y11, y12, y13, y14, y15, y16, y17, .bool true, undef, undef, undef, undef, undef, undef, undef, undef, undef, undef, undef, undef, undef, undef, undef, undef, undef, undef], defers := [] }) ?first ?rest
   case first =>
    clear HI SN h1 h2 h3 h4 h5
    gi_wp2_with fail
    refine ⟨trivial, ((callsIn_wide.2 (Tryz.strings_HasPrefix ⟨x.text.toArray⟩ ⟨#[32, 32]⟩ W)).inRound l).mono ?_⟩
    rintro e V ⟨rfl, rfl⟩
    rw [show Lib.hasPrefix (⟨x.text.toArray⟩ : ByteArray).data.toList (⟨#[32, 32]⟩ : ByteArray).data.toList = Lib.hasPrefix x.text [32, 32] from rfl, hp]
    gi_wp2_with fail
    all_goals exact ⟨rfl, rfl, _, _, _, _, _, _, _, _, _, rfl⟩
   case rest =>
   rintro e a' w' ⟨rfl, hw', y9, y10, y11, y12, y13, y14, y15, y16, y17, rfl⟩
   subst hw'
   change Code.wpIn _ _ _ _ _ _ _
   refine wpIn_cond_true rfl (wpIn_seq (wp_region_round (by decide +kernel) (by rintro ⟨a, w, h⟩; exact h) (by kernel_rfl) ?_))
   have hzW := h5.size
   have hcbx := hc.lt
   obtain ⟨ua, uc, rfl, _⟩ := own_slice h4.row
   have hS : ∀ V, Below w'.drew.heap.size w'.drew V -> V.cell? ⟨w.heap.size + 1, 0, none⟩ = some (.slice ua acc.length uc) /\ V.cell? ⟨w.heap.size, 0, none⟩ = some (.string (B t)) /\ V.cell? ⟨w.heap.size + 1 + 1, 0, none⟩ = some (.int .i64 (beg : Nat)) /\ V.cell? ⟨Bx, 1, none⟩ = some (.int .i64 (x.at_ : Nat)) := fun V hV => by
    have hV' : Below w'.heap.size w' V := (Below.refl w'.heap.size w').drew.trans hV
    exact ⟨(hV'.cell (p := ⟨w.heap.size + 1, 0, none⟩) (by show w.heap.size + 1 < _; omega)).trans h2.cell, (hV'.cell (p := ⟨w.heap.size, 0, none⟩) (by show w.heap.size < _; omega)).trans h1.cell, (hV'.cell (p := ⟨w.heap.size + 1 + 1, 0, none⟩) (by show w.heap.size + 1 + 1 < _; omega)).trans h3.cell, (hV'.cell (p := ⟨Bx, 1, none⟩) hcbx).trans p1⟩
   obtain ⟨pc, hpc⟩ : ∃ pc, pc = (t.drop beg).take (x.at_ - beg) := ⟨_, rfl⟩
   have hpl : pc.length <= 60000 := by rw [hpc, List.length_take, List.length_drop]; omega
   have SN1 : Hid (readS t (pre ++ [x]) = (acc ++ [saidE pc], x.at_)) := by
    show _ = _
    rw [SN.out, hpc]; exact if_pos ⟨hlt, hp⟩
   obtain ⟨i0, hi, hz0, hz1, hz2⟩ := info_parts infoEd9
   refine region_rd6 _ w'.drew (w.heap.size + 1) w.heap.size (w.heap.size + 1 + 1) Bx (w.heap.size + 9) (.slice ua acc.length uc) (B t) beg x.at_ (SaidV (w.heap.size + 9) pc) _ rfl rfl rfl rfl rfl hS hsz ⟨r1, by rw [B_size]; exact r2⟩ ?pm ?pf ?pC ?pQ
   case pm =>
    rintro v x y hb ⟨u, e, h⟩
    exact ⟨u, e, row_below h hb (Nat.le_refl _)⟩
   case pf =>
    rintro v w ⟨u, rfl, h⟩
    obtain ⟨A, c, rfl, _⟩ := own_slice h
    exact ⟨_, _, _, _, _, rfl⟩
   case pC =>
    intro V hV
    have hV' : Below w'.heap.size w' V := (Below.refl w'.heap.size w').drew.trans hV
    rw [ext_B, <- hpc]
    refine (asaid_any pc hpl V (HT.out.below (h5.trans (hV'.mono h5.size)) (Nat.le_refl _))).mono ?_
    rintro e w2 ⟨v, rfl, ⟨u, e, h⟩, hb⟩
    exact ⟨v, rfl, ⟨u, e, rowBase h (Nat.le_trans hsz hV'.size)⟩, hb⟩
   case pQ =>
   intro y0 y1 y2 y3 y4 y5 y6 y7 w2 hb2 hy0 hy7
   subst hy0
   obtain ⟨b9, u9, cs9, rfl, ⟨ux, rfl, hux⟩, hlo9, hcs, hcb⟩ := hy7
   injection hcs with hcs
   subst hcs
   have hB2 : Below w'.heap.size w' w2 := (Below.refl w'.heap.size w').drew.trans hb2
   have hO2 := h4.below hB2 (Nat.le_refl _)
   obtain ⟨xa, xc, rfl, _⟩ := own_slice hux
   have HV : Hid (∀ (i : Nat) (u : Value), [Value.int .i64 (saidE pc).kind, .int .i64 (saidE pc).id, .slice xa (saidE pc).fields.length xc][i]? = some u -> w2.cell? ((⟨b9, 0, none⟩ : Addr).add i) = some u) := fun i u h => by
    have ea : (⟨b9, 0, none⟩ : Addr).add i = ⟨b9, i, none⟩ := by unfold Addr.add; split <;> simp_all
    rw [ea, hcb.cell i]; simpa using h
   have k1 : Boxed w2 w.heap.size 9 (.string (B t)) := (hB2.block _ h1.lt).trans h1
   have k2 : Boxed w2 (w.heap.size + 1) 37 (.slice ua acc.length uc) := (hB2.block _ h2.lt).trans h2
   have k3' : Boxed w2 (w.heap.size + 1 + 1) 3 (.int .i64 (beg : Nat)) := (hB2.block _ h3.lt).trans h3
   have kc := cells_kept hc hB2 hcbx
   have hz2' := hB2.size
   have HR := Lib.hid hO2.row
   have HO2 := Lib.hid hO2
   have HUX := Lib.hid hux
   have HB2 := Lib.hid hB2
   have K := Lib.hid (And.intro k1 (And.intro k2 (And.intro k3' kc)))
   have H5 := Lib.hid h5
   have hal : acc.length <= 50000 := by omega
   clear hcb hb2 hB2 hO2 hux k1 k2 k3' kc h1 h2 h3 h4 h5 hS HI p1 p2 p3 hc SN hpc hpl
   generalize hfl : (saidE pc).fields.length = fl at *
   simp only [List.foldl, List.setIfInBounds_toArray, List.set_cons_zero, List.set_cons_succ]
   go_wp2_with (at_builtin; refine wpList_append_at rfl _ _ 37 rfl (w.heap.size + 9) 40 i0 _ 3 40 Tryz.underlying37 hi hz0 hz1 hz2 rfl (by decide) _ _ _ rfl HR.out ⟨b9, 0, none⟩ 1 1 _ rfl rfl HV.out (by intro u hu; simp at hu; rcases hu with rfl | rfl | rfl <;> rfl) (by unfold maxLen; omega) (by omega) (by omega) ?_)
   intro ov' w3 own3 grow3 at3
   have hrow : ∀ r, (Value.slice ua acc.length uc).ownBlock = some r -> w.heap.size + 9 <= r := fun r e => (HR.out.lt r e).1
   obtain ⟨k1, k2, k3', kc⟩ := K.out
   have j1 := k1.kept grow3 (fun e => by have := hrow _ e.symm; omega)
   have j2 := k2.kept grow3 (fun e => by have := hrow _ e.symm; omega)
   have j3 := k3'.kept grow3 (fun e => by have := hrow _ e.symm; omega)
   have jc : Cells w3 Bx 99 _ := (grow3.block Bx kc.lt (fun e => row_not HR.out kc (by decide) e.symm)).trans kc
   have hs3 := grow3.size
   have f2 := j2.cell
   have f2' := j2.frozen
   have OS := Lib.hid (HO2.out.snoc (ed := saidE pc) (by rw [hfl]; exact HUX.out) own3 grow3)
   have HG := Lib.hid grow3
   have HROW := Lib.hid hrow
   have J := Lib.hid (And.intro j1 (And.intro j2 (And.intro j3 jc)))
   obtain ⟨ova, ovc, rfl, _⟩ := own_slice own3
   clear own3 grow3 at3 hrow k1 k2 k3' kc j1 j2 j3 jc HO2 HUX HV
   go_wp2_with fail
   change Code.wpIn _ _ _ _ _ _ _
   obtain ⟨j1, j2, j3, jc⟩ := J.out
   obtain ⟨w4, hw4⟩ : ∃ w4, w4 = w3.setCell ⟨w.heap.size + 1, 0, none⟩ (.slice ova (acc.length + 1) ovc) := ⟨_, rfl⟩
   have q1 : Boxed w4 w.heap.size 9 (.string (B t)) := by rw [hw4]; exact j1.other (by omega) _
   have q2 : Boxed w4 (w.heap.size + 1) 37 (.slice ova (acc.length + 1) ovc) := by rw [hw4]; exact Boxed.set _ j2
   have q3 : Boxed w4 (w.heap.size + 1 + 1) 3 (.int .i64 (beg : Nat)) := by rw [hw4]; exact j3.other (by omega) _
   have qc : Cells w4 Bx 99 #[.int .i64 x.no, .int .i64 x.at_, .string ⟨x.text.toArray⟩, .bool x.ended] := by rw [hw4]; exact jc.other (p := ⟨w.heap.size + 1, 0, none⟩) (by show Bx ≠ w.heap.size + 1; omega) _
   have hs4 : w4.heap.size = w3.heap.size := by rw [hw4]; simp
   have st4 : Stay (w.heap.size + 4) 5 w' w4 := by
    rw [hw4]
    exact (((Stay.refl _ _ _).below HB2.out (by omega)).grown HG.out (by omega) (fun r e => .inr (by have := HROW.out r e; omega))).setCell (.inl (by show w.heap.size + 1 < _; omega)) _
   have own4 := (OS.out).set (p := ⟨w.heap.size + 1, 0, none⟩) (by show w.heap.size + 1 < _; omega) (.slice ova (acc.length + 1) ovc)
   rw [<- hw4] at own4
   have B4 : Below w.heap.size w w4 := by
    rw [hw4]
    exact ((H5.out.trans (HB2.out.mono H5.out.size)).grown HG.out (by omega) (fun r e => by have := HROW.out r e; omega)).setCell (p := ⟨w.heap.size + 1, 0, none⟩) (by show w.heap.size <= w.heap.size + 1; omega) _
   rw [<- hw4]
   have g1 : w4.cell? ⟨Bx, 1, none⟩ = some (.int .i64 x.at_) := qc.cell 1
   have g2 := q3.cell
   have g2' := q3.frozen
   have FIN : Hid (Stay (w.heap.size + 4) 5 w' (w4.setCell ⟨w.heap.size + 1 + 1, 0, none⟩ (.int .i64 x.at_)) /\ InvR w t (readS t (pre ++ [x])) (w4.setCell ⟨w.heap.size + 1 + 1, 0, none⟩ (.int .i64 x.at_))) :=
    ⟨st4.setCell (.inl (by show w.heap.size + 1 + 1 < _; omega)) _, by
     rw [SN1.out]
     exact ⟨_, _, q1.other (by omega) _, q2.other (by omega) _, Boxed.set _ q3, own4.set (p := ⟨w.heap.size + 1 + 1, 0, none⟩) (by show w.heap.size + 1 + 1 < _; omega) _, B4.setCell (p := ⟨w.heap.size + 1 + 1, 0, none⟩) (by show w.heap.size <= w.heap.size + 1 + 1; omega) _⟩⟩
   clear own4 B4 st4 q1 q2 q3 qc j1 j2 j3 jc J OS HG HROW hw4
   gi_wp2_with fail
   exact FIN.out
  refine wpIn_mono (Q := fun e a' w' => e = .normal /\ w' = W /\ ∃ y9 y10 y11 y12 y13 y14 y15 y16 y17, a' = { tmps := #[.string (B t), .pointer (some ⟨w.heap.size, 0, none⟩), .slice none 0 0, .pointer (some ⟨w.heap.size + 1, 0, none⟩), .pointer (some ⟨w.heap.size + 1 + 1, 0, none⟩), .pointer (some ⟨Bx, 0, none⟩), .string (B t), .func (.func 98) #[] #[.pointer (some ⟨w.heap.size + 1 + 1 + 1, 0, none⟩)], .agg #[.int .i64 x.no, .int .i64 x.at_, .string ⟨x.text.toArray⟩, .bool x.ended], y9, y10, y11, y12, y13, y14, y15, y16, y17, .bool false, undef, undef, undef, undef, undef, undef, undef, undef, undef, undef, undef, undef, undef, undef, undef, undef, undef, undef], defers := [] }) ?first ?rest
  case first =>
   clear HI SN h1 h2 h3 h4 h5
   by_cases hlt : beg < x.at_
   ·have hp : Lib.hasPrefix x.text [32, 32] = true := by
     cases h : Lib.hasPrefix x.text [32, 32] with
     | true => rfl
     | false => exact absurd ⟨hlt, h⟩ hcd
    have q : ¬ (x.at_ : Int) <= (beg : Int) := by omega
    gi_wp2_with fail
    refine ⟨trivial, ((callsIn_wide.2 (Tryz.strings_HasPrefix ⟨x.text.toArray⟩ ⟨#[32, 32]⟩ W)).inRound l).mono ?_⟩
    rintro e V ⟨rfl, rfl⟩
    rw [show Lib.hasPrefix (⟨x.text.toArray⟩ : ByteArray).data.toList (⟨#[32, 32]⟩ : ByteArray).data.toList = Lib.hasPrefix x.text [32, 32] from rfl, hp]
    gi_wp2_with fail
    all_goals exact ⟨rfl, rfl, _, _, _, _, _, _, _, _, _, rfl⟩
   have q : (x.at_ : Int) <= (beg : Int) := by omega
   gi_wp2_with fail
   refine ⟨trivial, ?_⟩
   gi_wp2_with fail
   all_goals exact ⟨rfl, rfl, _, _, _, _, _, _, _, _, _, rfl⟩
  case rest =>
  rintro e a' w' ⟨rfl, hw', y9, y10, y11, y12, y13, y14, y15, y16, y17, rfl⟩
  subst hw'
  change Code.wpIn _ _ _ _ _ _ _
  refine wpIn_cond_false rfl ?_
  gi_wp2
  refine ⟨Stay.refl _ _ _, ?_⟩
  show InvR w t (readS t (pre ++ [x])) w'
  rw [SN.out, show stepR t (acc, beg) x = (acc, beg) from if_neg hcd]
  exact HI.out
 case done =>
  rw [hz]
  rintro W ⟨u, fvs, h1, h2, h3, h4, h5⟩ hK
  rename_i Q' K hcont
  refine hcont _ _ ?_
  refine wpIn_seq ?_
  refine wpIn_wide.2 ?_
  refine wp_region_any (by kernel_rfl) ?_
  obtain ⟨st, hst⟩ : ∃ st, readS t xs = st := ⟨_, rfl⟩
  have e1 := readL_eq t
  have e2 := readS_end t
  rw [HXS.out, hst] at e1 e2
  rw [hst] at h3 h4
  obtain ⟨acc, beg⟩ := st
  dsimp only at h3 h4 e1 e2
  obtain ⟨ua, uc, rfl, _⟩ := own_slice h4.row
  have hkl : w.heap.size + 4 < W.heap.size := (Array.getElem?_eq_some_iff.1 hK).1
  have hS : ∀ V, Below W.drew.heap.size W.drew V -> V.cell? ⟨w.heap.size + 1, 0, none⟩ = some (.slice ua acc.length uc) /\ V.cell? ⟨w.heap.size, 0, none⟩ = some (.string (B t)) /\ V.cell? ⟨w.heap.size + 1 + 1, 0, none⟩ = some (.int .i64 (beg : Nat)) /\ True := fun V hV => by
   have hV' : Below W.heap.size W V := (Below.refl W.heap.size W).drew.trans hV
   exact ⟨(hV'.cell (p := ⟨w.heap.size + 1, 0, none⟩) (by show w.heap.size + 1 < _; omega)).trans h2.cell, (hV'.cell (p := ⟨w.heap.size, 0, none⟩) (by show w.heap.size < _; omega)).trans h1.cell, (hV'.cell (p := ⟨w.heap.size + 1 + 1, 0, none⟩) (by show w.heap.size + 1 + 1 < _; omega)).trans h3.cell, trivial⟩
  obtain ⟨pc, hpc⟩ : ∃ pc, pc = t.drop beg := ⟨_, rfl⟩
  have hpl : pc.length <= 60000 := by rw [hpc, List.length_drop]; omega
  rw [<- hpc] at e1
  obtain ⟨i0, hi, hz0, hz1, hz2⟩ := info_parts infoEd9
  refine region_rd8 _ W.drew (w.heap.size + 1) w.heap.size (w.heap.size + 1 + 1) (w.heap.size + 5) (.slice ua acc.length uc) (B t) beg (SaidV (w.heap.size + 5) pc) _ rfl rfl rfl rfl hS (by show w.heap.size + 5 <= W.heap.size; omega) (by rw [B_size]; exact e2.1) ?pm ?pf ?pC ?pQ
  case pm =>
   rintro v x y hb ⟨u, e, h⟩
   exact ⟨u, e, row_below h hb (Nat.le_refl _)⟩
  case pf =>
   rintro v w ⟨u, rfl, h⟩
   obtain ⟨A, c, rfl, _⟩ := own_slice h
   exact ⟨_, _, _, _, _, rfl⟩
  case pC =>
   intro V hV
   have hV' : Below W.heap.size W V := (Below.refl W.heap.size W).drew.trans hV
   rw [ext_B, show (t.drop beg).take ((B t).size - beg) = pc by rw [hpc, B_size, List.take_of_length_le (by rw [List.length_drop]; omega)]]
   refine (asaid_any pc hpl V (HT.out.below (h5.trans (hV'.mono h5.size)) (Nat.le_refl _))).mono ?_
   rintro e w2 ⟨v, rfl, ⟨u, e, h⟩, hb⟩
   exact ⟨v, rfl, ⟨u, e, rowBase h (by have := hV'.size; omega)⟩, hb⟩
  case pQ =>
  intro y0 y1 y2 y3 y4 y5 w2 hb2 hy0 hy5
  subst hy0
  obtain ⟨b9, u9, cs9, rfl, ⟨ux, rfl, hux⟩, hlo9, hcs, hcb⟩ := hy5
  injection hcs with hcs
  subst hcs
  have hB2 : Below W.heap.size W w2 := (Below.refl W.heap.size W).drew.trans hb2
  have hO2 : OwnE (w.heap.size + 5) w2 (.slice ua acc.length uc) acc fvs := by
   have h := h4.below hB2 (Nat.le_refl _)
   exact ⟨rowBase h.row (by omega), h.len, fun i ed fv q1 q2 => rowBase (h.each i ed fv q1 q2) (by omega)⟩
  obtain ⟨xa, xc, rfl, _⟩ := own_slice hux
  have HV : Hid (∀ (i : Nat) (u : Value), [Value.int .i64 (saidE pc).kind, .int .i64 (saidE pc).id, .slice xa (saidE pc).fields.length xc][i]? = some u -> w2.cell? ((⟨b9, 0, none⟩ : Addr).add i) = some u) := fun i u h => by
   have ea : (⟨b9, 0, none⟩ : Addr).add i = ⟨b9, i, none⟩ := by unfold Addr.add; split <;> simp_all
   rw [ea, hcb.cell i]; simpa using h
  have hK2 : w2.heap[w.heap.size + 4]? = some (Obj.deferred (some [])) := (hB2.block _ hkl).trans hK
  have hz2' := hB2.size
  have HR := Lib.hid hO2.row
  have HO2 := Lib.hid hO2
  have HUX := Lib.hid hux
  have HB2 := Lib.hid (h5.trans (hB2.mono h5.size))
  have hal : acc.length <= 50000 := by omega
  clear hcb hb2 hB2 hO2 hux h1 h2 h3 h4 h5 hS hpc hpl
  generalize hfl : (saidE pc).fields.length = fl at *
  simp only [List.foldl, List.setIfInBounds_toArray, List.set_cons_zero, List.set_cons_succ]
  go_wp2_with (at_builtin; refine wpList_append_at rfl _ _ 37 rfl (w.heap.size + 5) 40 i0 _ 3 40 Tryz.underlying37 hi hz0 hz1 hz2 rfl (by decide) _ _ _ rfl HR.out ⟨b9, 0, none⟩ 1 1 _ rfl rfl HV.out (by intro u hu; simp at hu; rcases hu with rfl | rfl | rfl <;> rfl) (by unfold maxLen; omega) (by omega) (by omega) ?_)
  intro ov' w3 own3 grow3 at3
  have hrow : ∀ r, (Value.slice ua acc.length uc).ownBlock = some r -> w.heap.size + 5 <= r := fun r e => (HR.out.lt r e).1
  have hK3 : w3.heap[w.heap.size + 4]? = some (Obj.deferred (some [])) := (grow3.block _ (by omega) (fun e => by have := hrow _ e.symm; omega)).trans hK2
  have OS := HO2.out.snoc (ed := saidE pc) (by rw [hfl]; exact HUX.out) own3 grow3
  rw [<- e1] at OS
  have B3 : Below w.heap.size w w3 := HB2.out.grown grow3 HB2.out.size (fun r e => by have := hrow r e; omega)
  have pb := grownBy_putObj' w3 (w.heap.size + 4) (.deferred none)
  have kb : Below w.heap.size w3 (w3.putObj (w.heap.size + 4) (.deferred none)) := belowK_b (w := w) (Nat.le_refl _) w3 _ _ _ (by omega) hK3 rfl rfl
  have FIN : Hid (OwnE w.heap.size (w3.putObj (w.heap.size + 4) (.deferred none)) ov' (readL t) (fvs ++ [.slice xa fl xc]) /\ Below w.heap.size w (w3.putObj (w.heap.size + 4) (.deferred none))) :=
   ⟨⟨rowBase (row_same OS.row fun b e => pb.block b (OS.row.lt b e).2 (fun q => by have := (OS.row.lt b e).1; have := Option.some.inj q; omega)) (by omega), OS.len, fun i ed fv q1 q2 => rowBase (row_same (OS.each i ed fv q1 q2) fun b e => pb.block b ((OS.each i ed fv q1 q2).lt b e).2 (fun q => by have := ((OS.each i ed fv q1 q2).lt b e).1; have := Option.some.inj q; omega)) (by omega)⟩, B3.trans kb⟩
  have hK4 := Lib.hid hK3
  obtain ⟨ova, ovc, rfl, _⟩ := own_slice own3
  clear own3 grow3 at3 hrow HO2 HUX HV OS B3 pb kb hK3 hK2 hK
  go_wp2_with fail
  change Code.wpIn _ _ _ _ _ _ _
  gi_wp2
  refine ⟨by simp, .inl ⟨_, _, rfl, run_takeDeferred hK4.out, ?_⟩⟩
  exact ⟨_, results_tmp rfl _ _ _, .slice ova (acc.length + 1) ovc, _, rfl, FIN.out.1, FIN.out.2⟩
 case stop =>
 intro c pre W _ h _
 exact h.elim
end Go.Proofs.YtbkeoiefolkjfaaGreatDoor
namespace Go.Proofs.YtbkeoiefolkjfaaGreatDoor
open Go.RowKit Go.Shelf
attribute [local go_sem] Oper.semAt_some
theorem unfold_fine (t : List UInt8) : Fine8 (unfoldF t) /\ ∀ f ∈ unfoldF t, f.1.length <= 32 /\ f.2.length <= 1000 := by
 unfold unfoldF
 cases h : parseL (dd [32, 32] ((linesOf t).map sees)).1 with
 | error e => exact ⟨⟨by simp, fun f hf => by cases hf⟩, fun f hf => by cases hf⟩
 | ok its =>
 obtain ⟨_, hil, hif⟩ := parse_join h
 have hcnt := parse_cnt h
 rw [<- recs_cnt] at hcnt
 have hrl := lenS_le (recs its) 40 (fun r hr => by
  unfold recs at hr
  obtain ⟨it, h1, rfl⟩ := List.mem_map.1 hr
  exact (hif it (List.mem_filter.1 h1).1).1)
 have each : ∀ f ∈ (recs its).flatten, f.1.length <= 32 /\ f.2.length <= 1000 := fun f hf => by
  obtain ⟨r, hr, hfr⟩ := List.mem_flatten.1 hf
  unfold recs at hr
  obtain ⟨it, h1, rfl⟩ := List.mem_map.1 hr
  obtain ⟨h2, h3⟩ := List.mem_filter.1 h1
  obtain ⟨_, _, h4⟩ := chkN_zero (parse_gk h it h2 (by simpa using h3))
  obtain ⟨h5, h6⟩ := foldN_good _ h4 f hfr
  exact ⟨goodKey_len h5, h6⟩
 refine ⟨⟨?_, fun f hf => ?_⟩, each⟩
 ·show ((recs its).flatten).length <= _
  rw [flatten_len]; omega
 have := each f hf; omega
theorem read_fines (t : List UInt8) : Fines8 (readL t) := by
 intro ed hed
 obtain ⟨p, _, rfl⟩ := List.mem_map.1 hed
 exact (unfold_fine _).1
theorem read_len (t : List UInt8) : (readL t).length <= t.length + 1 := by
 rw [readL_eq, List.length_append]
 have := (readS_end t).2
 simp only [List.length_cons, List.length_nil]; omega
def DecR (w w' : World) (t : List UInt8) (e : Ending) : Prop :=
 Below w.heap.size w w' /\ ((decL t = none /\ e = .returned (.tuple #[.slice none 0 0, .iface 57 (.int .i64 2)])) \/ ∃ eds u fvs, decL t = some eds /\ e = .returned (.tuple #[u, .nilIface]) /\ OwnE w.heap.size w' u eds fvs)
theorem decode_any (t : List UInt8) (ht : t.length <= maxLen) (w : World) (hT : Tabs w) :
  Calls Tryz.prog 29 #[.string (B t)] w fun e w' => DecR w w' t e := by
 have bs := B_size t
 by_cases hl : ¬ t.length <= 50000
 ·have NO : Hid (DecR w w t (.returned (.tuple #[.slice none 0 0, .iface 57 (.int .i64 2)]))) := ⟨Below.refl _ _, .inl ⟨by unfold decL; rw [if_neg (fun h => hl h.1)], rfl⟩⟩
  have q : ¬ ((B t).size : Int) <= 50000 := by omega
  generalize B t = s at *
  go_enter Tryz.func29, Tryz.ntmps29
  go_wp2_with fail
  go_ret2
  exact NO.out
 replace hl := Classical.not_not.1 hl
 have RD := Lib.hid (read_any t hl w hT)
 have q : ((B t).size : Int) <= 50000 := by omega
 have hrl := read_len t
 have RF := Lib.hid (read_fines t)
 have RI := Lib.hid (read_I64 t)
 have HT := Lib.hid hT
 have YES : Hid (∀ W u fvs, OwnE w.heap.size W u (readL t) fvs -> Below w.heap.size w W -> (chkB (readL t)).2 = 0 -> batchT (readL t) = t -> DecR w W t (.returned (.tuple #[u, .nilIface]))) := fun W u fvs ho hb h1 h2 =>
  ⟨hb, .inr ⟨readL t, u, fvs, by unfold decL; rw [if_pos ⟨hl, h1, h2⟩], rfl, ho⟩⟩
 have NO : Hid (∀ W, Below w.heap.size w W -> ¬ ((chkB (readL t)).2 = 0 /\ batchT (readL t) = t) -> DecR w W t (.returned (.tuple #[.slice none 0 0, .iface 57 (.int .i64 2)]))) := fun W hb h =>
  ⟨hb, .inl ⟨by unfold decL; rw [if_neg (fun h2 => h h2.2)], rfl⟩⟩
 clear hT ht bs
 generalize readL t = eds at *
 go_enter Tryz.func29, Tryz.ntmps29
 go_wp2_with fail
 refine RD.out.mono ?_
 rintro e w1 ⟨u, fvs, rfl, ho, b1⟩
 have EN := Lib.hid (encode_any eds u w1 ho.edv (by omega) RF.out RI.out (HT.out.below b1 (Nat.le_refl _)))
 have HO := Lib.hid ho
 have B1 := Lib.hid b1
 obtain ⟨ua, uc, rfl, _⟩ := own_slice ho.row
 clear RD ho b1
 go_wp2_with fail
 refine EN.out.mono ?_
 rintro e w2 ⟨b2, ⟨h0, rfl⟩ | ⟨h0, u', rfl, hz⟩⟩
 ·have B2 := Lib.hid (B1.out.trans (b2.mono B1.out.size))
  have Z0 := Lib.hid h0
  have E2 := bsameA (batchT eds) t
  by_cases hq : batchT eds = t
  ·have E3 : ((B (batchT eds)).toList == (B t).toList) = true := by rw [E2]; exact decide_eq_true hq
   have Y := Lib.hid (YES.out w2 _ fvs (HO.out.below b2 (Nat.le_refl _)) B2.out Z0.out hq)
   clear EN YES NO b2 h0 HO E2 hq
   generalize B (batchT eds) = own at *
   go_wp2_with fail
   go_ret2
   exact Y.out
  have E3 : ((B (batchT eds)).toList == (B t).toList) = false := by rw [E2]; exact decide_eq_false hq
  have E4 : ¬ (B (batchT eds)).toList = (B t).toList := by simpa using E3
  have Y := Lib.hid (NO.out w2 B2.out (fun h => hq h.2))
  clear EN YES NO b2 h0 HO E2 hq
  generalize B (batchT eds) = own at *
  go_wp2_with fail
  go_ret2
  exact Y.out
 have B2 := Lib.hid (B1.out.trans (b2.mono B1.out.size))
 have Y := Lib.hid (NO.out w2 B2.out (fun h => h0 h.1))
 obtain ⟨_, ⟨rfl, hx⟩ | ⟨kk, ⟨q, _, rfl, _⟩, _, _⟩⟩ := hz
 ·have hpos : 0 < (chkB eds).2 := Nat.pos_of_ne_zero h0
  rw [errV_pos _ hpos]
  clear EN YES NO b2 h0 HO hx hpos
  generalize ((chkB eds).2 : Int) = zz at *
  go_wp2_with fail
  go_ret2
  exact Y.out
 clear EN YES NO b2 h0 HO
 go_wp2_with fail
 go_ret2
 exact Y.out
end Go.Proofs.YtbkeoiefolkjfaaGreatDoor
namespace Go.Proofs.YtbkeoiefolkjfaaGreatDoor.Bk
open Go.RowKit Go.Shelf
attribute [local go_sem] Oper.semAt_some
structure TabB (w : World) : Prop where
 tabs : Tabs w
 max : Hd.MaxL w
theorem TabB.below {w w' : World} {N : Nat} (h : TabB w) (hb : Below N w w') (hN : w.heap.size <= N) : TabB w' := ⟨h.tabs.below hb hN, h.max.below hb hN⟩
theorem TabB.nums {w : World} (h : TabB w) : Fr.TabsN w := ⟨h.tabs.pow, h.tabs.syn, h.tabs.ran⟩
theorem TabB.tab {w : World} (h : TabB w) : Hd.Tab w := ⟨h.nums, h.max⟩
def Dc (b : List UInt8) : Bool := (decL b).isSome
def edsOf (b : List UInt8) : List Ed := (decL b).getD []
def encN (n : Nat) : Value := .int .i64 (n : Int)
def bookV (n : Nat) (base : List UInt8) (bv ev : Value) (tail : List UInt8) : Value := .agg #[.int .i64 (n : Int), .string (B base), bv, ev, .string (B tail)]
theorem ownE_beside {lo lo' n sz : Nat} {w w' : World} {v u : Value} {eds : List Ed} {fvs xs : List Value} {t : TypeId} (h : OwnE lo w v eds fvs) (hu : w.ownsRow lo' t sz u n xs) (t1 : t ≠ 40) (t2 : t ≠ 83) (o : Only (fun r => u.ownBlock = some r) w w') : OwnE lo w' v eds fvs :=
 ⟨row_only h.row o (fun b e q => own_own_ne hu h.row t1 b q e), h.len, fun i ed fv h1 h2 => row_only (h.each i ed fv h1 h2) o (fun b e q => own_own_ne hu (h.each i ed fv h1 h2) t2 b q e)⟩
theorem ownE_box {lo : Nat} {w w' : World} {v : Value} {eds : List Ed} {fvs : List Value} {t : TypeId} {b : Nat} {cur : Array Value} (h : OwnE lo w v eds fvs) (hc : Cells w b t cur) (t1 : 40 ≠ t) (t2 : 83 ≠ t) (o : Only (· = b) w w') : OwnE lo w' v eds fvs :=
 ⟨row_only h.row o (fun r e q => own_cells_ne h.row hc t1 (by rw [e, q])), h.len, fun i ed fv h1 h2 => row_only (h.each i ed fv h1 h2) o (fun r e q => own_cells_ne (h.each i ed fv h1 h2) hc t2 (by rw [e, q]))⟩
structure BatR (lo : Nat) (w : World) (bv : Value) (bds : List (List UInt8)) (us : List Value) : Prop where
 row : w.ownsRow lo 37 1 bv bds.length us
 each : ∀ (i : Nat) b u, bds[i]? = some b -> us[i]? = some u -> ∃ fvs, OwnE lo w u (edsOf b) fvs
theorem BatR.len {lo : Nat} {w : World} {bv : Value} {bds : List (List UInt8)} {us : List Value} (h : BatR lo w bv bds us) : us.length = bds.length := by have := h.row.1; omega
theorem BatR.below {lo : Nat} {w w' : World} {bv : Value} {bds : List (List UInt8)} {us : List Value} (h : BatR lo w bv bds us) (hb : Below w.heap.size w w') : BatR lo w' bv bds us :=
 ⟨row_below h.row hb (Nat.le_refl _), fun i b u h1 h2 => by
  obtain ⟨fvs, ho⟩ := h.each i b u h1 h2
  exact ⟨fvs, ho.below hb (Nat.le_refl _)⟩⟩
theorem BatR.nil (lo : Nat) (w : World) : BatR lo w (.slice none 0 0) [] [] := ⟨⟨rfl, .inl ⟨rfl, rfl⟩⟩, fun i b u h1 h2 => by simp at h1⟩
theorem BatR.box {lo : Nat} {w w' : World} {bv : Value} {bds : List (List UInt8)} {us : List Value} {t : TypeId} {b : Nat} {cur : Array Value} (h : BatR lo w bv bds us) (hc : Cells w b t cur) (t0 : 37 ≠ t) (t1 : 40 ≠ t) (t2 : 83 ≠ t) (o : Only (· = b) w w') : BatR lo w' bv bds us :=
 ⟨row_only h.row o (fun r e q => own_cells_ne h.row hc t0 (by rw [e, q])), fun i x u h1 h2 => by
  obtain ⟨fvs, ho⟩ := h.each i x u h1 h2
  exact ⟨fvs, ownE_box ho hc t1 t2 o⟩⟩
theorem BatR.beside {lo lo' n sz : Nat} {w w' : World} {bv u : Value} {bds : List (List UInt8)} {us xs : List Value} {t : TypeId} (h : BatR lo w bv bds us) (hu : w.ownsRow lo' t sz u n xs) (t0 : t ≠ 37) (t1 : t ≠ 40) (t2 : t ≠ 83) (o : Only (fun r => u.ownBlock = some r) w w') : BatR lo w' bv bds us :=
 ⟨row_only h.row o (fun b e q => own_own_ne hu h.row t0 b q e), fun i x v h1 h2 => by
  obtain ⟨fvs, ho⟩ := h.each i x v h1 h2
  exact ⟨fvs, ownE_beside ho hu t1 t2 o⟩⟩
theorem BatR.snoc {lo : Nat} {w w' : World} {bv bv' u : Value} {bds : List (List UInt8)} {us : List Value} {b : List UInt8} {fvs : List Value} (h : BatR lo w bv bds us) (hO : OwnE lo w u (edsOf b) fvs) (own : w'.ownsRow lo 37 1 bv' (bds.length + 1) (us ++ [u])) (o : Only (fun r => bv.ownBlock = some r) w w') : BatR lo w' bv' (bds ++ [b]) (us ++ [u]) := by
 refine ⟨by rw [List.length_append]; exact own, fun i x v h1 h2 => ?_⟩
 rw [List.getElem?_append] at h1 h2
 rw [h.len] at h2
 split at h1
 ·rename_i hi
  rw [if_pos hi] at h2
  obtain ⟨f, ho⟩ := h.each i x v h1 h2
  exact ⟨f, ownE_beside ho h.row (by decide) (by decide) o⟩
 rename_i hi
 rw [if_neg hi] at h2
 rw [List.getElem?_singleton] at h1 h2
 split at h1
 ·rename_i hz
  rw [if_pos hz] at h2
  obtain rfl := Option.some.inj h1
  obtain rfl := Option.some.inj h2
  exact ⟨fvs, ownE_beside hO h.row (by decide) (by decide) o⟩
 cases h1
structure BookR (lo : Nat) (w : World) (v : Value) (n : Nat) (base : List UInt8) (bds : List (List UInt8)) (tail : List UInt8) : Prop where
 is : ∃ bv ev us, v = bookV n base bv ev tail /\ BatR lo w bv bds us /\ w.ownsRow lo 3 1 ev bds.length ((endsFrom (hl n + base.length) bds).map encN)
theorem BookR.below {lo : Nat} {w w' : World} {v : Value} {n : Nat} {base tail : List UInt8} {bds : List (List UInt8)} (h : BookR lo w v n base bds tail) (hb : Below w.heap.size w w') : BookR lo w' v n base bds tail := by
 obtain ⟨bv, ev, us, h1, h2, h3⟩ := h.is
 exact ⟨bv, ev, us, h1, h2.below hb, row_below h3 hb (Nat.le_refl _)⟩
theorem hl_lenP (n : Nat) : Hd.lenP n = hl n := rfl
theorem whole_any {lo : Nat} {w : World} {v : Value} {n : Nat} {base tail : List UInt8} {bds : List (List UInt8)} (h : BookR lo w v n base bds tail) (hs : wholeN n base bds <= 1000000) (ht : TabB w) :
  Calls Tryz.prog 15 #[v] w fun e w' => e = .returned (.int .i64 (wholeN n base bds : Nat)) /\ Below w.heap.size w w' := by
 obtain ⟨bv, ev, us, rfl, hB, hE⟩ := h.is
 obtain ⟨ba, bc, rfl, _⟩ := own_slice hB.row
 have hEE := hE
 obtain ⟨ea, ec, rfl, hele⟩ := own_slice hE
 obtain ⟨w1, hw1⟩ : ∃ z, w.alloc (.cells #[.int .i64 (n : Int), .string (B base), .slice ba bds.length bc, .slice ea bds.length ec, .string (B tail)] 26) = z := ⟨_, rfl⟩
 have hb1 : Below w.heap.size w w1 := by rw [<- hw1]; exact (Below.refl _ w).alloc (Nat.le_refl _) _
 have C1 : Cells w1 w.heap.size 26 #[.int .i64 (n : Int), .string (B base), .slice ba bds.length bc, .slice ea bds.length ec, .string (B tail)] := by rw [<- hw1]; exact Cells.new _ _ _
 have hE1 := row_below hE hb1 (Nat.le_refl _)
 have hsz : (B base).size = base.length := B_size base
 have hwh : wholeN n base bds = hl n + base.length + (bds.flatMap Fr.fullR).length := rfl
 have HB1 := Lib.hid hb1
 have HW1 := Lib.hid hw1
 unfold bookV
 by_cases h0 : bds.length = 0
 ·have hbn : bds = [] := List.length_eq_zero_iff.1 h0
  subst hbn
  have hq : hl n + base.length <= 1000000 := by simpa [wholeN] using hs
  have hwq : wholeN n base [] = hl n + base.length := by simp [wholeN]
  rw [hwq]
  have HVAL : Hid (Value.int .i64 (IntKind.i64.wrap (((hl n : Nat) : Int) + ((B base).size : Int))) = .int .i64 ((hl n + base.length : Nat) : Int)) := by
   show _ = _
   rw [hsz]
   congr 1
   rw [IntWalk.i64_in _ (by omega)]
   omega
  have LEN : Hid (∀ W, Below w1.heap.size w1 W -> Calls Tryz.prog 36 #[.int .i64 (n : Int)] W fun e w' => e = .returned (.int .i64 (hl n : Nat)) /\ Below W.heap.size W w') := fun W hW => Hd.lenP_call n W ((ht.below hb1 (Nat.le_refl _)).below hW (Nat.le_refl _)).tab
  have DR : Hid (Below w1.heap.size w1 w1.drew) := (Below.refl _ _).drew
  have HC := Lib.hid C1
  have k0 := C1.cell 0
  have k1 := C1.cell 1
  have k3 := C1.cell 3
  simp only [List.getElem?_toArray, List.getElem?_cons_zero, List.getElem?_cons_succ] at k0 k1 k3
  have e0 : ([] : List (List UInt8)).length = 0 := rfl
  simp only [e0] at *
  rw [<- hw1] at k3
  clear h hB hE hEE hE1 ht hb1 C1 hw1 hwh hwq h0
  go_enter Tryz.func15, Tryz.ntmps15
  go_wp2_with fail
  rw [HW1.out]
  go_region_law (go_simp; go_at_call 36; refine (LEN.out _ DR.out).mono ?_; rintro e w5 ⟨rfl, hb5⟩; have kk := cells_kept HC.out (DR.out.trans hb5) HC.out.lt; have t1 := kk.cell 1; simp only [List.getElem?_toArray, List.getElem?_cons_zero, List.getElem?_cons_succ] at t1; have HB5 := Lib.hid (DR.out.trans hb5); clear hb5 kk)
  all_goals go_wp2_with fail
  all_goals
   go_ret
   exact ⟨congrArg Ending.returned HVAL.out, HB1.out.trans (HB5.out.mono HB1.out.size)⟩
 have hne : bds ≠ [] := fun e => h0 (by rw [e]; rfl)
 obtain ⟨g, cap, hug⟩ := Joins.ownsRow_form hE1 (by omega)
 have hlast := endsFrom_last (hl n + base.length) bds hne
 have hcell : ∃ g, ea = some ⟨g, 0, none⟩ /\ w1.cell? ⟨g, bds.length - 1, none⟩ = some (.int .i64 (wholeN n base bds : Nat)) := by
  have hrow := hE1
  rw [hug] at hrow
  cases hug
  refine ⟨g, rfl, ?_⟩
  rw [World.ownsRow.cellAt hrow (bds.length - 1) (by omega), List.getElem?_map, hlast]
  rfl
 obtain ⟨g', rfl, hc⟩ := hcell
 have hpos : (0 : Int) < (bds.length : Int) := by omega
 have hbl : bds.length <= 1000000 := by have := bds_len bds; omega
 have hcast : ((bds.length : Int) - 1) = ((bds.length - 1 : Nat) : Int) := by omega
 have hwr : IntKind.i64.wrap ((bds.length : Int) - 1) = ((bds.length - 1 : Nat) : Int) := by rw [hcast]; exact IntWalk.i64_in _ (by omega)
 have hin : ((bds.length - 1 : Nat) : Int) < (bds.length : Int) := by omega
 have k3 := C1.cell 3
 simp only [List.getElem?_toArray, List.getElem?_cons_zero, List.getElem?_cons_succ] at k3
 rw [<- hw1] at k3 hc
 generalize wholeN n base bds = W at *
 generalize bds.length - 1 = j at *
 generalize bds.length = m at *
 clear h hB hE hEE hE1 ht hb1 C1 hw1 hwh hlast hcast
 go_enter Tryz.func15, Tryz.ntmps15
 go_wp2_with fail
 go_ret
 exact ⟨rfl, by rw [HW1.out]; exact HB1.out⟩
theorem size_any {lo : Nat} {w : World} {v : Value} {n : Nat} {base tail : List UInt8} {bds : List (List UInt8)} (h : BookR lo w v n base bds tail) (hs : wholeN n base bds + tail.length <= 1000000) (ht : TabB w) :
  Calls Tryz.prog 14 #[v] w fun e w' => e = .returned (.int .i64 (wholeN n base bds + tail.length : Nat)) /\ Below w.heap.size w w' := by
 obtain ⟨bv, ev, us, hv, hB, hE⟩ := h.is
 obtain ⟨ba, bc, rfl, _⟩ := own_slice hB.row
 obtain ⟨ea, ec, rfl, hele⟩ := own_slice hE
 unfold bookV at hv
 obtain ⟨w1, hw1⟩ : ∃ z, w.alloc (.cells #[.int .i64 (n : Int), .string (B base), .slice ba bds.length bc, .slice ea bds.length ec, .string (B tail)] 26) = z := ⟨_, rfl⟩
 have hb1 : Below w.heap.size w w1 := by rw [<- hw1]; exact (Below.refl _ w).alloc (Nat.le_refl _) _
 have C1 : Cells w1 w.heap.size 26 #[.int .i64 (n : Int), .string (B base), .slice ba bds.length bc, .slice ea bds.length ec, .string (B tail)] := by rw [<- hw1]; exact Cells.new _ _ _
 have hsz : (B tail).size = tail.length := B_size tail
 have WH : Hid (∀ W, Below w1.heap.size w1 W -> Calls Tryz.prog 15 #[.agg #[.int .i64 (n : Int), .string (B base), .slice ba bds.length bc, .slice ea bds.length ec, .string (B tail)]] W fun e w' => e = .returned (.int .i64 (wholeN n base bds : Nat)) /\ Below W.heap.size W w') := fun W hW => by
  have h9 := whole_any ((h.below hb1).below hW) (by omega) ((ht.below hb1 (Nat.le_refl _)).below hW (Nat.le_refl _))
  rw [hv] at h9
  exact h9
 have HVAL : Hid (Value.int .i64 (IntKind.i64.wrap (((wholeN n base bds : Nat) : Int) + ((B tail).size : Int))) = .int .i64 ((wholeN n base bds + tail.length : Nat) : Int)) := by
  show _ = _
  rw [hsz]
  congr 1
  rw [IntWalk.i64_in _ (by omega)]
  omega
 subst hv
 have DR : Hid (Below w1.heap.size w1 w1.drew) := (Below.refl _ _).drew
 have HC := Lib.hid C1
 have k0 := C1.cell 0
 have k1 := C1.cell 1
 have k2 := C1.cell 2
 have k3 := C1.cell 3
 have k4 := C1.cell 4
 simp only [List.getElem?_toArray, List.getElem?_cons_zero, List.getElem?_cons_succ] at k0 k1 k2 k3 k4
 have HB1 := Lib.hid hb1
 have HW1 := Lib.hid hw1
 clear h hB hE ht hb1 C1 hw1
 generalize wholeN n base bds = W at *
 go_enter Tryz.func14, Tryz.ntmps14
 go_wp2_with fail
 rw [HW1.out]
 go_region_law (go_simp; go_at_call 15; refine (WH.out _ DR.out).mono ?_; rintro e w5 ⟨rfl, hb5⟩; have kk := cells_kept HC.out (DR.out.trans hb5) HC.out.lt; have t4 := kk.cell 4; simp only [List.getElem?_toArray, List.getElem?_cons_zero, List.getElem?_cons_succ] at t4; have HB5 := Lib.hid (DR.out.trans hb5); clear hb5 kk)
 all_goals go_wp2_with fail
 all_goals
  go_ret
  exact ⟨congrArg Ending.returned HVAL.out, HB1.out.trans (HB5.out.mono HB1.out.size)⟩
end Go.Proofs.YtbkeoiefolkjfaaGreatDoor.Bk
