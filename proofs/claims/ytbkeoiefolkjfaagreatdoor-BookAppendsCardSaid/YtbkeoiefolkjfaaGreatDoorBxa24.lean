/- Texts put together: QG, QH, SG. -/
import Derived.BigRegion
import Derived.Deep.DeepCutAuto
import Derived.Test.YtbkeoiefolkjfaaGreatDoorBxa13
import Derived.Test.YtbkeoiefolkjfaaGreatDoorBxa15
import Derived.Test.YtbkeoiefolkjfaaGreatDoorBxa21
import Derived.Test.YtbkeoiefolkjfaaGreatDoorBxa23
set_option linter.unusedVariables false
set_option maxRecDepth 100000
set_option maxHeartbeats 16000000
namespace Go.Proofs.YtbkeoiefolkjfaaGreatDoor
open Go.RowKit Go.Shelf
theorem infoInt : (Tryz.prog.info? 3).map (fun i => (i.zero, i.size, i.bytes)) = some (some (.int .i64 0), 1, 8) := by kernel_rfl
theorem kindCells_snoc (xs : List Ln) (x : Ln) : kindCells (xs ++ [x]) = kindCells xs ++ [.int .i64 (kindL x.text : Nat)] := by unfold kindCells; simp
theorem linesOf_no {t : List UInt8} {xs : List Ln} (h : linesOf t = xs) {k : Nat} {x : Ln} (hx : xs[k]? = some x) : x.no = k := by
 have hlt : k < xs.length := by
  rcases Nat.lt_or_ge k xs.length with q | q
  ·exact q
  rw [List.getElem?_eq_none q] at hx; cases hx
 have e := List.drop_eq_getElem_cons hlt
 rw [List.getElem?_eq_getElem hlt] at hx
 rw [Option.some.inj hx] at e
 have := (linesOf_at t (xs.take k) x (xs.drop (k + 1)) (by rw [h, <- e, List.take_append_drop])).1
 rw [this, List.length_take]; omega
theorem more_sum : ∀ (ys : List Ln), (∀ y ∈ ys, 1 <= y.bytes.length) -> ((more ys).map List.length).sum <= (ys.flatMap Ln.bytes).length /\ (more ys).length <= (ys.flatMap Ln.bytes).length
 | [], _ => ⟨Nat.le_refl _, Nat.le_refl _⟩
 | y :: ys, h => by
  obtain ⟨i1, i2⟩ := more_sum ys (fun z hz => h z (List.mem_cons_of_mem _ hz))
  have h1 := h y List.mem_cons_self
  have h2 : y.text.length <= y.bytes.length := by unfold Ln.bytes; simp
  rw [List.flatMap_cons, List.length_append]
  unfold more
  split
  ·simp only [List.map_cons, List.sum_cons, List.length_cons]; omega
  simp
theorem line_sum {x : Ln} {xs : List Ln} (h : ∀ y ∈ x :: xs, 1 <= y.bytes.length) : ((x.text :: more xs).map List.length).sum <= ((x :: xs).flatMap Ln.bytes).length /\ (x.text :: more xs).length <= ((x :: xs).flatMap Ln.bytes).length := by
 obtain ⟨i1, i2⟩ := more_sum xs (fun z hz => h z (List.mem_cons_of_mem _ hz))
 have h1 := h x List.mem_cons_self
 have h2 : x.text.length <= x.bytes.length := by unfold Ln.bytes; simp
 rw [List.flatMap_cons, List.length_append]
 simp only [List.map_cons, List.sum_cons, List.length_cons]; omega
def Fresh (lo : Nat) (w : World) (v : Value) (its : List It) : Prop :=
 ∃ fvs, w.ownsRow lo 117 3 v its.length (itemsCells its fvs) /\ fvs.length = its.length /\ ∀ (j : Nat) it x, its[j]? = some it -> fvs[j]? = some x -> w.ownsRow lo 83 2 x it.fields.length (cellsF it.fields)
theorem AccM.fresh {lo : Nat} {w wr : World} {v : Value} {fvs : List Value} {its : List It} (h : AccM w wr v fvs its) (hl : lo <= w.heap.size) : Fresh lo wr v its :=
 ⟨fvs, rowBase h.row hl, h.len, fun j it x h1 h2 => rowBase (h.each j it x h1 h2) hl⟩
def RefParsed (w : World) (t : List UInt8) (e : Ending) (w' : World) : Prop :=
 Below w.heap.size w w' /\ match refParseL t with
  | .error (a, n) => e = .returned (.tuple #[.slice none 0 0, .int .i64 (a : Nat), .int .i64 (n : Nat)])
  | .ok its => ∃ v, e = .returned (.tuple #[v, .int .i64 (-9), .int .i64 0]) /\ Its w' v its /\ Fresh w.heap.size w' v its
theorem RefParsed.no {w w' : World} {t : List UInt8} {a n : Nat} (h : refParseL t = .error (a, n)) (hb : Below w.heap.size w w') : RefParsed w t (.returned (.tuple #[.slice none 0 0, .int .i64 (a : Nat), .int .i64 (n : Nat)])) w' := ⟨hb, by rw [h]⟩
theorem RefParsed.yes {w w' : World} {t : List UInt8} {v : Value} {its : List It} (h : refParseL t = .ok its) (hb : Below w.heap.size w w') (hi : Its w' v its) (hf : Fresh w.heap.size w' v its) : RefParsed w t (.returned (.tuple #[v, .int .i64 (-9), .int .i64 0])) w' := ⟨hb, by rw [h]; exact ⟨v, rfl, hi, hf⟩⟩
structure RefV (w wr : World) (nb : Nat) (s : RS) (u fv : Value) (fvs : List Value) : Prop where
 acc : AccM w wr u fvs s.out
 box : Cells wr nb 117 #[.int .i64 s.kind, .string (B s.raw), fv]
 low : w.heap.size <= nb
 flds : wr.ownsRow w.heap.size 83 2 fv s.fields.length (cellsF s.fields)
 apart : u.ownBlock ≠ some nb
theorem RefV.kept {w wr w2 : World} {nb : Nat} {s : RS} {u fv : Value} {fvs : List Value} (h : RefV w wr nb s u fv fvs) (hb : Below wr.heap.size wr w2) : RefV w w2 nb s u fv fvs :=
 ⟨h.acc.kept hb, cells_kept h.box hb h.box.lt, h.low, own_kept h.flds hb (Nat.le_refl _), h.apart⟩
theorem ne73 {w : World} {lo m nb : Nat} {x : Value} {ys : List Value} {cur : Array Value} (hx : w.ownsRow lo 83 2 x m ys) (hb : Cells w nb 117 cur) : x.ownBlock ≠ some nb := by
 intro e
 rcases hx.2 with ⟨rfl, _⟩ | ⟨g, cap, c, rfl, _, hc, _⟩
 ·cases e
 have : g = nb := Option.some.inj e
 subst this
 have hb' : w.heap[g]? = some (.cells cur 117 (0, 0)) := hb
 rw [hc] at hb'
 injection hb' with hb'
 injection hb' with _ h2 _
 exact absurd h2 (by decide)
theorem RefV.set {w wr : World} {nb : Nat} {s s' : RS} {u fv : Value} {fvs : List Value} (h : RefV w wr nb s u fv fvs) (i : Nat) (v : Value) (hc : #[.int .i64 s.kind, .string (B s.raw), fv].setIfInBounds i v = #[.int .i64 s'.kind, .string (B s'.raw), fv]) (ho : s'.out = s.out) (hf : s'.fields = s.fields) : RefV w (wr.setCell ⟨nb, i, none⟩ v) nb s' u fv fvs := by
 refine ⟨⟨?_, ?_, fun j it x h1 h2 => ?_, h.acc.below.setCell (p := ⟨nb, i, none⟩) h.low v⟩, ?_, h.low, ?_, h.apart⟩
 ·rw [ho]; exact row_cell (p := ⟨nb, i, none⟩) h.acc.row h.apart v
 ·rw [ho]; exact h.acc.len
 ·rw [ho] at h1
  exact row_cell (p := ⟨nb, i, none⟩) (h.acc.each j it x h1 h2) (ne73 (h.acc.each j it x h1 h2) h.box) v
 ·rw [<- hc]; exact h.box.set i v
 rw [hf]; exact row_cell (p := ⟨nb, i, none⟩) h.flds (ne73 h.flds h.box) v
theorem cell_set_ne {w : World} {b nb : Nat} (h : b ≠ nb) (o i : Nat) {v : Value} : (w.setCell ⟨nb, i, none⟩ v).cell? ⟨b, o, none⟩ = w.cell? ⟨b, o, none⟩ :=
 World.cell?_of_block (a := ⟨b, o, none⟩) (Below.heap_setCell _ _ _ _ h)
theorem RefV.drew {w wr : World} {nb : Nat} {s : RS} {u fv : Value} {fvs : List Value} (h : RefV w wr nb s u fv fvs) : RefV w wr.drew nb s u fv fvs := h.kept ((Below.refl _ _).drew)
theorem RefV.put {w W w3 : World} {nb : Nat} {s : RS} {u v' fv x : Value} {fvs : List Value} {it : It} (h : RefV w W nb s u fv fvs) (hx : W.ownsRow w.heap.size 83 2 x it.fields.length (cellsF it.fields)) (ho : w3.ownsRow w.heap.size 117 3 v' (s.out.length + 1) (itemsCells s.out fvs ++ [.int .i64 it.kind, .string (B it.raw), x])) (o : Obj) (hg : (W.alloc o).grownBy w3 u.ownBlock) (hat : v'.ownBlock = u.ownBlock \/ v'.ownBlock = some (W.heap.size + 1)) : RefV w w3 nb { s with out := s.out ++ [it] } v' fv (fvs ++ [x]) := by
 have hb := (Below.refl W.heap.size W).alloc (Nat.le_refl _) o
 have hl := h.box.lt
 refine ⟨h.acc.snoc hx ho o hg, ?_, h.low, ?_, ?_⟩
 ·exact (hg.block nb (by simp; omega) (fun e => h.apart e.symm)).trans (cells_kept h.box hb hl)
 ·exact row42 (own_kept h.acc.row hb (Nat.le_refl _)) (own_kept h.flds hb (Nat.le_refl _)) hg
 intro e
 rcases hat with q | q
 ·exact h.apart (q.symm.trans e)
 rw [q] at e
 have := Option.some.inj e
 omega
theorem RefV.setF {w wr : World} {nb : Nat} {s s' : RS} {u fv fv' : Value} {fvs : List Value} (h : RefV w wr nb s u fv fvs) (hk : s'.kind = s.kind) (hr : s'.raw = s.raw) (ho : s'.out = s.out) (hf : wr.ownsRow w.heap.size 83 2 fv' s'.fields.length (cellsF s'.fields)) : RefV w (wr.setCell ⟨nb, 2, none⟩ fv') nb s' u fv' fvs := by
 refine ⟨⟨?_, ?_, fun j it x h1 h2 => ?_, h.acc.below.setCell (p := ⟨nb, 2, none⟩) h.low _⟩, ?_, h.low, ?_, h.apart⟩
 ·rw [ho]; exact row_cell (p := ⟨nb, 2, none⟩) h.acc.row h.apart _
 ·rw [ho]; exact h.acc.len
 ·rw [ho] at h1
  exact row_cell (p := ⟨nb, 2, none⟩) (h.acc.each j it x h1 h2) (ne73 (h.acc.each j it x h1 h2) h.box) _
 ·have := h.box.set 2 fv'
  rw [hk, hr]; simpa using this
 exact row_cell (p := ⟨nb, 2, none⟩) hf (ne73 hf h.box) _
theorem RefV.fresh {w wr : World} {nb : Nat} {s s' : RS} {u fv : Value} {fvs : List Value} (h : RefV w wr nb s u fv fvs) (hk : s'.kind = 2) (hr : s'.raw = []) (ho : s'.out = s.out) (hf : s'.fields = []) : RefV w (((wr.setCell ⟨nb, 0, none⟩ (.int .i64 2)).setCell ⟨nb, 1, none⟩ (.string ⟨#[]⟩)).setCell ⟨nb, 2, none⟩ (.slice none 0 0)) nb s' u (.slice none 0 0) fvs := by
 have h1 := h.set (s' := { s with kind := 2 }) 0 (.int .i64 2) rfl rfl rfl
 have h2 := h1.set (s' := { s with kind := 2, raw := [] }) 1 (.string ⟨#[]⟩) rfl rfl rfl
 refine h2.setF hk hr ho ?_
 rw [hf]; exact ⟨rfl, .inl ⟨rfl, rfl⟩⟩
theorem refParse_any (s : ByteArray) (hs : s.size <= 60000) (w : World) :
  Calls Tryz.prog 33 #[.string s] w fun e w' => RefParsed w s.data.toList e w' := by
 obtain ⟨xs, hxs⟩ : ∃ xs, linesOf s.data.toList = xs := ⟨_, rfl⟩
 have hll := linesOf_length s.data.toList
 rw [<- Lib.size_eq, hxs] at hll
 have hj : (xs.flatMap Ln.bytes).length = s.size := by rw [<- hxs, linesOf_join, <- Lib.size_eq]
 have HXS := Lib.hid hxs
 have SPL := Lib.hid (refSplit_any s (by omega) w)
 rw [hxs] at SPL
 have HJ := Lib.hid hj
 obtain ⟨i0, hi, hz0, hz1, hz2⟩ := info_parts infoInt
 clear hxs hj
 go_enter Tryz.func33, Tryz.ntmps33
 go_wp2_with fail
 refine SPL.out.mono ?_
 rintro e w1 ⟨lv, rfl, hlr, b1⟩
 obtain ⟨la, lc, hle, _⟩ := own_slice hlr
 subst hle
 have LRq := Lib.hid (lns_of_own hlr)
 have hz1' := b1.size
 clear hlr SPL
 go_wp2_with fail
 go_loopw [6, 7] (fun u i wr => ∃ k : Nat, k <= xs.length /\ i = .int .i64 k /\ wr.ownsRow w1.heap.size 3 1 u k (kindCells (xs.take k)) /\ Below w1.heap.size w1 wr) (fun _ i _ => xs.length - (intOf i).toNat)
 case atStart => exact ⟨0, Nat.zero_le _, rfl, ⟨rfl, .inl ⟨rfl, rfl⟩⟩, Below.refl _ _⟩
 case round =>
 obtain ⟨k, hk, rfl, hown, hb⟩ := hrel
 have hzb := hb.size
 by_cases hlt : k < xs.length
 ·obtain ⟨x, hx⟩ : ∃ x, xs[k]? = some x := ⟨_, List.getElem?_eq_getElem hlt⟩
  obtain ⟨A, cap, e, _, hc⟩ := LRq.out.below hb (Nat.le_refl _)
  cases e
  obtain ⟨b, off, rfl, hbb, c0, _⟩ := hc k x hx
  have hxl : x.text.length <= 60000 := by
   have h1 : x.bytes.length <= (xs.flatMap Ln.bytes).length := by
    obtain ⟨p1, p2, e⟩ := List.append_of_mem (List.mem_of_getElem? hx)
    rw [e, List.flatMap_append, List.flatMap_cons, List.length_append, List.length_append]; omega
   have h2 := HJ.out
   have h3 : x.text.length <= x.bytes.length := by unfold Ln.bytes; simp
   omega
  have KD := Lib.hid (refKind_any (B x.text) (by rw [B_size]; omega) wr)
  rw [B_data] at KD
  have TK := Lib.hid (show kindCells (xs.take (k + 1)) = kindCells (xs.take k) ++ [.int .i64 (kindL x.text : Nat)] by rw [List.take_add_one, hx]; exact kindCells_snoc _ _)
  have HO := Lib.hid hown
  clear hc hx hown
  go_wp2_with fail
  refine KD.out.mono ?_
  rintro e w2 ⟨rfl, b2⟩
  have hb2 := hb.trans (b2.mono hzb)
  have hown2 := own_kept HO.out b2 (Nat.le_refl _)
  have hzb2 := hb2.size
  have HV := Lib.hid (valCell w2 (.int .i64 (kindL x.text : Nat)) 3)
  clear KD HO b2 c0
  go_wp2_with (at_builtin; refine wpList_append_own _ rfl _ _ 24 rfl w1.heap.size 3 i0 _ 1 8 Tryz.underlying24 hi hz0 hz1 hz2 rfl (by decide) _ _ _ rfl (hown2.alloc _) ⟨w2.heap.size, 0, none⟩ 1 1 _ rfl rfl HV.out ?c2 ?c3 ?c4 ?c5 ?_)
  case c2 => intro u hu; simp at hu; subst hu; rfl
  case c3 => unfold maxLen; omega
  case c4 => omega
  case c5 => simp; omega
  intro v' w3 hown' hgrow _
  obtain ⟨g', cap3, rfl⟩ := ownsRow_succ hown'
  have hb3 : Below w1.heap.size w1 w3 := (hb2.alloc (by omega) _).grown hgrow (by simp; omega) (fun j ej => (hown2.lt j ej).1)
  go_wp2_with fail
  go_roundw
  case rel => exact ⟨k + 1, hlt, by go_num, by rw [TK.out]; exact hown', hb3⟩
  case measure => simp [intOf]; omega
 obtain rfl : k = xs.length := by omega
 rw [List.take_length] at hown
 obtain ⟨ka, kc, hke, _⟩ := own_slice hown
 subst hke
 have KR := Lib.hid (kds_of_own hown)
 have hbw := b1.trans (hb.mono hz1')
 have LRq2 := Lib.hid (LRq.out.below hb (Nat.le_refl _))
 clear hown LRq hb
 obtain ⟨wm, hwm⟩ : ∃ wm, wm = wr := ⟨wr, rfl⟩
 subst hwm
 have zxs := Lib.hid (fun (k : Nat) (x : Ln) (hx : xs[k]? = some x) => linesOf_no HXS.out hx)
 have start : RefV wm (wm.alloc (.cells #[.int .i64 2, .string ⟨#[]⟩, .slice none 0 0] 117)) wm.heap.size RS.new (.slice none 0 0) (.slice none 0 0) [] :=
  ⟨⟨⟨rfl, .inl ⟨rfl, rfl⟩⟩, rfl, fun j it x h => by simp [RS.new] at h, (Below.refl _ _).alloc (Nat.le_refl _) _⟩, Cells.new _ _ _, Nat.le_refl _, ⟨rfl, .inl ⟨rfl, rfl⟩⟩, fun e => by cases e⟩
 have hpos : ∀ x ∈ xs, 1 <= x.bytes.length := by rw [<- HXS.out]; exact linesOn_pos _ 0 0 _ (Nat.le_refl _)
 have HPOS := Lib.hid hpos
 have hwz := hbw.size
 clear hpos
 go_wp2_with fail
 go_loopw [8, 10, 11] (fun u r i wr => ∃ (k : Nat) (st : RS) (fv : Value) (fvs : List Value), k <= xs.length /\ i = .int .i64 k /\ r = .int .i64 st.records /\ RefV wm wr wm.heap.size st u fv fvs /\ refRun RS.new xs = refRun st (xs.drop k) /\ st.prev = prevK xs k /\ st.records <= k /\ st.fields.length <= k /\ st.out.length <= 2 * k /\ st.raw.length <= 60001 * k) (fun _ _ i _ => xs.length - (intOf i).toNat)
 case atStart => exact ⟨0, RS.new, _, [], Nat.zero_le _, rfl, rfl, start, rfl, rfl, Nat.le_refl _, Nat.le_refl _, Nat.le_refl _, Nat.le_refl _⟩
 case round =>
 obtain ⟨k, st, fv, fvs, hk, rfl, rfl, hV, hrun, hprev, q1, q2, q3, q4⟩ := hrel
 have hbm := hV.acc.below
 have hb := hbw.trans (hbm.mono hwz)
 obtain ⟨fa, fc, hfe, _⟩ := own_slice hV.flds
 subst hfe
 obtain ⟨ua, uc, hue, _⟩ := own_slice hV.acc.row
 subst hue
 have n0 : wr.cell? ⟨wm.heap.size, 0, none⟩ = some (.int .i64 st.kind) := hV.box.cell 0
 have n1 : wr.cell? ⟨wm.heap.size, 1, none⟩ = some (.string (B st.raw)) := hV.box.cell 1
 have n2 : wr.cell? ⟨wm.heap.size, 2, none⟩ = some (.slice fa st.fields.length fc) := hV.box.cell 2
 have nl := hV.box.lt
 by_cases hlt : k < xs.length
 ·obtain ⟨x, hx⟩ : ∃ x, xs[k]? = some x := ⟨_, List.getElem?_eq_getElem hlt⟩
  have hdrop : xs.drop k = x :: xs.drop (k + 1) := by
   have e := List.drop_eq_getElem_cons hlt
   rw [List.getElem?_eq_getElem hlt] at hx
   rw [Option.some.inj hx] at e
   exact e
  have LRr := LRq2.out.below hbm (Nat.le_refl _)
  have KRr := KR.out.below hbm (Nat.le_refl _)
  have hms := more_sum (xs.drop k) (fun y hy => HPOS.out y (List.mem_of_mem_drop hy))
  have hdl : ((xs.drop k).flatMap Ln.bytes).length <= s.size := by
   rw [<- HJ.out]
   conv => rhs; rw [<- List.take_append_drop k xs, List.flatMap_append, List.length_append]
   omega
  have hts := line_sum (x := x) (xs := xs.drop (k + 1)) (by rw [<- hdrop]; exact fun y hy => HPOS.out y (List.mem_of_mem_drop hy))
  rw [<- hdrop] at hts
  have WR := Lib.hid (wrong_any xs _ _ k x st.fields.length st.records wr LRr KRr hx (by omega) (by omega) (by omega) (by omega) (by omega))
  rw [<- hprev, <- wrong_ref] at WR
  have hno := zxs.out k x hx
  rw [hdrop] at hrun
  have hrun2 : refRun RS.new xs = if refWrong st x (xs.drop (k + 1)) ≠ 0 then Except.error (x.no, refWrong st x (xs.drop (k + 1))) else refRun (refPut st x (xs.drop (k + 1))) (xs.drop (k + 1)) := hrun
  by_cases hn : refWrong st x (xs.drop (k + 1)) = 0
  ·rw [if_neg (by rw [hn]; decide)] at hrun2
   rw [hn] at WR
   obtain ⟨A9, cap9, e9, _, hc9⟩ := LRq2.out
   cases e9
   obtain ⟨bl, ol, rfl, hblm, l2, _⟩ := hc9 k x hx
   obtain ⟨A8, cap8, e8, _, hc8⟩ := KR.out
   cases e8
   obtain ⟨bk, ok, rfl, hbkm, k0⟩ := hc8 k x hx
   replace l2 := (hbm.cell (p := ⟨bl, ol + k * 4 + 1 + 1, none⟩) hblm).trans l2
   replace k0 := (hbm.cell (p := ⟨bk, ok + k, none⟩) hbkm).trans k0
   have hbl : bl < wr.heap.size := Nat.lt_of_lt_of_le hblm hbm.size
   have hbk : bk < wr.heap.size := Nat.lt_of_lt_of_le hbkm hbm.size
   have nebk : bk ≠ wm.heap.size := Nat.ne_of_lt hbkm
   have nebl : bl ≠ wm.heap.size := Nat.ne_of_lt hblm
   have hxl : x.text.length <= 60000 := by
    have h1 := hts.1
    simp only [List.map_cons, List.sum_cons] at h1
    omega
   have hzb := hb.size
   have hzm := hbm.size
   have NX := Lib.hid hrun2
   have PK : Hid (∀ m, m = kindL x.text -> m = prevK xs (k + 1)) := by
    show ∀ m, _
    intro m hm
    unfold prevK; rw [if_neg (by omega), Nat.add_sub_cancel, hx]; exact hm
   have HV := Lib.hid hV
   have zr := B_size st.raw
   have zt := B_size x.text
   have hkinds := kindL_pos x.text
   have HDR : Hid (∀ y ∈ x :: xs.drop (k + 1), 1 <= y.bytes.length) := by
    show ∀ y, _
    rw [<- hdrop]; exact fun y hy => HPOS.out y (List.mem_of_mem_drop hy)
   have HDL : Hid (((x :: xs.drop (k + 1)).flatMap Ln.bytes).length <= 60000) := by
    show _ <= _
    rw [<- hdrop]; omega
   clear hrun hrun2 hdl hms hts hV hc8 hc9 hdrop start hno n0 n1
   by_cases hk1 : kindL x.text = 1
   ·have hput : refPut st x (xs.drop (k + 1)) = ⟨st.out ++ st.block ++ [⟨1, x.text ++ [10], []⟩], 2, [], [], st.records, 1⟩ := by unfold refPut; rw [if_pos hk1]
    rw [hput] at NX
    have PK2 := Lib.hid (PK.out 1 hk1.symm)
    rw [hk1] at k0
    have e10 : B x.text ++ ⟨#[10]⟩ = B (x.text ++ [10]) := B_append _ [10]
    have E10 := Lib.hid e10
    obtain ⟨i1, hi1, hy0, hy1, hy2⟩ := info_parts infoItem
    have hvl : st.out.length <= 200000 := by omega
    clear hput hx hkinds PK hk1 e10
    go_wp2_with fail
    refine WR.out.mono ?_
    rintro e w2 ⟨rfl, b2⟩
    have V2 := HV.out.kept b2
    have n0 : w2.cell? ⟨wm.heap.size, 0, none⟩ = some (.int .i64 st.kind) := V2.box.cell 0
    have n1 : w2.cell? ⟨wm.heap.size, 1, none⟩ = some (.string (B st.raw)) := V2.box.cell 1
    have n2' : w2.cell? ⟨wm.heap.size, 2, none⟩ = some (.slice fa st.fields.length fc) := V2.box.cell 2
    have nl2 := V2.box.lt
    have l2' := (b2.cell (p := ⟨bl, ol + k * 4 + 1 + 1, none⟩) hbl).trans l2
    have k0' := (b2.cell (p := ⟨bk, ok + k, none⟩) hbk).trans k0
    have hz2 := b2.size
    have VH := Lib.hid V2
    have hrow := V2.acc.row
    have hm2 := V2.acc.below.size
    clear WR HV V2 b2 l2 k0 n2
    by_cases hr : st.raw = []
    ·have hblk : st.block = [] := by unfold RS.block; rw [if_pos hr]
     rw [hblk, List.append_nil] at NX
     have e1 : ((B st.raw).toList == []) = true := by rw [hr, Lib.toList_data, B_data]; rfl
     have e2 : ((B st.raw).toList != []) = false := by rw [hr, Lib.toList_data, B_data]; rfl
     have HI := Lib.hid (cells_new_add w2 117 [.int .i64 1, .string (B x.text ++ ⟨#[10]⟩), .slice none 0 0])
     clear hr hblk
     go_wp2_with (at_builtin; refine wpList_append_own_at _ rfl _ _ 61 rfl wm.heap.size 117 i1 _ 3 48 Tryz.underlying61 hi1 hy0 hy1 hy2 rfl (by decide) _ _ _ rfl (hrow.alloc _) ⟨w2.heap.size, 0, none⟩ 1 1 _ rfl rfl HI.out ?c2 ?c3 ?c4 ?c5 ?_)
     case c2 => intro u hu; simp at hu; rcases hu with rfl | rfl | rfl <;> rfl
     case c3 => unfold maxLen; omega
     case c4 => omega
     case c5 => simp; omega
     intro v' w3 hown' hgrow _ hat
     rw [E10.out] at hown'
     have V3 := VH.out.put (it := ⟨1, x.text ++ [10], []⟩) (x := .slice none 0 0) ⟨rfl, .inl ⟨rfl, rfl⟩⟩ hown' _ hgrow hat
     obtain ⟨g', cap3, rfl⟩ := ownsRow_succ hown'
     have f0 := V3.box.frozen 0
     have f1 := V3.box.frozen 1
     have f2 := V3.box.frozen 2
     have m0 : w3.cell? ⟨wm.heap.size, 0, none⟩ = some (.int .i64 st.kind) := V3.box.cell 0
     have m1 : w3.cell? ⟨wm.heap.size, 1, none⟩ = some (.string (B st.raw)) := V3.box.cell 1
     have m2 : w3.cell? ⟨wm.heap.size, 2, none⟩ = some (.slice fa st.fields.length fc) := V3.box.cell 2
     have nl3 := V3.box.lt
     have V4 := Lib.hid (V3.fresh (s' := ⟨st.out ++ [⟨1, x.text ++ [10], []⟩], 2, [], [], st.records, 1⟩) rfl rfl rfl rfl)
     clear V3 VH hrow n0 n1 n2' l2' k0' e1 e2 hown' hgrow hat HI
     go_wp2_with fail
     go_roundw
     case rel => exact ⟨k + 1, ⟨st.out ++ [⟨1, x.text ++ [10], []⟩], 2, [], [], st.records, 1⟩, _, _, hlt, by go_num, rfl, V4.out, NX.out, PK2.out, by show st.records <= _; omega, Nat.zero_le _, by show (st.out ++ [_]).length <= _; simp; omega, Nat.zero_le _⟩
     case measure => simp [intOf]; omega
    have hblk : st.block = [⟨st.kind, st.raw, st.fields⟩] := by unfold RS.block; rw [if_neg hr]
    rw [hblk] at NX
    have hB : (B st.raw).toList = st.raw := by rw [Lib.toList_data, B_data]
    have e1 : ((B st.raw).toList == []) = false := by rw [hB]; simpa using hr
    have e2 : ((B st.raw).toList != []) = true := by rw [hB]; simpa using hr
    have HI := Lib.hid (cells_new_add w2 117 [.int .i64 st.kind, .string (B st.raw), .slice fa st.fields.length fc])
    clear hr hblk hB
    go_wp2_with (at_builtin; refine wpList_append_own_at _ rfl _ _ 61 rfl wm.heap.size 117 i1 _ 3 48 Tryz.underlying61 hi1 hy0 hy1 hy2 rfl (by decide) _ _ _ rfl (hrow.alloc _) ⟨w2.heap.size, 0, none⟩ 1 1 _ rfl rfl HI.out ?c2 ?c3 ?c4 ?c5 ?_)
    case c2 => intro u hu; simp at hu; rcases hu with rfl | rfl | rfl <;> rfl
    case c3 => unfold maxLen; omega
    case c4 => omega
    case c5 => simp; omega
    intro v' w3 hown' hgrow _ hat
    have V3 := VH.out.put (it := ⟨st.kind, st.raw, st.fields⟩) VH.out.flds hown' _ hgrow hat
    obtain ⟨g', cap3, rfl⟩ := ownsRow_succ hown'
    have b3 := V3.acc.below
    have l3' : w3.cell? ⟨bl, ol + k * 4 + 1 + 1, none⟩ = some (.string (B x.text)) := by
     have h0 := (hbm.cell (p := ⟨bl, ol + k * 4 + 1 + 1, none⟩) hblm)
     rw [b3.cell (p := ⟨bl, ol + k * 4 + 1 + 1, none⟩) hblm, <- VH.out.acc.below.cell (p := ⟨bl, ol + k * 4 + 1 + 1, none⟩) hblm]; exact l2'
    have hrow3 := V3.acc.row
    have hm3 := b3.size
    have V3H := Lib.hid V3
    have hl3 := V3.box.lt
    have HI2 := Lib.hid (cells_new_add w3 117 [.int .i64 1, .string (B x.text ++ ⟨#[10]⟩), .slice none 0 0])
    have hlen3 : (st.out ++ [(⟨st.kind, st.raw, st.fields⟩ : It)]).length = st.out.length + 1 := by simp
    simp only [hlen3] at hrow3
    clear V3 VH hrow n0 n1 n2' l2' k0' e1 e2 hown' hgrow hat HI b3
    go_wp2_with (at_builtin; refine wpList_append_own_at _ rfl _ _ 61 rfl wm.heap.size 117 i1 _ 3 48 Tryz.underlying61 hi1 hy0 hy1 hy2 rfl (by decide) _ _ _ rfl (hrow3.alloc _) ⟨w3.heap.size, 0, none⟩ 1 1 _ rfl rfl HI2.out ?d2 ?d3 ?d4 ?d5 ?_)
    case d2 => intro u hu; simp at hu; rcases hu with rfl | rfl | rfl <;> rfl
    case d3 => unfold maxLen; omega
    case d4 => omega
    case d5 => simp; omega
    intro v'' w4 hown4 hgrow4 _ hat4
    rw [E10.out] at hown4
    have V4 := V3H.out.put (it := ⟨1, x.text ++ [10], []⟩) (x := .slice none 0 0) ⟨rfl, .inl ⟨rfl, rfl⟩⟩ (by show w4.ownsRow _ _ _ _ ((st.out ++ [(⟨st.kind, st.raw, st.fields⟩ : It)]).length + 1) _; rw [hlen3]; exact hown4) _ hgrow4 hat4
    obtain ⟨g4, cap4, rfl⟩ := ownsRow_succ hown4
    have f0 := V4.box.frozen 0
    have f1 := V4.box.frozen 1
    have f2 := V4.box.frozen 2
    have m0 : w4.cell? ⟨wm.heap.size, 0, none⟩ = some (.int .i64 st.kind) := V4.box.cell 0
    have m1 : w4.cell? ⟨wm.heap.size, 1, none⟩ = some (.string (B st.raw)) := V4.box.cell 1
    have m2 : w4.cell? ⟨wm.heap.size, 2, none⟩ = some (.slice fa st.fields.length fc) := V4.box.cell 2
    have nl4 := V4.box.lt
    have V5 := Lib.hid (V4.fresh (s' := ⟨st.out ++ [⟨st.kind, st.raw, st.fields⟩] ++ [⟨1, x.text ++ [10], []⟩], 2, [], [], st.records, 1⟩) rfl rfl rfl rfl)
    clear V4 V3H hrow3 l3' hown4 hgrow4 hat4 HI2
    go_wp2_with fail
    go_roundw
    case rel => exact ⟨k + 1, ⟨st.out ++ [⟨st.kind, st.raw, st.fields⟩] ++ [⟨1, x.text ++ [10], []⟩], 2, [], [], st.records, 1⟩, _, _, hlt, by go_num, rfl, V5.out, NX.out, PK2.out, by show st.records <= _; omega, Nat.zero_le _, by show (st.out ++ [_] ++ [_]).length <= _; simp; omega, Nat.zero_le _⟩
    case measure => simp [intOf]; omega
   by_cases hk4 : kindL x.text = 4
   ·obtain ⟨ls, hls⟩ : ∃ ls, x.text :: more (xs.drop (k + 1)) = ls := ⟨_, rfl⟩
    have hput : refPut st x (xs.drop (k + 1)) = ⟨st.out, 3, st.raw ++ x.text ++ [10], st.fields ++ [(unfoldK ls, unfoldV ls)], if st.kind = 2 then st.records + 1 else st.records, 4⟩ := by unfold refPut; rw [if_neg (by omega), if_pos hk4, hls]
    rw [hput] at NX
    have PK2 := Lib.hid (PK.out 4 hk4.symm)
    rw [hk4] at k0
    have HX := Lib.hid hx
    have HK4 := Lib.hid hk4
    have HLS := Lib.hid hls
    have hms := (line_sum (x := x) (xs := xs.drop (k + 1)) (HDR.out)).1
    have hms2 := (line_sum (x := x) (xs := xs.drop (k + 1)) (HDR.out)).2
    have hm1 : (ls.map List.length).sum <= 60000 := by rw [<- hls]; have := HDL.out; omega
    have hm2 : ls.length <= 60000 := by rw [<- hls]; have := HDL.out; omega
    have kz1 : (((4 : Nat) : Int) == 1) = false := rfl
    clear hput hx hkinds PK hk1 hk4 hls hms hms2
    go_wp2_with fail
    refine WR.out.mono ?_
    rintro e w2 ⟨rfl, b2⟩
    have V2 := HV.out.kept b2
    have n1 : w2.cell? ⟨wm.heap.size, 1, none⟩ = some (.string (B st.raw)) := V2.box.cell 1
    have nf1 := V2.box.frozen 1
    have nl2 := V2.box.lt
    have l2' := (b2.cell (p := ⟨bl, ol + k * 4 + 1 + 1, none⟩) hbl).trans l2
    have k0' := (b2.cell (p := ⟨bk, ok + k, none⟩) hbk).trans k0
    have VV := Lib.hid (fun st' h1 h2 h3 => V2.set (s' := st') 1 (.string (B st.raw ++ B x.text ++ ⟨#[10]⟩)) h1 h2 h3)
    clear WR HV V2 b2 l2 k0 n2
    go_wp2_with fail
    go_cut [] (fun wx => RefV wm wx wm.heap.size { st with raw := st.raw ++ x.text ++ [10] } (.slice ua st.out.length uc) (.slice fa st.fields.length fc) fvs /\ wx.cell? ⟨bk, ok + k, none⟩ = some (.int .i64 4))
    case first =>
     go_region
     all_goals
      go_wp2
      go_meet
      refine ⟨RefV.drew (VV.out _ ?_ rfl rfl), ?_⟩
      ·show #[_, _, _] = _
       rw [<- B_append, <- B_append]; rfl
      show ((w2.setCell ⟨wm.heap.size, 1, none⟩ _).drew).cell? ⟨bk, ok + k, none⟩ = _
      exact (cell_set_ne nebk _ _).trans k0'
    case rest =>
    obtain ⟨V3, k0''⟩ := hcut
    have n0 : wc.cell? ⟨wm.heap.size, 0, none⟩ = some (.int .i64 st.kind) := V3.box.cell 0
    have nf0 := V3.box.frozen 0
    have nl3 := V3.box.lt
    have hV3 := V3.acc.below.size
    have VH := Lib.hid V3
    clear V3 VV l2' k0' n1 nf1
    by_cases hk2 : st.kind = 2
    ·have c0 : ((st.kind : Int) == 2) = true := by rw [hk2]; rfl
     rw [if_pos hk2] at NX
     have V4 := VH.out.set (s' := { st with raw := st.raw ++ x.text ++ [10], kind := 3 }) 0 (.int .i64 3) rfl rfl rfl
     have hbW := V4.acc.below
     have SD := Lib.hid (rsaid_any xs _ _ k x _ (LRq2.out.below hbW (Nat.le_refl _)) (KR.out.below hbW (Nat.le_refl _)) HX.out (by omega))
     rw [HLS.out] at SD
     have V4H := Lib.hid V4
     have hzW := hbW.size
     clear V4 VH
     go_wp2_with fail
     refine SD.out.mono ?_
     rintro e w5 ⟨sv, rfl, hown, b5⟩
     have hst := hown.strs
     obtain ⟨Av, capv, rfl, _, _⟩ := id hst
     have UF := Lib.hid (refUnfold_yes x.text (more (xs.drop (k + 1))) _ w5 (by rw [HLS.out]; exact hst) (by rw [HLS.out]; exact fun l hl => by have := le_sum _ _ hl; omega) (by rw [HLS.out]; omega) (by rw [HLS.out]; have := saidV_le ls; omega) HK4.out)
     rw [HLS.out, List.length_map] at UF
     have V5H := Lib.hid (V4H.out.kept b5)
     unfold fieldV at UF
     clear hown hst SD V4H b5 n0 nf0
     generalize unfoldK ls = uk at *
     generalize unfoldV ls = uv at *
     generalize unfoldN ls = un at *
     go_wp2_with fail
     refine UF.out.mono ?_
     rintro e w6 ⟨rfl, b6⟩
     have V6H := Lib.hid (V5H.out.kept b6)
     clear UF V5H b6
     go_upto_region 29 with fail
     have hb63 : Below w6.heap.size w6 (w6.alloc (.cells #[.string (B uk), .string (B uv)] 83)) := (Below.refl _ _).alloc (Nat.le_refl _) _
     have V7 := Lib.hid (V6H.out.kept hb63)
     have FB := Cells.new w6 83 #[.string (B uk), .string (B uv)]
     generalize w6.alloc (.cells #[.string (B uk), .string (B uv)] 83) = W3 at *
     have hone : ∀ u ∈ cellsF st.fields, u.oneCell' = true := by
      intro u hu
      unfold cellsF at hu
      simp at hu
      obtain ⟨a, b, _, h | h⟩ := hu <;> subst h <;> rfl
     refine region29x _ _ wm.heap.size w6.heap.size st.fields.length (.slice fa st.fields.length fc) (cellsF st.fields) (B uk) (B uv) _ _ _ ?h9 ?h13 ?hsz V7.out.box FB (rowBase V7.out.flds (Nat.zero_le _)) hone (by omega) ?_
     case h9 => kernel_rfl
     case h13 => kernel_rfl
     case hsz => exact Nat.le_of_ble_eq_true (by kernel_rfl)
     intro y0 y1 y2 y3 y4 y5 y6 y7 w2' g2 c2 bb o2
     have V9 : Hid (RefV wm (w2'.setCell ⟨wm.heap.size, 2, none⟩ (sl g2 (st.fields.length + 1) c2)) wm.heap.size ⟨st.out, 3, st.raw ++ x.text ++ [10], st.fields ++ [(uk, uv)], st.records + 1, 4⟩ (.slice ua st.out.length uc) (sl g2 (st.fields.length + 1) c2) fvs) :=
      (V7.out.kept bb).setF rfl rfl rfl (by show w2'.ownsRow _ _ _ _ (st.fields ++ [(uk, uv)]).length _; rw [List.length_append, cellsF_snoc]; exact rowBase o2 V7.out.acc.below.size)
     clear bb o2 V7 FB hone hb63 V6H
     dsimp only
     simp only [List.setIfInBounds_toArray, List.set_cons_zero, List.set_cons_succ]
     go_wp2_with fail
     go_roundw
     case rel => exact ⟨k + 1, ⟨st.out, 3, st.raw ++ x.text ++ [10], st.fields ++ [(uk, uv)], st.records + 1, 4⟩, _, fvs, hlt, by go_num, rfl, V9.out, NX.out, PK2.out, by show st.records + 1 <= _; omega, by show (st.fields ++ [_]).length <= _; rw [List.length_append]; simp only [List.length_singleton]; omega, by show st.out.length <= _; omega, by show (st.raw ++ x.text ++ [10]).length <= _; simp; omega⟩
     case measure => simp [intOf]; omega
    have c0 : ((st.kind : Int) == 2) = false := beq_eq_false_iff_ne.2 hk2
    rw [if_neg hk2] at NX
    have V4 := VH.out.set (s' := { st with raw := st.raw ++ x.text ++ [10], kind := 3 }) 0 (.int .i64 3) rfl rfl rfl
    have hbW := V4.acc.below
    have SD := Lib.hid (rsaid_any xs _ _ k x _ (LRq2.out.below hbW (Nat.le_refl _)) (KR.out.below hbW (Nat.le_refl _)) HX.out (by omega))
    rw [HLS.out] at SD
    have V4H := Lib.hid V4
    have hzW := hbW.size
    clear V4 VH
    go_wp2_with fail
    refine SD.out.mono ?_
    rintro e w5 ⟨sv, rfl, hown, b5⟩
    have hst := hown.strs
    obtain ⟨Av, capv, rfl, _, _⟩ := id hst
    have UF := Lib.hid (refUnfold_yes x.text (more (xs.drop (k + 1))) _ w5 (by rw [HLS.out]; exact hst) (by rw [HLS.out]; exact fun l hl => by have := le_sum _ _ hl; omega) (by rw [HLS.out]; omega) (by rw [HLS.out]; have := saidV_le ls; omega) HK4.out)
    rw [HLS.out, List.length_map] at UF
    have V5H := Lib.hid (V4H.out.kept b5)
    unfold fieldV at UF
    clear hown hst SD V4H b5 n0 nf0
    generalize unfoldK ls = uk at *
    generalize unfoldV ls = uv at *
    generalize unfoldN ls = un at *
    go_wp2_with fail
    refine UF.out.mono ?_
    rintro e w6 ⟨rfl, b6⟩
    have V6H := Lib.hid (V5H.out.kept b6)
    clear UF V5H b6
    go_upto_region 29 with fail
    have hb63 : Below w6.heap.size w6 (w6.alloc (.cells #[.string (B uk), .string (B uv)] 83)) := (Below.refl _ _).alloc (Nat.le_refl _) _
    have V7 := Lib.hid (V6H.out.kept hb63)
    have FB := Cells.new w6 83 #[.string (B uk), .string (B uv)]
    generalize w6.alloc (.cells #[.string (B uk), .string (B uv)] 83) = W3 at *
    have hone : ∀ u ∈ cellsF st.fields, u.oneCell' = true := by
     intro u hu
     unfold cellsF at hu
     simp at hu
     obtain ⟨a, b, _, h | h⟩ := hu <;> subst h <;> rfl
    refine region29x _ _ wm.heap.size w6.heap.size st.fields.length (.slice fa st.fields.length fc) (cellsF st.fields) (B uk) (B uv) _ _ _ ?h9 ?h13 ?hsz V7.out.box FB (rowBase V7.out.flds (Nat.zero_le _)) hone (by omega) ?_
    case h9 => kernel_rfl
    case h13 => kernel_rfl
    case hsz => exact Nat.le_of_ble_eq_true (by kernel_rfl)
    intro y0 y1 y2 y3 y4 y5 y6 y7 w2' g2 c2 bb o2
    have V9 : Hid (RefV wm (w2'.setCell ⟨wm.heap.size, 2, none⟩ (sl g2 (st.fields.length + 1) c2)) wm.heap.size ⟨st.out, 3, st.raw ++ x.text ++ [10], st.fields ++ [(uk, uv)], st.records, 4⟩ (.slice ua st.out.length uc) (sl g2 (st.fields.length + 1) c2) fvs) :=
     (V7.out.kept bb).setF rfl rfl rfl (by show w2'.ownsRow _ _ _ _ (st.fields ++ [(uk, uv)]).length _; rw [List.length_append, cellsF_snoc]; exact rowBase o2 V7.out.acc.below.size)
    clear bb o2 V7 FB hone hb63 V6H
    dsimp only
    simp only [List.setIfInBounds_toArray, List.set_cons_zero, List.set_cons_succ]
    go_wp2_with fail
    go_roundw
    case rel => exact ⟨k + 1, ⟨st.out, 3, st.raw ++ x.text ++ [10], st.fields ++ [(uk, uv)], st.records, 4⟩, _, fvs, hlt, by go_num, rfl, V9.out, NX.out, PK2.out, by show st.records <= _; omega, by show (st.fields ++ [_]).length <= _; rw [List.length_append]; simp only [List.length_singleton]; omega, by show st.out.length <= _; omega, by show (st.raw ++ x.text ++ [10]).length <= _; simp; omega⟩
    case measure => simp [intOf]; omega
   have kz1 : (((kindL x.text : Nat) : Int) == 1) = false := beq_eq_false_iff_ne.2 (by omega)
   have kz4 : (((kindL x.text : Nat) : Int) == 4) = false := beq_eq_false_iff_ne.2 (by omega)
   have hput : refPut st x (xs.drop (k + 1)) = { st with raw := st.raw ++ x.text ++ [10], prev := kindL x.text } := by unfold refPut; rw [if_neg hk1, if_neg hk4]
   rw [hput] at NX
   have PK2 := Lib.hid (PK.out _ rfl)
   clear hput hx hkinds
   generalize kindL x.text = kn at *
   go_wp2_with fail
   refine WR.out.mono ?_
   rintro e w2 ⟨rfl, b2⟩
   have V2 := HV.out.kept b2
   have n1 : w2.cell? ⟨wm.heap.size, 1, none⟩ = some (.string (B st.raw)) := V2.box.cell 1
   have nf1 := V2.box.frozen 1
   have nl2 := V2.box.lt
   have l2' := (b2.cell (p := ⟨bl, ol + k * 4 + 1 + 1, none⟩) hbl).trans l2
   have k0' := (b2.cell (p := ⟨bk, ok + k, none⟩) hbk).trans k0
   have hz2 := b2.size
   have VV := Lib.hid (fun st' h1 h2 h3 => V2.set (s' := st') 1 (.string (B st.raw ++ B x.text ++ ⟨#[10]⟩)) h1 h2 h3)
   clear WR HV V2 b2 l2 k0 n2
   go_wp2_with fail
   go_cut [] (fun wx => RefV wm wx wm.heap.size { st with raw := st.raw ++ x.text ++ [10], prev := kn } (.slice ua st.out.length uc) (.slice fa st.fields.length fc) fvs /\ wx.cell? ⟨bk, ok + k, none⟩ = some (.int .i64 (kn : Nat)))
   case first =>
    go_region
    all_goals
     go_wp2
     go_meet
     refine ⟨RefV.drew (VV.out _ ?_ rfl rfl), ?_⟩
     ·show #[_, _, _] = _
      rw [<- B_append, <- B_append]; rfl
     show ((w2.setCell ⟨wm.heap.size, 1, none⟩ _).drew).cell? ⟨bk, ok + k, none⟩ = _
     exact (cell_set_ne nebk _ _).trans k0'
   case rest =>
   obtain ⟨V3, k0''⟩ := hcut
   have hV3 := V3.acc.below.size
   have VH := Lib.hid V3
   clear V3 VV l2' k0' n1 nf1
   go_wp2_with fail
   go_roundw
   case rel => exact ⟨k + 1, { st with raw := st.raw ++ x.text ++ [10], prev := kn }, _, fvs, hlt, by go_num, rfl, VH.out, NX.out, PK2.out, by show st.records <= _; omega, by show st.fields.length <= _; omega, by show st.out.length <= _; omega, by show (st.raw ++ x.text ++ [10]).length <= _; simp; omega⟩
   case measure => simp [intOf]; omega
  rw [if_pos hn, hno] at hrun2
  have FIN := Lib.hid (fun w' (hb' : Below w.heap.size w w') => RefParsed.no (w := w) (t := s.data.toList) (w' := w') (a := k) (n := refWrong st x (xs.drop (k + 1))) (by unfold refParseL; rw [HXS.out, hrun2]) hb')
  obtain ⟨n, hnn⟩ : ∃ n, refWrong st x (xs.drop (k + 1)) = n := ⟨_, rfl⟩
  rw [hnn] at WR FIN hn
  have z1 : ((n : Int) != 0) = true := by simp; omega
  have hzb := hb.size
  clear hrun hrun2 hnn hdl hms hts LRr KRr hV hdrop hx start
  go_wp2_with fail
  refine WR.out.mono ?_
  rintro e w2 ⟨rfl, b2⟩
  have hb2 := hb.trans (b2.mono hzb)
  clear WR
  go_wp2_with fail
  refine bodyPost_ret (v := .tuple #[.slice none 0 0, .int .i64 (k : Nat), .int .i64 (n : Nat)]) (by simp [results, Tryz.results33, go_sem]) rfl ?_
  exact FIN.out _ hb2
 obtain rfl : k = xs.length := by omega
 rw [List.drop_of_length_le (Nat.le_refl _)] at hrun
 have hrun2 : refRun RS.new xs = .ok st := hrun
 have FIN := Lib.hid (fun w' v (hb' : Below w.heap.size w w') (hi : Its w' v (st.out ++ st.block)) (hf : Fresh w.heap.size w' v (st.out ++ st.block)) => RefParsed.yes (w := w) (t := s.data.toList) (w' := w') (v := v) (by unfold refParseL; rw [HXS.out, hrun2]) hb' hi hf)
 have ACC := Lib.hid hV.acc
 have HFL := Lib.hid hV.flds
 have hzm := hbm.size
 have hzb := hb.size
 by_cases hr : st.raw = []
 ·have hblk : st.block = [] := by unfold RS.block; rw [if_pos hr]
  rw [hblk, List.append_nil] at FIN
  have e1 : ((B st.raw).toList == []) = true := by rw [hr, Lib.toList_data, B_data]; rfl
  have e2 : ((B st.raw).toList != []) = false := by rw [hr, Lib.toList_data, B_data]; rfl
  clear hrun hrun2 hV start hblk hr
  go_wp2_with fail
  refine bodyPost_ret (v := .tuple #[.slice ua st.out.length uc, .int .i64 (-9), .int .i64 0]) (by simp [results, Tryz.results33, go_sem]) rfl ?_
  exact FIN.out _ _ hb ACC.out.its (ACC.out.fresh hwz)
 have hblk : st.block = [⟨st.kind, st.raw, st.fields⟩] := by unfold RS.block; rw [if_neg hr]
 rw [hblk] at FIN
 have hB : (B st.raw).toList = st.raw := by rw [Lib.toList_data, B_data]
 have e1 : ((B st.raw).toList == []) = false := by rw [hB]; simpa using hr
 have e2 : ((B st.raw).toList != []) = true := by rw [hB]; simpa using hr
 obtain ⟨i1, hi1, hy0, hy1, hy2⟩ := info_parts infoItem
 have hrow := hV.acc.row
 have hvl : st.out.length <= 200000 := by omega
 have HV := Lib.hid (cells_new_add wr 117 [.int .i64 st.kind, .string (B st.raw), .slice fa st.fields.length fc])
 clear hrun hrun2 hV start hblk hr hB
 go_wp2_with (at_builtin; refine wpList_append_own _ rfl _ _ 61 rfl wm.heap.size 117 i1 _ 3 48 Tryz.underlying61 hi1 hy0 hy1 hy2 rfl (by decide) _ _ _ rfl (hrow.alloc _) ⟨wr.heap.size, 0, none⟩ 1 1 _ rfl rfl HV.out ?c2 ?c3 ?c4 ?c5 ?_)
 case c2 => intro u hu; simp at hu; rcases hu with rfl | rfl | rfl <;> rfl
 case c3 => unfold maxLen; omega
 case c4 => omega
 case c5 => simp; omega
 intro v' w3 hown' hgrow _
 have hacc3 := ACC.out.snoc (it := ⟨st.kind, st.raw, st.fields⟩) HFL.out hown' _ hgrow
 obtain ⟨g', cap3, rfl⟩ := ownsRow_succ hown'
 have hb3 := hbw.trans (hacc3.below.mono hwz)
 go_wp2_with fail
 refine bodyPost_ret (v := .tuple #[.slice (some ⟨g', 0, none⟩) (st.out.length + 1) cap3, .int .i64 (-9), .int .i64 0]) (by simp [results, Tryz.results33, go_sem]) rfl ?_
 exact FIN.out _ _ hb3 hacc3.its (hacc3.fresh hwz)
end Go.Proofs.YtbkeoiefolkjfaaGreatDoor
namespace Go.Proofs.YtbkeoiefolkjfaaGreatDoor
open Go.RowKit Go.Shelf
theorem take_no {t : List UInt8} {p : PS} {x : Ln} {a n : Nat} (h : takeP t p x = .error (a, n)) : n ≠ 0 /\ n <= 11 := by
 unfold takeP at h
 split at h
 ·rename_i hc
  cases h
  exact ⟨hc.2, endFieldN_le _⟩
 split at h
 ·cases h; exact ⟨by decide, by decide⟩
 cases h
theorem run_no (t : List UInt8) : ∀ (xs : List Ln) (p : PS) (a n : Nat), runP t p xs = .error (a, n) -> n ≠ 0 /\ n <= 11
 | [], p, a, n, h => by cases h
 | x :: xs, p, a, n, h => by
  have h' : (match takeP t p x with | .error e => Except.error e | .ok q => runP t q xs) = .error (a, n) := h
  cases ht : takeP t p x with
  | error e =>
   rw [ht] at h'
   cases h'
   exact take_no ht
  | ok q =>
  rw [ht] at h'
  exact run_no t xs q a n h'
theorem parse_no {t : List UInt8} {a n : Nat} (h : parseL t = .error (a, n)) : n ≠ 0 /\ n <= 11 := by
 unfold parseL at h
 cases hr : runP t PS.new (linesOf t) with
 | error e =>
  rw [hr] at h
  cases h
  exact run_no t _ _ _ _ hr
 | ok p =>
 rw [hr] at h
 dsimp only at h
 unfold lastP at h
 split at h
 ·rename_i hc
  cases h
  exact ⟨hc, endFieldN_le _⟩
 cases h
theorem refParsedNo {w w' : World} {t : List UInt8} {e : Ending} {a n : Nat} (h : RefParsed w t e w') (hp : parseL t = .error (a, n)) : Below w.heap.size w w' /\ e = .returned (.tuple #[.slice none 0 0, .int .i64 (a : Nat), .int .i64 (n : Nat)]) := by
 obtain ⟨h1, h2⟩ := h
 rw [<- parse_ref, hp] at h2
 exact ⟨h1, h2⟩
theorem refParsedYes {w w' : World} {t : List UInt8} {e : Ending} {its : List It} (h : RefParsed w t e w') (hp : parseL t = .ok its) : Below w.heap.size w w' /\ ∃ v, e = .returned (.tuple #[v, .int .i64 (-9), .int .i64 0]) /\ Its w' v its := by
 obtain ⟨h1, h2⟩ := h
 rw [<- parse_ref, hp] at h2
 obtain ⟨v, e1, i1, _⟩ := h2
 exact ⟨h1, v, e1, i1⟩
end Go.Proofs.YtbkeoiefolkjfaaGreatDoor
namespace Go.Proofs.YtbkeoiefolkjfaaGreatDoor.Bk
open Go.RowKit Go.Shelf
attribute [local go_sem] Oper.semAt_some
theorem good_longB (s : ByteArray) (hsz : 50000 < s.size) (w : World) :
  Calls Tryz.prog 62 #[.string s] w fun e w' => e = .returned (.bool false) /\ Below w.heap.size w w' := by
 have FT := Lib.hid (Fr.fits_any (s.size : Int))
 have hf : decide (2 <= (s.size : Int) /\ (s.size : Int) <= 50000) = false := by simp; omega
 refine callsIn_wide (n := 9).1 ?_
 refine callsIn_of_wp_marks Tryz.func62 rfl trivial ?_ rfl
 simp only [Tryz.ntmps62, List.size_toArray, List.length_cons, List.length_nil, Nat.reduceAdd, Nat.reduceSub, Array.replicate_succ, Array.replicate_zero, List.push_toArray, List.append_toArray, List.nil_append, List.cons_append]
 have k1 := Boxed.new w 4 (.bool false)
 have kb : Below w.heap.size w (w.alloc (.cells #[.bool false] 4)) := (Below.refl _ w).alloc (Nat.le_refl _) _
 rw [hf] at FT
 gi_wp2_with fail
 refine ⟨trivial, (callsIn_wide.2 (FT.out _)).mono ?_⟩
 rintro e w3 ⟨rfl, rfl⟩
 gi_wp2
 have c := k1.cell
 exact ⟨.bool false, by simp [results, Tryz.f62, go_sem, c], rfl, kb⟩
theorem record_longB (l : List UInt8) (hl : 50000 < l.length) (w : World) :
  Calls Tryz.prog 43 #[.string (B l)] w fun e w' => e = .returned (.tuple #[.string (B []), errV 2]) /\ Below w.heap.size w w' := by
 have G1 := Lib.hid (good_longB (B l) (by rw [B_size]; exact hl) w)
 go_enter Tryz.func43, Tryz.ntmps43
 go_wp2_with fail
 refine G1.out.mono ?_
 rintro e w1 ⟨rfl, hb1⟩
 go_wp2_with fail
 go_ret2
 exact ⟨rfl, hb1⟩
def BadAt (t : List UInt8) (a k : Nat) : Prop :=
 parseL (baseL (t.drop (hl (Hd.genP t)))) = .error (a, k) \/
 (k = 10 /\ ∃ its bds r, parseL (baseL (t.drop (hl (Hd.genP t)))) = .ok its /\ Recd Dc (t.drop (hl (Hd.genP t) + (baseL (t.drop (hl (Hd.genP t)))).length)) bds r /\ FinB Dc r /\ a = bds.length)
theorem BadAt.one {t : List UInt8} {a k a' k' : Nat} (h : BadAt t a k) (h' : BadAt t a' k') : a = a' /\ k = k' := by
 rcases h with h | ⟨rfl, its, bds, r, h1, h2, h3, rfl⟩ <;> rcases h' with h' | ⟨rfl, its', bds', r', h1', h2', h3', rfl⟩
 ·rw [h] at h'
  injection h' with h'
  exact ⟨(Prod.mk.inj h').1, (Prod.mk.inj h').2⟩
 ·rw [h] at h1'; cases h1'
 ·rw [h'] at h1; cases h1
 obtain ⟨rfl, _⟩ := recd_one h2 h2' (.inr h3) (.inr h3')
 exact ⟨rfl, rfl⟩
theorem BadAt.not {t : List UInt8} {a k n : Nat} {base tail : List UInt8} {bds : List (List UInt8)} (h : BadAt t a k) (s : Sound Dc t n base bds tail) : False := by
 have hn : Hd.genP t = n := Hd.gen_one (Hd.genP_is t) s.gen
 obtain ⟨its, hp⟩ := s.parse
 have hB := s.isB
 unfold BadAt at h
 rw [hn, hB] at h
 rcases h with h | ⟨_, _, bds', r, _, h2, h3, _⟩
 ·rw [hp] at h; cases h
 obtain ⟨rfl, rfl⟩ := recd_one h2 s.recd (.inr h3) (.inl s.fin)
 exact finB_not s.fin h3
theorem BadAt.num {t : List UInt8} {a k : Nat} (h : BadAt t a k) : k ≠ 0 /\ k <= 11 := by
 rcases h with h | ⟨rfl, _⟩
 ·exact parse_no h
 exact ⟨by decide, by decide⟩
theorem ReadR.two {w w' : World} {t : List UInt8} {e : Ending} (h : ReadR w w' t e) : Below w.heap.size w w' /\
  ((∃ a k u, BadAt t a k /\ e = .returned (.tuple #[zeroB, u]) /\ FaultAt w.heap.size w' u a k) \/ ∃ n base bds tail v, Sound Dc t n base bds tail /\ e = .returned (.tuple #[v, .nilIface]) /\ BookR w.heap.size w' v n base bds tail) := by
 obtain ⟨hb, h⟩ := h
 refine ⟨hb, ?_⟩
 rcases h with ⟨a, k, u, h1, h2, h3⟩ | ⟨its, bds, r, u, h1, h2, h3, h4, h5⟩ | ⟨base, bds, tail, v, h1, h2, h3⟩
 ·exact .inl ⟨a, k, u, .inl h1, h2, h3⟩
 ·exact .inl ⟨_, 10, u, .inr ⟨rfl, its, bds, r, h1, h2, h3, rfl⟩, h4, h5⟩
 exact .inr ⟨_, base, bds, tail, v, h1, h2, h3⟩
def AppR (w w' : World) (t : List UInt8) (eds : List Ed) (e : Ending) : Prop := Below w.heap.size w w' /\
  ((∃ a k u, BadAt t a k /\ e = .returned (.tuple #[.string (B []), u]) /\ FaultAt w.heap.size w' u a k) \/
   ∃ n base bds tail, Sound Dc t n base bds tail /\
    (((chkB eds).2 ≠ 0 /\ ∃ u, e = .returned (.tuple #[.string (B []), u]) /\ ErrZ w.heap.size w' u (chkB eds).1 (chkB eds).2) \/
     ((chkB eds).2 = 0 /\ 50000 < (batchT eds).length /\ e = .returned (.tuple #[.string (B []), errV 11])) \/
     ((chkB eds).2 = 0 /\ (batchT eds).length <= 50000 /\ e = .returned (.tuple #[.string (B (t.take (wholeN n base bds) ++ Fr.fullR (batchT eds))), .nilIface]))))
theorem appended_any (t : List UInt8) (ht : t.length <= 60000) (eds : List Ed) (bv : Value) (w : World) (hE : EdV w bv eds) (hlen : eds.length <= 1000000) (hf : Fines8 eds) (hi : ∀ ed ∈ eds, I64 ed.id) (hT : TabB w) :
  Calls Tryz.prog 21 #[.string (B t), bv] w fun e w' => AppR w w' t eds e := by
 have TB : Hid (∀ W, Below w.heap.size w W -> TabB W) := fun W hW => hT.below hW (Nat.le_refl _)
 have hsz : (B t).size = t.length := B_size t
 have RD := Lib.hid (bookRead_any t (by omega) (by have := base_short t (hl (Hd.genP t)); omega) w hT)
 have EV : Hid (∀ W, Below w.heap.size w W -> EdV W bv eds) := fun W hW => hE.below hW (Nat.le_refl _)
 have HF := Lib.hid hf
 have HI := Lib.hid hi
 obtain ⟨va, vc, rfl, _⟩ : ∃ A c, bv = .slice A eds.length c /\ True := by obtain ⟨A, c, e, _⟩ := hE; exact ⟨A, c, e, trivial⟩
 clear hT hE hf hi
 go_enter Tryz.func21, Tryz.ntmps21
 go_wp2_with fail
 refine RD.out.mono ?_
 rintro e w1 hr
 obtain ⟨b1, h1⟩ := hr.two
 have B1 := Lib.hid b1
 clear RD hr b1
 rcases h1 with ⟨a, k, u, hbad, rfl, hf1⟩ | ⟨n, base, bds, tail, v, hS, rfl, hBR⟩
 ·have hbz : Below w1.heap.size w1 (w1.alloc (.cells #[.int .i64 0, .string ⟨#[]⟩, .slice none 0 0, .slice none 0 0, .string ⟨#[]⟩] 26)) := (Below.refl _ _).alloc (Nat.le_refl _) _
  have B2 := Lib.hid (B1.out.trans (hbz.mono B1.out.size))
  have F2 := Lib.hid (hf1.below hbz (Nat.le_refl _))
  obtain ⟨q, _, rfl, _⟩ := hf1
  have HBAD := Lib.hid hbad
  unfold zeroB bookV
  clear hbz hbad
  go_wp2_with fail
  go_ret2
  exact ⟨B2.out, .inl ⟨a, k, _, HBAD.out, rfl, F2.out⟩⟩
 have BR2 := hBR
 obtain ⟨bbv, ev, us, rfl, hBt, hEv⟩ := hBR.is
 obtain ⟨ba, bc, rfl, _⟩ := own_slice hBt.row
 obtain ⟨ea, ec, rfl, _⟩ := own_slice hEv
 have PT := hS.parts
 unfold bookV at *
 obtain ⟨w3, hw3⟩ : ∃ z, w1.alloc (.cells #[.int .i64 (n : Int), .string (B base), .slice ba bds.length bc, .slice ea bds.length ec, .string (B tail)] 26) = z := ⟨_, rfl⟩
 obtain ⟨b23, C3⟩ := bcells hw3
 have B3 := Lib.hid (B1.out.trans (b23.mono B1.out.size))
 have hWl : wholeN n base bds <= t.length := by have := PT.len; omega
 have WH : Hid (∀ W, Below w3.heap.size w3 W -> Calls Tryz.prog 15 #[.agg #[.int .i64 (n : Int), .string (B base), .slice ba bds.length bc, .slice ea bds.length ec, .string (B tail)]] W fun e w' => e = .returned (.int .i64 (wholeN n base bds : Nat)) /\ Below W.heap.size W w') := fun W hW => whole_any ((BR2.below b23).below hW) (by omega) (TB.out W (B3.out.trans (hW.mono B3.out.size)))
 have EN := Lib.hid (encode_any eds _ w3 (EV.out w3 B3.out) hlen HF.out HI.out (TB.out w3 B3.out).tabs)
 have HS := Lib.hid hS
 have HC3 := Lib.hid C3
 have HW3 := Lib.hid hw3
 have EX : Hid ((B t).extract 0 (wholeN n base bds) = B (t.take (wholeN n base bds))) := Fr.ext_take _ _
 have RS : Hid (∀ e : Ending, ∀ w', Below w.heap.size w w' -> (((chkB eds).2 ≠ 0 /\ ∃ u, e = .returned (.tuple #[.string (B []), u]) /\ ErrZ w.heap.size w' u (chkB eds).1 (chkB eds).2) \/ ((chkB eds).2 = 0 /\ 50000 < (batchT eds).length /\ e = .returned (.tuple #[.string (B []), errV 11])) \/ ((chkB eds).2 = 0 /\ (batchT eds).length <= 50000 /\ e = .returned (.tuple #[.string (B (t.take (wholeN n base bds) ++ Fr.fullR (batchT eds))), .nilIface]))) -> AppR w w' t eds e) := fun e w' hb h => ⟨hb, .inr ⟨n, base, bds, tail, hS, h⟩⟩
 clear BR2 hBR hBt hEv hS PT b23 C3 hw3
 generalize hWW : wholeN n base bds = W at *
 go_wp2_with fail
 rw [HW3.out]
 refine EN.out.mono ?_
 rintro e w4 ⟨b4, h4⟩
 have B4 := Lib.hid (B3.out.trans (b4.mono B3.out.size))
 have HB34 := Lib.hid b4
 clear EN b4
 rcases h4 with ⟨hc, rfl⟩ | ⟨hc, u, rfl, hz⟩
 rotate_left
 ·
  have Z4 := Lib.hid (hz.mono (B3.out.size))
  have hform := hz
  obtain ⟨_, hform⟩ := hform
  have hform : (∃ z, u = .iface 57 (.int .i64 z)) \/ ∃ q, u = .iface 68 (.pointer (some ⟨q, 0, none⟩)) := by
   rcases hform with ⟨rfl, _⟩ | ⟨_, ⟨q, _, rfl, _⟩, _, _⟩
   ·rw [errV_pos _ (by omega)]; exact .inl ⟨_, rfl⟩
   exact .inr ⟨q, rfl⟩
  have R4 := Lib.hid (RS.out (.returned (.tuple #[.string (B []), u])) w4 B4.out (.inl ⟨hc, u, rfl, Z4.out⟩))
  clear hz RS
  rcases hform with ⟨z, rfl⟩ | ⟨q, rfl⟩
  all_goals
   go_wp2_with fail
   go_ret2
   exact R4.out
 have hbt := B_size (batchT eds)
 by_cases hbig : 50000 < (batchT eds).length
 ·have RC := Lib.hid (record_longB (batchT eds) hbig w4)
  have RSX : Hid (∀ w', Below w.heap.size w w' -> AppR w w' t eds (.returned (.tuple #[.string (B []), errV 11]))) := fun w' hb => RS.out _ w' hb (.inr (.inl ⟨hc, hbig, rfl⟩))
  rw [errV_2] at RC
  rw [errV_pos 11 (by decide)] at RSX
  clear RS
  generalize B (batchT eds) = X at *
  go_wp2_with fail
  refine RC.out.mono ?_
  rintro e w5 ⟨rfl, b5⟩
  have R5 := Lib.hid (RSX.out w5 (B4.out.trans (b5.mono B4.out.size)))
  clear b5 RC
  go_wp2_with fail
  go_ret2
  exact R5.out
 have hgd : Fr.goodR (batchT eds) = true := Fr.batch_body hc (by omega)
 have RC := Lib.hid (Fr.record_yes (batchT eds) hgd w4 (TB.out w4 B4.out).nums)
 have hfl := Fr.full_le hgd
 have hfs : (B (Fr.fullR (batchT eds))).size = (Fr.fullR (batchT eds)).length := B_size _
 have EX2 : Hid (B (t.take W) ++ B (Fr.fullR (batchT eds)) = B (t.take W ++ Fr.fullR (batchT eds))) := by show _ = _; rw [B_append]
 have RSX : Hid (∀ w', Below w.heap.size w w' -> AppR w w' t eds (.returned (.tuple #[.string (B (t.take W ++ Fr.fullR (batchT eds))), .nilIface]))) := fun w' hb => RS.out _ w' hb (.inr (.inr ⟨hc, by omega, rfl⟩))
 have htk : (B (t.take W)).size = W := by rw [B_size, List.length_take]; omega
 clear RS hgd hc
 generalize Fr.fullR (batchT eds) = FR at *
 generalize B (batchT eds) = X at *
 go_wp2_with fail
 refine RC.out.mono ?_
 rintro e w5 ⟨rfl, b5⟩
 have B35 := Lib.hid (HB34.out.trans (b5.mono HB34.out.size))
 have B5 := Lib.hid (B4.out.trans (b5.mono B4.out.size))
 have k := cells_kept HC3.out B35.out HC3.out.lt
 have k0 := k.cell 0
 have k1 := k.cell 1
 have k2 := k.cell 2
 have k3 := k.cell 3
 have k4 := k.cell 4
 simp only [List.getElem?_toArray, List.getElem?_cons_zero, List.getElem?_cons_succ] at k0 k1 k2 k3 k4
 clear b5 RC k
 go_wp2_with fail
 refine (WH.out w5 B35.out).mono ?_
 rintro e w6 ⟨rfl, b6⟩
 have B36 := Lib.hid (B35.out.trans (b6.mono B35.out.size))
 have B6 := Lib.hid (B5.out.trans (b6.mono B5.out.size))
 have k := cells_kept HC3.out B36.out HC3.out.lt
 have j0 := k.cell 0
 have j1 := k.cell 1
 have j2 := k.cell 2
 have j3 := k.cell 3
 have j4 := k.cell 4
 simp only [List.getElem?_toArray, List.getElem?_cons_zero, List.getElem?_cons_succ] at j0 j1 j2 j3 j4
 have q5 : ¬ (120000 : Int) < (W : Int) + (FR.length : Int) := by omega
 have q6 : (W : Int) <= ((B t).size : Int) := by omega
 clear b6 k k0 k1 k2 k3 k4
 go_wp2_with fail
 refine (WH.out w6 B36.out).mono ?_
 rintro e w7 ⟨rfl, b7⟩
 have R7 := Lib.hid (RSX.out w7 (B6.out.trans (b7.mono B6.out.size)))
 have hex : ((B t).extract 0 W).size = W := by rw [EX.out]; exact htk
 clear b7 RSX
 go_wp2_with fail
 rw [EX.out, EX2.out]
 go_ret2
 exact R7.out
end Go.Proofs.YtbkeoiefolkjfaaGreatDoor.Bk
