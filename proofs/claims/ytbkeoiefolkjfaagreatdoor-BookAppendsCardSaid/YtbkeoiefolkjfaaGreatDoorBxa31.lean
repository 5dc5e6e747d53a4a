/- Texts put together: SJ, SK, SL. -/
import Derived.Test.YtbkeoiefolkjfaaGreatDoorBxa30
set_option linter.unusedVariables false
set_option maxRecDepth 100000
set_option maxHeartbeats 16000000
namespace Go.Proofs.YtbkeoiefolkjfaaGreatDoor.Bk
open Go.RowKit Go.Shelf
attribute [local go_sem] Oper.semAt_some
theorem results_b3 {fn : Func} {p u v : Tmp} {ty : TypeId} (h : fn.results = #[.cell p ty, .tmp u, .tmp v]) (tmps : Array Value) (P : Program) (w : World) :
  (results fn tmps).run P w = ((asAddr (tmps.getD p undef)).run P w).andThen fun a w₁ => ((loadVar ty a).run P w₁).andThen fun x w₂ => .ok (.tuple #[x, tmps.getD u undef, tmps.getD v undef]) w₂ := by
 simp only [results, h]
 simp [Sem.run_bind, Result.andThen]
theorem ret_b3 {fn : Func} {p u v : Tmp} (h : fn.results = #[.cell p 31, .tmp u, .tmp v]) (tmps : Array Value) (w : World) (b : Nat) (cur : Array Value) (hp : tmps.getD p undef = .pointer (some ⟨b, 0, none⟩))
  (hc : Cells w b 31 cur) (hz : cur.size = 5) : (results fn tmps).run Tryz.prog w = .ok (.tuple #[.agg cur, tmps.getD u undef, tmps.getD v undef]) w := by
 have L := run_loadVar_row (P := Tryz.prog) w b 31 31 cur (0, 0) _ hc Tryz.underlying31 rfl (by rw [hz]; kernel_rfl)
 rw [results_b3 h, hp]
 show ((loadVar _ _).run _ _).andThen _ = _
 rw [L]; rfl
def RefR (w w' : World) (t : List UInt8) (e : Ending) : Prop := Below w.heap.size w w' /\
  ((∃ a k : Nat, parseL (baseL (t.drop (hl (Hd.genP t)))) = .error (a, k) /\ e = .returned (.tuple #[zeroB, .int .i64 a, .int .i64 k])) \/
   (∃ its bds r, parseL (baseL (t.drop (hl (Hd.genP t)))) = .ok its /\ Recd Dc (t.drop (hl (Hd.genP t) + (baseL (t.drop (hl (Hd.genP t)))).length)) bds r /\ FinB Dc r /\ e = .returned (.tuple #[zeroB, .int .i64 (bds.length : Nat), .int .i64 10])) \/
   (∃ base bds tail v, Sound Dc t (Hd.genP t) base bds tail /\ e = .returned (.tuple #[v, .int .i64 (-9), .int .i64 0]) /\ BookR w.heap.size w' v (Hd.genP t) base bds tail))
def LnsA (w : World) (v : Value) (xs : List Ln) : Prop :=
 ∃ A cap, v = .slice A xs.length cap /\ xs.length <= cap /\ ∀ (i : Nat) (x : Ln), xs[i]? = some x -> ∃ b off, A = some ⟨b, off, none⟩ /\ b < w.heap.size /\ w.cell? ⟨b, off + i * 4 + 1, none⟩ = some (.int .i64 (x.at_ : Nat)) /\ w.cell? ⟨b, off + i * 4 + 1 + 1, none⟩ = some (.string (B x.text))
theorem LnsA.below {w w' : World} {v : Value} {xs : List Ln} {n : Nat} (h : LnsA w v xs) (hb : Below n w w') (hn : w.heap.size <= n) : LnsA w' v xs := by
 obtain ⟨A, cap, hv, hle, hc⟩ := h
 refine ⟨A, cap, hv, hle, fun i x hi => ?_⟩
 obtain ⟨b, off, hA, hlt, c0, c1⟩ := hc i x hi
 have hlt' := Nat.lt_of_lt_of_le hlt hn
 exact ⟨b, off, hA, Nat.lt_of_lt_of_le hlt hb.size, (hb.cell (p := ⟨b, off + i * 4 + 1, none⟩) hlt').trans c0, (hb.cell (p := ⟨b, off + i * 4 + 1 + 1, none⟩) hlt').trans c1⟩
theorem lnsA_own {w : World} {base : Nat} {v : Value} {xs : List Ln} (h : w.ownsRow base 74 4 v xs.length (cellsOf xs)) : LnsA w v xs := by
  rcases Joins.ownsRow_forms h with ⟨e, hn⟩ | ⟨g, cap, e⟩
  . have : xs = [] := List.length_eq_zero_iff.1 hn
    rw [e, this]
    exact ⟨none, 0, rfl, Nat.le_refl _, fun i it hi => by simp at hi⟩
  refine ⟨some ⟨g, 0, none⟩, cap, e, (by rcases h.2 with ⟨q, _⟩ | ⟨g', cap', cur, q, _, _, q2, _⟩; · rw [e] at q; cases q
                                         rw [e] at q; cases q; exact q2), fun i x hi => ?_⟩
  have hlt : i < xs.length := by
    rcases Nat.lt_or_ge i xs.length with q | q
    . exact q
    rw [List.getElem?_eq_none q] at hi; cases hi
  rw [e] at h
  have hx : xs = xs.take i ++ x :: xs.drop (i + 1) := by
    have e := List.drop_eq_getElem_cons hlt
    rw [List.getElem?_eq_getElem hlt] at hi
    rw [Option.some.inj hi] at e
    rw [<- e, List.take_append_drop]
  have hti : (xs.take i).length = i := by rw [List.length_take]; omega
  have c1 : (cellsOf xs)[i * 4 + 1]? = some (.int .i64 (x.at_ : Nat)) := by
    have := cellsOf_at (xs.take i) x (xs.drop (i + 1)) 1 (by decide)
    rw [hti, <- hx] at this
    exact this
  have c2 : (cellsOf xs)[i * 4 + 2]? = some (.string ⟨x.text.toArray⟩) := by
    have := cellsOf_at (xs.take i) x (xs.drop (i + 1)) 2 (by decide)
    rw [hti, <- hx] at this
    exact this
  refine ⟨g, 0, rfl, (World.ownsRow.lt h g rfl).2, ?_, ?_⟩
  . rw [Nat.zero_add, World.ownsRow.cellAt h (i * 4 + 1) (by omega)]; exact c1
  rw [Nat.zero_add, World.ownsRow.cellAt h (i * 4 + 1 + 1) (by omega)]; exact c2
theorem lines_few : ∀ xs : List Ln, (∀ x ∈ xs, 1 <= x.bytes.length) -> xs.length <= (xs.flatMap Ln.bytes).length
 | [], _ => Nat.le_refl _
 | x :: r, h => by
  have h1 := h x (List.mem_cons_self ..)
  have h2 := lines_few r fun y hy => h y (List.mem_cons_of_mem _ hy)
  rw [List.flatMap_cons, List.length_append, List.length_cons]; omega
theorem body_le (b : List UInt8) : b.length <= (Fr.fullR b).length := by
 rw [full_form]; simp only [List.length_append, List.length_cons]; omega
theorem cutAt_cons (x : Ln) (r : List Ln) (n : Nat) : cutAt (x :: r) n = if begL x.text = true then x.at_ else cutAt r n := by
 unfold cutAt
 rw [List.find?_cons]
 cases h : begL x.text <;> simp
theorem cutAt_lt {t : List UInt8} {xs : List Ln} (hx : linesOf t = xs) (k : Nat) : cutAt (xs.drop k) t.length <= t.length := by
 unfold cutAt
 cases h : (xs.drop k).find? (fun x => begL x.text) with
 | none => exact Nat.le_refl _
 | some x =>
 obtain ⟨_, pre, post, he, _⟩ := List.find?_eq_some_iff_append.1 h
 have hx2 : linesOf t = (xs.take k ++ pre) ++ x :: post := by rw [hx, List.append_assoc, <- he, List.take_append_drop]
 obtain ⟨_, ha⟩ := linesOf_at t _ x post hx2
 have hj := linesOf_join t
 rw [hx2, List.flatMap_append] at hj
 show x.at_ <= t.length
 rw [ha, <- hj, List.length_append]
 omega
theorem corruptR {w w7 : World} (hB : Below w.heap.size w w7) (C7 : Cells w7 w.heap.size 31 #[.int .i64 0, .string ⟨#[]⟩, .slice none 0 0, .slice none 0 0, .string ⟨#[]⟩]) :
  Below w.heap.size w ((((((w7.setCell ⟨w.heap.size, 0, none⟩ (.int .i64 0)).setCell ⟨w.heap.size, 1, none⟩ (.string ⟨#[]⟩)).setCell ⟨w.heap.size, 2, none⟩ (.slice none 0 0)).setCell ⟨w.heap.size, 3, none⟩ (.slice none 0 0)).setCell ⟨w.heap.size, 4, none⟩ (.string ⟨#[]⟩))).drew /\
  Cells ((((((w7.setCell ⟨w.heap.size, 0, none⟩ (.int .i64 0)).setCell ⟨w.heap.size, 1, none⟩ (.string ⟨#[]⟩)).setCell ⟨w.heap.size, 2, none⟩ (.slice none 0 0)).setCell ⟨w.heap.size, 3, none⟩ (.slice none 0 0)).setCell ⟨w.heap.size, 4, none⟩ (.string ⟨#[]⟩))).drew w.heap.size 31 #[.int .i64 0, .string ⟨#[]⟩, .slice none 0 0, .slice none 0 0, .string ⟨#[]⟩] := by
 obtain ⟨h1, h2⟩ := put5 C7 (.int .i64 0) (.string ⟨#[]⟩) (.slice none 0 0) (.slice none 0 0) (.string ⟨#[]⟩)
 have hlt := C7.lt
 exact ⟨(hB.trans (h2.to_below hB.size (fun r hr e => by omega))).drew, h1.drew⟩
theorem refRead13_any (t : List UInt8) (ht : t.length <= 6000) (w : World) :
  Calls Tryz.prog 10 #[.string (B t)] w fun e w' => RefR w w' t e := by
 obtain ⟨i1, hi, hz0, hz1, hib⟩ := info_parts infoInt13
 obtain ⟨i2, hiB, hB0, hB1, hBb⟩ := info_parts infoBat
 have hsz : (B t).size = t.length := B_size t
 have hgen := Hd.genP_is t
 have hn := Hd.gen_lt hgen
 have hhl := hl_le hgen
 generalize hnn : Hd.genP t = n at *
 obtain ⟨w0, hw0⟩ : ∃ z, w.alloc (.cells #[.int .i64 0, .string ⟨#[]⟩, .slice none 0 0, .slice none 0 0, .string ⟨#[]⟩] 31) = z := ⟨_, rfl⟩
 have hb0 : Below w.heap.size w w0 := by rw [<- hw0]; exact (Below.refl _ w).alloc (Nat.le_refl _) _
 have hz : w0.heap.size = w.heap.size + 1 := by rw [<- hw0]; simp
 have C0 : Cells w0 w.heap.size 31 #[.int .i64 0, .string ⟨#[]⟩, .slice none 0 0, .slice none 0 0, .string ⟨#[]⟩] := by rw [<- hw0]; exact Cells.new _ _ _
 have TK := Lib.hid (Hd.reftake_any (B t) (by rw [B_size]; omega) n (by rw [B_data]; exact hgen) w0)
 rw [B_data, hl_lenP] at TK
 have HB0 := Lib.hid hb0
 have HC0 := Lib.hid C0
 have HW0 := Lib.hid hw0
 have q1 : ¬ (120000 : Int) < ((B t).size : Int) := by omega
 have hlen : (t.drop (hl n)).length <= 6000 := by rw [List.length_drop]; omega
 have hlen2 : (t.drop (hl n)).length + hl n = t.length := by rw [List.length_drop]; omega
 have HZ := Lib.hid hz
 have hXS0 : ∃ xs, linesOf (t.drop (hl n)) = xs := ⟨_, rfl⟩
 obtain ⟨xs, hxs⟩ := hXS0
 have HCL := Lib.hid (fun k => cutAt_lt hxs k)
 have hbl0 : (baseL (t.drop (hl n))).length = cutAt xs (t.drop (hl n)).length := by rw [baseL_len, hxs]
 have EXB : Hid ((B (t.drop (hl n))).extract 0 (cutAt xs (t.drop (hl n)).length) = B (baseL (t.drop (hl n)))) := by
  show _ = _
  rw [Fr.ext_take]; unfold baseL; rw [hxs]
 have hpos : ∀ x ∈ xs, 1 <= x.bytes.length := by rw [<- hxs]; exact linesOn_pos _ 0 0 _ (Nat.le_refl _)
 have hjoin : (xs.flatMap Ln.bytes) = t.drop (hl n) := by rw [<- hxs]; exact linesOf_join _
 have hfew := lines_few xs hpos
 rw [hjoin] at hfew
 have HJ := Lib.hid hjoin
 have HBL := Lib.hid hbl0
 have HGEN := Lib.hid hgen
 generalize hbase : baseL (t.drop (hl n)) = base at *
 have hRS : ∃ rest, t.drop (hl n) = rest := ⟨_, rfl⟩
 obtain ⟨rest, hrest⟩ := hRS
 rw [hrest] at TK HCL HBL EXB HJ hlen hlen2 hfew hxs
 have HXS := Lib.hid hxs
 have hrz : (B rest).size = rest.length := B_size rest
 clear hpos hjoin hbl0 hgen C0 hw0 hz hb0 hxs
 go_enter Tryz.func10, Tryz.ntmps10
 go_wp2_with fail
 rw [HW0.out]
 refine TK.out.mono ?_
 rintro e w1 ⟨rfl, b1⟩
 have HB1 := Lib.hid (HB0.out.trans (b1.mono HB0.out.size))
 have hs1 := b1.size
 have HC1 := Lib.hid (cells_kept HC0.out b1 HC0.out.lt)
 have SP := Lib.hid (refSplit_any (B rest) (by rw [B_size]; omega) w1)
 rw [B_data, HXS.out] at SP
 clear TK b1
 go_wp2_with fail
 refine SP.out.mono ?_
 rintro e wS ⟨lv, rfl, hlr, bS⟩
 have LAq := Lib.hid (lnsA_own hlr)
 obtain ⟨la, lc, rfl, _⟩ := own_slice hlr
 have HBS := Lib.hid (HB1.out.trans (bS.mono HB1.out.size))
 have hsS := bS.size
 have HCS := Lib.hid (cells_kept HC1.out bS HC1.out.lt)
 clear SP hlr bS
 go_wp2_with fail
 go_loopw [8, 9] (fun cv iv wr => ∃ k : Nat, k <= xs.length /\ iv = .int .i64 ((k : Int) - 1) /\ cv = .int .i64 (cutAt (xs.drop k) rest.length : Nat) /\ Below wS.heap.size wS wr) (fun _ iv _ => (intOf iv + 1).toNat)
 case atStart => exact ⟨xs.length, Nat.le_refl _, by go_num, by rw [List.drop_length]; unfold cutAt; rw [List.find?_nil, <- hrz], Below.refl _ _⟩
 case round =>
 obtain ⟨k, hk, rfl, rfl, hb⟩ := hrel
 rcases Nat.eq_zero_or_pos k with rfl | hkp
 rotate_left
 ·obtain ⟨j, rfl⟩ : ∃ j, k = j + 1 := ⟨k - 1, by omega⟩
  obtain ⟨x, hx⟩ : ∃ x, xs[j]? = some x := ⟨_, List.getElem?_eq_getElem (by omega)⟩
  have hdr : xs.drop j = x :: xs.drop (j + 1) := by
   have e := List.drop_eq_getElem_cons (show j < xs.length by omega)
   rw [List.getElem?_eq_getElem (by omega)] at hx
   rw [Option.some.inj hx] at e
   exact e
  have CC := Lib.hid (cutAt_cons x (xs.drop (j + 1)) rest.length)
  rw [<- hdr] at CC
  obtain ⟨A, cap, e, _, hc⟩ := LAq.out.below hb (Nat.le_refl _)
  cases e
  obtain ⟨b, off, rfl, hbb, c1, c2⟩ := hc j x hx
  have hxl : x.text.length <= 6000 := by
   have h1 : x.bytes.length <= (xs.flatMap Ln.bytes).length := by
    obtain ⟨p1, p2, e⟩ := List.append_of_mem (List.mem_of_getElem? hx)
    rw [e, List.flatMap_append, List.flatMap_cons, List.length_append, List.length_append]; omega
   have h2 := congrArg List.length HJ.out
   have h3 : x.text.length <= x.bytes.length := by unfold Ln.bytes; simp
   omega
  have BG := Lib.hid (Fr.refBegins_any (B x.text) (by rw [B_size]; omega) wr)
  rw [B_data, show (Fr.signB x.text && decide (kindL x.text = 5)) = begL x.text from rfl] at BG
  have ij : (((j + 1 : Nat) : Int) - 1) = (j : Int) := by omega
  have hzb := hb.size
  clear hc hx hdr
  rw [ij]
  cases hbx : begL x.text with
  | true =>
   rw [hbx] at BG CC
   rw [if_pos rfl] at CC
   go_wp2_with fail
   refine BG.out.mono ?_
   rintro e wb ⟨rfl, b2⟩
   have c1' := (b2.cell (p := ⟨b, off + j * 4 + 1, none⟩) hbb).trans c1
   have HB2 := Lib.hid (hb.trans (b2.mono hzb))
   clear BG b2 c1 c2
   go_wp2_with fail
   go_roundw
   case rel => exact ⟨j, by omega, by go_num, by rw [CC.out], HB2.out⟩
   case measure => simp [intOf]
  | false =>
  rw [hbx] at BG CC
  rw [if_neg (by decide)] at CC
  go_wp2_with fail
  refine BG.out.mono ?_
  rintro e wb ⟨rfl, b2⟩
  have HB2 := Lib.hid (hb.trans (b2.mono hzb))
  clear BG b2 c1 c2
  go_wp2_with fail
  go_roundw
  case rel => exact ⟨j, by omega, by go_num, by rw [CC.out], HB2.out⟩
  case measure => simp [intOf]
 obtain ⟨w2, hw2⟩ : ∃ z, z = wr := ⟨_, rfl⟩
 subst hw2
 rw [List.drop_zero, <- HBL.out]
 have hcut : ((base.length : Nat) : Int) <= ((B rest).size : Int) := by have h1 := HCL.out 0; rw [List.drop_zero, <- HBL.out] at h1; omega
 rw [<- HBL.out] at EXB
 have HB2 := Lib.hid (HBS.out.trans (hb.mono HBS.out.size))
 have hs2 := hb.size
 obtain ⟨w3, hw3⟩ : ∃ z, w2.alloc (.cells #[.int .i64 (n : Int), .string (B base), .slice none 0 0, .slice none 0 0, .string ⟨#[]⟩] 31) = z := ⟨_, rfl⟩
 have b23 : Below w2.heap.size w2 w3 := by rw [<- hw3]; exact (Below.refl _ _).alloc (Nat.le_refl _) _
 have C3 : Cells w3 w2.heap.size 31 #[.int .i64 (n : Int), .string (B base), .slice none 0 0, .slice none 0 0, .string ⟨#[]⟩] := by rw [<- hw3]; exact Cells.new _ _ _
 have HC2 := Lib.hid (cells_kept HCS.out (hb.trans (b23.mono hs2)) HCS.out.lt)
 have HB3 := Lib.hid (HB2.out.trans (b23.mono HB2.out.size))
 have PA := Lib.hid (refParse_any (B base) (by rw [B_size]; omega) w3)
 rw [B_data] at PA
 have HC3 := Lib.hid C3
 have HW3 := Lib.hid hw3
 have hs3 := b23.size
 have hlt3 := C3.lt
 have hlow : w.heap.size + 1 <= w2.heap.size := by have := HZ.out; omega
 have hbl : hl n + base.length <= t.length := by omega
 clear b23 C3 hw3 hb
 go_wp2_with fail
 rw [EXB.out]
 rw [HW3.out]
 refine PA.out.mono ?_
 rintro e w4 hp4
 cases hp : parseL base with
 | error an =>
  obtain ⟨a, k⟩ := an
  obtain ⟨b4, rfl⟩ := refParsedNo hp4 hp
  have hk := parse_no hp
  have q2 : ((k : Int) != 0) = true := by simp; omega
  have HB4 := Lib.hid (HB3.out.trans (b4.mono HB3.out.size))
  have HC4 := Lib.hid (cells_kept HC2.out b4 HC2.out.lt)
  obtain ⟨hput, honly⟩ := put5 HC4.out (.int .i64 0) (.string ⟨#[]⟩) (.slice none 0 0) (.slice none 0 0) (.string ⟨#[]⟩)
  have HBF := Lib.hid (HB4.out.trans (honly.to_below HB4.out.size (fun r hr e => by omega)))
  have HPUT := Lib.hid hput
  have c0 := HC4.out.cell 0
  have c1 := HC4.out.cell 1
  have c2 := HC4.out.cell 2
  have c3 := HC4.out.cell 3
  have c4 := HC4.out.cell 4
  have f0 := HC4.out.frozen 0
  have f1 := HC4.out.frozen 1
  have f2 := HC4.out.frozen 2
  have f3 := HC4.out.frozen 3
  have f4 := HC4.out.frozen 4
  simp only [List.getElem?_toArray, List.getElem?_cons_zero, List.getElem?_cons_succ] at c0 c1 c2 c3 c4
  have HP := Lib.hid hp
  clear hp4 b4 hput honly PA hp hk
  go_wp2_with fail
  refine bodyPost_ret (ret_b3 rfl _ _ w.heap.size _ rfl HPUT.out rfl) rfl ?_
  exact ⟨HBF.out, .inl ⟨a, k, by rw [hnn, hbase]; exact HP.out, rfl⟩⟩
 | ok its =>
 obtain ⟨b4, u, rfl, _⟩ := refParsedYes hp4 hp
 have hb4 := HB3.out.trans (b4.mono HB3.out.size)
 have hC4 := cells_kept HC2.out b4 HC2.out.lt
 have hK4 := cells_kept HC3.out b4 HC3.out.lt
 have HP := Lib.hid hp
 clear hp4 PA b4 hp
 go_wp2_with fail
 go_loopw [14] (fun pv wr => ∃ (bds : List (List UInt8)) (r : List UInt8) (bv ev : Value) (us : List Value), pv = .int .i64 (wholeN n base bds : Nat) /\ Recd Dc (t.drop (hl n + base.length)) bds r /\ Cells wr w2.heap.size 31 #[.int .i64 (n : Int), .string (B base), bv, ev, .string ⟨#[]⟩] /\ BatR w.heap.size wr bv bds us /\ wr.ownsRow w.heap.size 3 1 ev bds.length ((endsFrom (hl n + base.length) bds).map encN) /\ Cells wr w.heap.size 31 #[.int .i64 0, .string ⟨#[]⟩, .slice none 0 0, .slice none 0 0, .string ⟨#[]⟩] /\ Below w.heap.size w wr) (fun pv _ => t.length + 1 - (intOf pv).toNat)
 case atStart => exact ⟨[], _, _, _, [], by unfold wholeN; go_num, ⟨rfl, fun b h => by cases h⟩, hK4, BatR.nil _ _, ⟨rfl, .inl ⟨rfl, rfl⟩⟩, hC4, hb4⟩
 case round =>
 obtain ⟨bds, r, bv, ev, us, rfl, hR, hK, hBt, hEv, hC, hb⟩ := hrel
 obtain ⟨ba, bc, rfl, _⟩ := own_slice hBt.row
 obtain ⟨ea, ec, rfl, _⟩ := own_slice hEv
 have hrl := head_recs hR
 rw [List.length_drop] at hrl
 have hbdl := bds_len bds
 have hblen : base.length + hl n <= t.length := by omega
 have hWe : wholeN n base bds = hl n + base.length + (bds.flatMap Fr.fullR).length := rfl
 have hWle : wholeN n base bds <= t.length := by omega
 have hdrop : t.drop (wholeN n base bds) = r := by
  rw [hWe, drop_plus, hR.eq, List.drop_left]
 have EX : Hid ((B t).extract (wholeN n base bds) t.length = B r) := by
  show _ = _
  rw [<- hsz, Fr.ext_drop, hdrop]
 have hr6 : r.length <= 6000 := by omega
 have hrlen : r.length <= 700000 := by omega
 have BKR : BookR w.heap.size wr (bookV n base (.slice ba bds.length bc) (.slice ea bds.length ec) []) n base bds [] := ⟨_, _, us, rfl, hBt, hEv⟩
 have k0 := hK.cell 0
 have k1 := hK.cell 1
 have k2 := hK.cell 2
 have k3 := hK.cell 3
 have k4 := hK.cell 4
 simp only [List.getElem?_toArray, List.getElem?_cons_zero, List.getElem?_cons_succ] at k0 k1 k2 k3 k4
 have HR := Lib.hid hR
 have HK := Lib.hid hK
 have HBT := Lib.hid hBt
 have HEV := Lib.hid hEv
 have HC := Lib.hid hC
 have HB := Lib.hid hb
 have HWE := Lib.hid hWe
 have HRL := Lib.hid hrl
 clear hR hBt hEv hC hb hrl hdrop hWe BKR
 generalize hWW : wholeN n base bds = W at *
 have hWi : (W : Int) <= ((B t).size : Int) := by omega
 have FR := Lib.hid (Fr.refRead_any r hrlen wr)
 clear k0 k1 k2 k3 k4 hK
 go_wp2_with fail
 rw [EX.out]
 refine FR.out.mono ?_
 rintro e w6 ⟨kk, bb, mm, hread, rfl, rfl⟩
 have HB6 := HB
 have K6 := HK.out
 have C6 := HC.out
 have T6 := HBT.out
 have E6 := HEV.out
 clear FR
 unfold Fr.readV
 rcases hread with ⟨hwt, rfl, rfl⟩ | ⟨hpt, rfl, rfl, rfl⟩ | ⟨hnp, hnw, rfl, rfl, rfl⟩
 ·
  have hgb := Fr.good_iff.1 hwt.1
  have DE := Lib.hid (refDecode_any bb (by obtain ⟨_, m, e⟩ := hwt; have h1 := body_le bb; have h2 := congrArg List.length e; rw [List.length_append] at h2; omega) w6)
  have hfl : (Fr.fullR bb).length <= r.length := by
   obtain ⟨_, m, e⟩ := hwt
   rw [e, List.length_append]; omega
  go_wp2_with fail
  refine DE.out.mono ?_
  rintro e w7 ⟨b7, h7⟩
  have HB7 := Lib.hid (HB6.out.trans (b7.mono HB6.out.size))
  have hs7 := b7.size
  have K7 := cells_kept K6 b7 K6.lt
  have C7 := cells_kept C6 b7 C6.lt
  have T7 := T6.below b7
  have E7 := row_below E6 b7 (Nat.le_refl _)
  clear DE K6 C6 T6 E6
  rcases h7 with ⟨hd, rfl⟩ | ⟨eds, u7, fvs, hd, rfl, hO⟩
  ·have FB : Hid (FinB Dc r) := .inr ⟨bb, hwt, by unfold Dc; rw [hd]; rfl⟩
   clear hwt hd T7 E7 b7
   have c70 := C7.cell 0
   have c71 := C7.cell 1
   have c72 := C7.cell 2
   have c73 := C7.cell 3
   have c74 := C7.cell 4
   have g70 := C7.frozen 0
   have g71 := C7.frozen 1
   have g72 := C7.frozen 2
   have g73 := C7.frozen 3
   have g74 := C7.frozen 4
   have m72 := K7.cell 2
   simp only [List.getElem?_toArray, List.getElem?_cons_zero, List.getElem?_cons_succ] at c70 c71 c72 c73 c74 m72
   have CR := Lib.hid (corruptR HB7.out C7)
   have HN := Lib.hid (show w2.heap.size ≠ w.heap.size by omega)
   clear K7 C7
   go_wp2_with fail
   go_region
   all_goals go_wp2_with fail
   all_goals
    refine bodyPost_ret (ret_b3 rfl _ _ w.heap.size _ rfl CR.out.2 rfl) rfl ?_
    exact ⟨CR.out.1, .inr (.inl ⟨its, bds, r, by rw [hnn, hbase]; exact HP.out, by rw [hnn, hbase]; exact HR.out, FB.out, rfl⟩)⟩
  have hO' : OwnE w.heap.size w7 u7 (edsOf bb) fvs := by
   have : edsOf bb = eds := by unfold edsOf; rw [hd]; rfl
   rw [this]
   exact ⟨rowBase hO.row HB6.out.size, hO.len, fun i ed fv h1 h2 => rowBase (hO.each i ed fv h1 h2) HB6.out.size⟩
  have hDc : Dc bb = true := by unfold Dc; rw [hd]; rfl
  obtain ⟨ua, uc, rfl, _⟩ := own_slice hO.row
  have RS := Lib.hid (HR.out.snoc hwt hDc)
  have ES : Hid ((endsFrom (hl n + base.length) (bds ++ [bb])).map encN = (endsFrom (hl n + base.length) bds).map encN ++ [Value.int .i64 ((W : Int) + ((Fr.fullR bb).length : Int))]) := by
   show _ = _
   rw [endsFrom_snoc, List.map_append, <- HWE.out]
   simp [encN]
  have HWN : Hid (wholeN n base (bds ++ [bb]) = W + (Fr.fullR bb).length) := by
   show _ = _
   rw [<- hWW]; unfold wholeN
   rw [List.flatMap_append, List.length_append, List.flatMap_cons, List.flatMap_nil, List.append_nil]; omega
  have hm7 := full_pos bb
  have HO := Lib.hid hO'
  have T7' := Lib.hid T7
  have E7' := Lib.hid E7
  have K7' := Lib.hid K7
  have C7' := Lib.hid C7
  have N1 : ∀ (w3 : World) (T : TypeId) (x : Value), Hid (∀ (j : Nat) (u : Value), [x][j]? = some u -> (w3.alloc (.cells #[x] T)).cell? ((⟨w3.heap.size, 0, none⟩ : Addr).add j) = some u) := fun w3 T x j u h => by
   have ea : (⟨w3.heap.size, 0, none⟩ : Addr).add j = ⟨w3.heap.size, j, none⟩ := by unfold Addr.add; split <;> simp_all
   rw [ea, (Cells.new w3 T #[x]).cell j]
   simpa using h
  have N1b : ∀ (w3 : World) (b : Nat) (T : TypeId) (x : Value), w3.heap.size = b -> Hid (∀ (j : Nat) (u : Value), [x][j]? = some u -> (w3.alloc (.cells #[x] T)).cell? ((⟨b, 0, none⟩ : Addr).add j) = some u) := fun w3 b T x hb j u h => by
   rw [<- hb]; exact (N1 w3 T x).out j u h
  have k2 := K7.cell 2
  have f2 := K7.frozen 2
  simp only [List.getElem?_toArray, List.getElem?_cons_zero, List.getElem?_cons_succ] at k2
  have hlo7 : w.heap.size <= w7.heap.size := HB7.out.size
  have hkl : w2.heap.size < w7.heap.size := K7.lt
  have hbd1 : bds.length + (Fr.fullR bb).length <= t.length := by have := HRL.out; omega
  clear hwt hd hO hO' hDc T7 E7 K7 C7 b7
  generalize hm : (Fr.fullR bb).length = m at *
  have hwm : IntKind.i64.wrap ((W : Int) + (m : Int)) = (W : Int) + (m : Int) := IntWalk.i64_in _ (by have := HRL.out; have := HWE.out; omega)
  go_wp2_with (at_builtin; refine wpList_append_at rfl _ _ 23 rfl w.heap.size 37 i2 _ 1 24 Tryz.underlying23 hiB hB0 hB1 hBb rfl (by decide) _ _ _ rfl (T7'.out.row.alloc _) _ 1 1 [.slice ua eds.length uc] rfl rfl (N1 _ _ _).out (by intro u hu; simp at hu; subst hu; rfl) (by unfold maxLen; omega) (by omega) (by simp only [World.size_alloc]; omega) ?_)
  intro bv8 W8 own8 grow8 at8
  have hb8 : Below w7.heap.size w7 (w7.alloc (.cells #[.slice ua eds.length uc] 37)) := (Below.refl _ _).alloc (Nat.le_refl _) _
  have o8 : Only (fun r => (Value.slice ba bds.length bc).ownBlock = some r) w7 W8 := (Only.of_below (S := fun r => (Value.slice ba bds.length bc).ownBlock = some r) hb8 (Nat.le_refl _)).grown grow8 (fun r e => .inl e)
  have T8 := T7'.out.snoc HO.out own8 o8
  have E8 := row_only E7'.out o8 (fun b e q => own_own_ne T7'.out.row E7'.out (by decide) b q e)
  have K8 := K7'.out.only o8 (fun e => own_cells_ne T7'.out.row K7'.out (by decide) e)
  have C8 := C7'.out.only o8 (fun e => own_cells_ne T7'.out.row C7'.out (by decide) e)
  have B8 := HB7.out.trans (o8.to_below hlo7 (fun r hr e => by have := (T7'.out.row.lt r e).1; omega))
  have hs8 := o8.size
  obtain ⟨ba8, bc8, rfl, _⟩ := own_slice own8
  have K9 := K8.set 2 (.slice ba8 (bds.length + 1) bc8)
  rw [show (#[Value.int .i64 (n : Int), .string (B base), .slice ba bds.length bc, .slice ea bds.length ec, .string ⟨#[]⟩] : Array Value).setIfInBounds 2 (.slice ba8 (bds.length + 1) bc8) = #[.int .i64 (n : Int), .string (B base), .slice ba8 (bds.length + 1) bc8, .slice ea bds.length ec, .string ⟨#[]⟩] from rfl] at K9
  have o9 : Only (· = w2.heap.size) W8 (W8.setCell ⟨w2.heap.size, 2, none⟩ (.slice ba8 (bds.length + 1) bc8)) := (Only.refl (· = w2.heap.size) W8).cellS 2 _
  have T9 := T8.box K8 (by decide) (by decide) (by decide) o9
  have E9 := row_only E8 o9 (fun b e q => own_cells_ne E8 K8 (by decide) (by rw [e, q]))
  have C9 := C8.only o9 (fun e => by omega)
  have B9 := B8.trans (o9.to_below B8.size (fun r hr e => by omega))
  have kc2 := K8.cell 2
  have kf2 := K8.frozen 2
  have k93 := K9.cell 3
  have f93 := K9.frozen 3
  simp only [List.getElem?_toArray, List.getElem?_cons_zero, List.getElem?_cons_succ] at kc2 k93
  have HT9 := Lib.hid T9
  have HE9 := Lib.hid E9
  have HK9 := Lib.hid K9
  have HC9 := Lib.hid C9
  have HB9 := Lib.hid B9
  have hs9 := o9.size
  have HSZ : Hid ((W8.setCell ⟨w2.heap.size, 2, none⟩ (.slice ba8 (bds.length + 1) bc8)).heap.size = W8.heap.size) := by
   show _ = _
   simp [World.setCell]
  clear own8 grow8 at8 hb8 o8 T8 E8 K8 C8 B8 K9 o9 T9 E9 C9 B9 T7' E7' K7' C7' HO k2 f2
  go_wp2_with (at_builtin; refine wpList_append_at rfl _ _ 24 rfl w.heap.size 3 i1 _ 1 8 Tryz.underlying24 hi hz0 hz1 hib rfl (by decide) _ _ _ rfl (HE9.out.alloc _) _ 1 1 [.int .i64 ((W : Int) + (m : Int))] rfl rfl (by first | exact (N1b _ _ _ _ HSZ.out).out | exact (N1 _ _ _).out) (by intro u hu; simp at hu; subst hu; rfl) (by unfold maxLen; omega) (by omega) (by simp only [World.size_alloc]; omega) ?_)
  intro ev10 W10 own10 grow10 at10
  generalize hw9 : W8.setCell ⟨w2.heap.size, 2, none⟩ (.slice ba8 (bds.length + 1) bc8) = W9 at *
  have hb10 : Below W9.heap.size W9 (W9.alloc (.cells #[.int .i64 ((W : Int) + (m : Int))] 3)) := (Below.refl _ _).alloc (Nat.le_refl _) _
  have o10 : Only (fun r => (Value.slice ea bds.length ec).ownBlock = some r) W9 W10 := (Only.of_below (S := fun r => (Value.slice ea bds.length ec).ownBlock = some r) hb10 (Nat.le_refl _)).grown grow10 (fun r e => .inl e)
  have T10 := HT9.out.beside HE9.out (by decide) (by decide) (by decide) o10
  have K10 := HK9.out.only o10 (fun e => own_cells_ne HE9.out HK9.out (by decide) e)
  have C10 := HC9.out.only o10 (fun e => own_cells_ne HE9.out HC9.out (by decide) e)
  have B10 := HB9.out.trans (o10.to_below HB9.out.size (fun r hr e => by have := (HE9.out.lt r e).1; omega))
  obtain ⟨ea10, ec10, rfl, _⟩ := own_slice own10
  have K11 := K10.set 3 (.slice ea10 (bds.length + 1) ec10)
  rw [show (#[Value.int .i64 (n : Int), .string (B base), .slice ba8 (bds.length + 1) bc8, .slice ea bds.length ec, .string ⟨#[]⟩] : Array Value).setIfInBounds 3 (.slice ea10 (bds.length + 1) ec10) = #[.int .i64 (n : Int), .string (B base), .slice ba8 (bds.length + 1) bc8, .slice ea10 (bds.length + 1) ec10, .string ⟨#[]⟩] from rfl] at K11
  have o11 : Only (· = w2.heap.size) W10 (W10.setCell ⟨w2.heap.size, 3, none⟩ (.slice ea10 (bds.length + 1) ec10)) := (Only.refl (· = w2.heap.size) W10).cellS 3 _
  have T11 := Lib.hid (T10.box K10 (by decide) (by decide) (by decide) o11)
  have E11 := Lib.hid (row_only own10 o11 (fun b e q => own_cells_ne own10 K10 (by decide) (by rw [e, q])))
  have C11 := Lib.hid (C10.only o11 (fun e => by omega))
  have B11 := Lib.hid (B10.trans (o11.to_below B10.size (fun r hr e => by omega)))
  have HK11 := Lib.hid K11
  have kc3 := K10.cell 3
  have kf3 := K10.frozen 3
  have l2 := K11.cell 2
  simp only [List.getElem?_toArray, List.getElem?_cons_zero, List.getElem?_cons_succ] at kc3 l2
  clear own10 grow10 at10 hb10 o10 T10 K10 C10 B10 K11 o11 l2 HT9 HE9 HK9 HC9 HB9 kc2 kf2 k93 f93
  go_wp2_with fail
  go_roundw
  case rel => exact ⟨bds ++ [bb], _, _, _, _, by rw [HWN.out]; go_num, RS.out, HK11.out, T11.out, by rw [ES.out, List.length_append]; exact E11.out, C11.out, B11.out⟩
  case measure =>
  show t.length + 1 - ((W : Int) + (m : Int)).toNat < t.length + 1 - ((W : Nat) : Int).toNat
  omega
 ·
  have K7 := K6.set 4 (.string (B r))
  rw [show (#[Value.int .i64 (n : Int), .string (B base), .slice ba bds.length bc, .slice ea bds.length ec, .string ⟨#[]⟩] : Array Value).setIfInBounds 4 (.string (B r)) = #[.int .i64 (n : Int), .string (B base), .slice ba bds.length bc, .slice ea bds.length ec, .string (B r)] from rfl] at K7
  have o7 : Only (· = w2.heap.size) w6 (w6.setCell ⟨w2.heap.size, 4, none⟩ (.string (B r))) := (Only.refl (· = w2.heap.size) w6).cellS 4 _
  have C7 := C6.only o7 (fun e => by omega)
  have T7 := T6.box K6 (by decide) (by decide) (by decide) o7
  have E7 := row_only E6 o7 (fun b e q => own_cells_ne E6 K6 (by decide) (by rw [e, q]))
  obtain ⟨P8, o8⟩ := put5 C7 (.int .i64 (n : Int)) (.string (B base)) (.slice ba bds.length bc) (.slice ea bds.length ec) (.string (B r))
  have T8 := T7.box C7 (by decide) (by decide) (by decide) o8
  have E8 := row_only E7 o8 (fun b e q => own_cells_ne E7 C7 (by decide) (by rw [e, q]))
  have HP8 := Lib.hid P8
  have B7 := HB6.out.trans (o7.to_below HB6.out.size (fun r hr e => by omega))
  have B8 := Lib.hid (B7.trans (o8.to_below B7.size (fun r hr e => by omega)))
  have BR := Lib.hid (show BookR w.heap.size _ (bookV n base (.slice ba bds.length bc) (.slice ea bds.length ec) r) n base bds r from ⟨_, _, us, rfl, T8, E8⟩)
  have SND := Lib.hid (show Sound Dc t n base bds r from ⟨HGEN.out, ⟨its, HP.out⟩, hbase, HR.out, hpt⟩)
  have f64 := K6.frozen 4
  have kk4 := K6.cell 4
  have c70 := C7.cell 0
  have c71 := C7.cell 1
  have c72 := C7.cell 2
  have c73 := C7.cell 3
  have c74 := C7.cell 4
  have g70 := C7.frozen 0
  have g71 := C7.frozen 1
  have g72 := C7.frozen 2
  have g73 := C7.frozen 3
  have g74 := C7.frozen 4
  have m70 := K7.cell 0
  have m71 := K7.cell 1
  have m72 := K7.cell 2
  have m73 := K7.cell 3
  have m74 := K7.cell 4
  simp only [List.getElem?_toArray, List.getElem?_cons_zero, List.getElem?_cons_succ] at kk4 c70 c71 c72 c73 c74 m70 m71 m72 m73 m74
  clear K6 C6 T6 E6 K7 o7 C7 T7 E7 P8 o8 T8 E8 B7 hpt
  go_upto_region 19 with fail
  rw [EX.out]
  go_wp2_with fail
  refine bodyPost_ret (ret_b3 rfl _ _ w.heap.size _ rfl HP8.out rfl) rfl ?_
  exact ⟨B8.out, .inr (.inr ⟨base, bds, r, _, by rw [hnn]; exact SND.out, rfl, by rw [hnn]; exact BR.out⟩)⟩
 -- no record, no tail
 have DE := Lib.hid (refDecode_any [] (by decide) w6)
 have FB : Hid (FinB Dc r) := .inl ⟨hnp, hnw⟩
 have DN := Lib.hid dec_nil
 clear hnp hnw
 go_wp2_with fail
 refine DE.out.mono ?_
 rintro e w7 ⟨b7, h7⟩
 have HB7 := Lib.hid (HB6.out.trans (b7.mono HB6.out.size))
 have hs7 := b7.size
 have K7 := cells_kept K6 b7 K6.lt
 have C7 := cells_kept C6 b7 C6.lt
 clear DE K6 C6 T6 E6 b7
 rcases h7 with ⟨hd, rfl⟩ | ⟨eds, u7, fvs, hd, _⟩
 rotate_left
 ·rw [DN.out] at hd; cases hd
 have c70 := C7.cell 0
 have c71 := C7.cell 1
 have c72 := C7.cell 2
 have c73 := C7.cell 3
 have c74 := C7.cell 4
 have g70 := C7.frozen 0
 have g71 := C7.frozen 1
 have g72 := C7.frozen 2
 have g73 := C7.frozen 3
 have g74 := C7.frozen 4
 have m72 := K7.cell 2
 simp only [List.getElem?_toArray, List.getElem?_cons_zero, List.getElem?_cons_succ] at c70 c71 c72 c73 c74 m72
 have CR := Lib.hid (corruptR HB7.out C7)
 have HN := Lib.hid (show w2.heap.size ≠ w.heap.size by omega)
 clear K7 C7
 go_wp2_with fail
 go_region
 all_goals go_wp2_with fail
 all_goals
  refine bodyPost_ret (ret_b3 rfl _ _ w.heap.size _ rfl CR.out.2 rfl) rfl ?_
  exact ⟨CR.out.1, .inr (.inl ⟨its, bds, r, by rw [hnn, hbase]; exact HP.out, by rw [hnn, hbase]; exact HR.out, FB.out, rfl⟩)⟩
end Go.Proofs.YtbkeoiefolkjfaaGreatDoor.Bk
namespace Go.Proofs.YtbkeoiefolkjfaaGreatDoor.Bk
open Go.RowKit Go.Shelf
attribute [local go_sem] Oper.semAt_some
theorem refWhole_any (t : List UInt8) (n : Nat) (base tail : List UInt8) (bv ev : Value) (W : Nat) (hW : t.length = W + tail.length) (ht : t.length <= 100000) (w : World) :
  Calls Tryz.prog 46 #[.string (B t), .agg #[.int .i64 (n : Int), .string (B base), bv, ev, .string (B tail)]] w fun e w' => e = .returned (.int .i64 (W : Nat)) /\ Below w.heap.size w w' := by
 have h1 := B_size t
 have h2 := B_size tail
 obtain ⟨w1, hw1⟩ : ∃ z, w.alloc (.cells #[.int .i64 (n : Int), .string (B base), bv, ev, .string (B tail)] 31) = z := ⟨_, rfl⟩
 have hb1 : Below w.heap.size w w1 := by rw [<- hw1]; exact (Below.refl _ _).alloc (Nat.le_refl _) _
 have C1 : Cells w1 w.heap.size 31 #[.int .i64 (n : Int), .string (B base), bv, ev, .string (B tail)] := by rw [<- hw1]; exact Cells.new _ _ _
 have k4 := C1.cell 4
 simp only [List.getElem?_toArray, List.getElem?_cons_zero, List.getElem?_cons_succ] at k4
 have HB1 := Lib.hid hb1
 clear hb1 C1
 go_enter Tryz.func46, Tryz.ntmps46
 go_wp2_with fail
 go_ret
 exact ⟨rfl, HB1.out⟩
def AppF (w w' : World) (t : List UInt8) (eds : List Ed) (e : Ending) : Prop := Below w.heap.size w w' /\
  ((∃ a k : Nat, BadAt t a k /\ e = .returned (.tuple #[.string (B []), .int .i64 a, .int .i64 k])) \/
   ∃ n base bds tail, Sound Dc t n base bds tail /\
    (((chkB eds).2 ≠ 0 /\ e = .returned (.tuple #[.string (B []), .int .i64 (chkB eds).1, .int .i64 (chkB eds).2])) \/
     ((chkB eds).2 = 0 /\ 50000 < (batchT eds).length /\ e = .returned (.tuple #[.string (B []), .int .i64 (-9), .int .i64 11])) \/
     ((chkB eds).2 = 0 /\ (batchT eds).length <= 50000 /\ e = .returned (.tuple #[.string (B (t.take (wholeN n base bds) ++ Fr.fullR (batchT eds))), .int .i64 (-9), .int .i64 0]))))
theorem RefR.two {w w' : World} {t : List UInt8} {e : Ending} (h : RefR w w' t e) : Below w.heap.size w w' /\
  ((∃ a k : Nat, BadAt t a k /\ e = .returned (.tuple #[zeroB, .int .i64 a, .int .i64 k])) \/ ∃ n base bds tail v, Sound Dc t n base bds tail /\ e = .returned (.tuple #[v, .int .i64 (-9), .int .i64 0]) /\ BookR w.heap.size w' v n base bds tail) := by
 obtain ⟨hb, h⟩ := h
 refine ⟨hb, ?_⟩
 rcases h with ⟨a, k, h1, h2⟩ | ⟨its, bds, r, h1, h2, h3, h4⟩ | ⟨base, bds, tail, v, h1, h2, h3⟩
 ·exact .inl ⟨a, k, .inl h1, h2⟩
 ·exact .inl ⟨bds.length, 10, .inr ⟨rfl, its, bds, r, h1, h2, h3, rfl⟩, h4⟩
 exact .inr ⟨_, base, bds, tail, v, h1, h2, h3⟩
theorem refAppended_any (t : List UInt8) (ht : t.length <= 6000) (eds : List Ed) (bv : Value) (w : World) (hE : EdV w bv eds) (hlen : eds.length <= 51) (hf : Fines8 eds) (hi : ∀ ed ∈ eds, I64 ed.id) :
  Calls Tryz.prog 22 #[.string (B t), bv] w fun e w' => AppF w w' t eds e := by
 have hsz : (B t).size = t.length := B_size t
 have RD := Lib.hid (refRead13_any t ht w)
 have EV : Hid (∀ W, Below w.heap.size w W -> EdV W bv eds) := fun W hW => hE.below hW (Nat.le_refl _)
 have HF := Lib.hid hf
 have HI := Lib.hid hi
 obtain ⟨va, vc, rfl, _⟩ : ∃ A c, bv = .slice A eds.length c /\ True := by obtain ⟨A, c, e, _⟩ := hE; exact ⟨A, c, e, trivial⟩
 have hB0 : Hid (B [] = ⟨#[]⟩) := rfl
 clear hE hf hi
 go_enter Tryz.func22, Tryz.ntmps22
 go_wp2_with fail
 refine RD.out.mono ?_
 rintro e w1 hr
 obtain ⟨b1, h1⟩ := hr.two
 have B1 := Lib.hid b1
 clear RD hr b1
 rcases h1 with ⟨a, k, hbad, rfl⟩ | ⟨n, base, bds, tail, v, hS, rfl, hBR⟩
 ·have hbz : Below w1.heap.size w1 (w1.alloc (.cells #[.int .i64 0, .string ⟨#[]⟩, .slice none 0 0, .slice none 0 0, .string ⟨#[]⟩] 31)) := (Below.refl _ _).alloc (Nat.le_refl _) _
  have B2 := Lib.hid (B1.out.trans (hbz.mono B1.out.size))
  have HBAD := Lib.hid hbad
  have hk := hbad.num
  have q2 : ((k : Int) != 0) = true := by simp; omega
  unfold zeroB bookV
  clear hbz hbad hk
  go_wp2_with fail
  go_ret3
  exact ⟨B2.out, .inl ⟨a, k, HBAD.out, rfl⟩⟩
 have BR2 := hBR
 obtain ⟨bbv, ev, us, rfl, hBt, hEv⟩ := hBR.is
 obtain ⟨ba, bc, rfl, _⟩ := own_slice hBt.row
 obtain ⟨ea, ec, rfl, _⟩ := own_slice hEv
 have PT := hS.parts
 unfold bookV at *
 obtain ⟨w3, hw3⟩ : ∃ z, w1.alloc (.cells #[.int .i64 (n : Int), .string (B base), .slice ba bds.length bc, .slice ea bds.length ec, .string (B tail)] 31) = z := ⟨_, rfl⟩
 have b23 : Below w1.heap.size w1 w3 := by rw [<- hw3]; exact (Below.refl _ _).alloc (Nat.le_refl _) _
 have C3 : Cells w3 w1.heap.size 31 #[.int .i64 (n : Int), .string (B base), .slice ba bds.length bc, .slice ea bds.length ec, .string (B tail)] := by rw [<- hw3]; exact Cells.new _ _ _
 have B3 := Lib.hid (B1.out.trans (b23.mono B1.out.size))
 have hWl : wholeN n base bds <= t.length := by have := PT.len; omega
 have WH : Hid (∀ W, Calls Tryz.prog 46 #[.string (B t), .agg #[.int .i64 (n : Int), .string (B base), .slice ba bds.length bc, .slice ea bds.length ec, .string (B tail)]] W fun e w' => e = .returned (.int .i64 (wholeN n base bds : Nat)) /\ Below W.heap.size W w') := fun W => refWhole_any t n base tail _ _ _ PT.len (by omega) W
 have RC := Lib.hid (refCheckB_any8 eds _ w3 (EV.out w3 B3.out) (by omega) HF.out)
 have EN : Hid (∀ W, Below w.heap.size w W -> (chkB eds).2 = 0 -> Calls Tryz.prog 45 #[.slice va eds.length vc] W fun e w' => e = .returned (.string (B (batchT eds))) /\ Below W.heap.size W w') := fun W hW hc => refEncodeA_any eds _ W (EV.out W hW) hlen (chkB_good hc).2 HI.out
 have HS := Lib.hid hS
 have HC3 := Lib.hid C3
 have HW3 := Lib.hid hw3
 have EX : Hid ((B t).extract 0 (wholeN n base bds) = B (t.take (wholeN n base bds))) := Fr.ext_take _ _
 have RS : Hid (∀ e : Ending, ∀ w', Below w.heap.size w w' -> (((chkB eds).2 ≠ 0 /\ e = .returned (.tuple #[.string (B []), .int .i64 (chkB eds).1, .int .i64 (chkB eds).2])) \/ ((chkB eds).2 = 0 /\ 50000 < (batchT eds).length /\ e = .returned (.tuple #[.string (B []), .int .i64 (-9), .int .i64 11])) \/ ((chkB eds).2 = 0 /\ (batchT eds).length <= 50000 /\ e = .returned (.tuple #[.string (B (t.take (wholeN n base bds) ++ Fr.fullR (batchT eds))), .int .i64 (-9), .int .i64 0]))) -> AppF w w' t eds e) := fun e w' hb h => ⟨hb, .inr ⟨n, base, bds, tail, HS.out, h⟩⟩
 clear BR2 hBR hBt hEv hS PT b23 C3 hw3
 generalize hWW : wholeN n base bds = W at *
 go_upto_region 2 with fail
 rw [HW3.out]
 go_upto_region 4 with fail
 go_wp2_with fail
 refine RC.out.mono ?_
 rintro e w4 ⟨rfl, b4⟩
 have B4 := Lib.hid (B3.out.trans (b4.mono B3.out.size))
 have HB34 := Lib.hid b4
 clear RC b4
 by_cases hc : (chkB eds).2 = 0
 rotate_left
 ·have R4 : Hid (∀ w', Below w.heap.size w w' -> AppF w w' t eds (.returned (.tuple #[.string (B []), .int .i64 (chkB eds).1, .int .i64 (chkB eds).2]))) := fun w' hb => RS.out _ w' hb (.inl ⟨hc, rfl⟩)
  have q2 : (((chkB eds).2 : Nat) : Int) ≠ 0 := by omega
  clear RS EN hc
  generalize (chkB eds).2 = N2 at *
  generalize (chkB eds).1 = N1 at *
  go_wp2_with fail
  go_ret3
  exact R4.out w4 B4.out
 have EN4 := Lib.hid (EN.out w4 B4.out hc)
 have hbt := B_size (batchT eds)
 have q2 : (((chkB eds).2 : Nat) : Int) = 0 := by omega
 clear EN
 by_cases hbig : 50000 < (batchT eds).length
 ·have RSX : Hid (∀ w', Below w.heap.size w w' -> AppF w w' t eds (.returned (.tuple #[.string (B []), .int .i64 (-9), .int .i64 11]))) := fun w' hb => RS.out _ w' hb (.inr (.inl ⟨hc, hbig, rfl⟩))
  have q3 : (50000 : Int) < ((B (batchT eds)).size : Int) := by omega
  clear RS hc
  generalize (chkB eds).2 = N2 at *
  generalize B (batchT eds) = X at *
  go_wp2_with fail
  refine EN4.out.mono ?_
  rintro e w5 ⟨rfl, b5⟩
  have R5 := Lib.hid (RSX.out w5 (B4.out.trans (b5.mono B4.out.size)))
  clear b5 EN4
  go_wp2_with fail
  go_ret3
  exact R5.out
 have hgd : Fr.goodR (batchT eds) = true := Fr.batch_body hc (by omega)
 have RR : Hid (∀ W, Calls Tryz.prog 48 #[.string (B (batchT eds))] W fun e w' => e = .returned (.string (B (Fr.fullR (batchT eds)))) /\ Below W.heap.size W w') := fun W => Fr.refRecord_any (batchT eds) (by omega) W
 have LN := Lib.hid (fun W => Fr.refLength_any ((batchT eds).length : Int) W)
 rw [Fr.len_full hgd] at LN
 have hfl := Fr.full_le hgd
 have hfs : (B (Fr.fullR (batchT eds))).size = (Fr.fullR (batchT eds)).length := B_size _
 have EX2 : Hid (B (t.take W) ++ B (Fr.fullR (batchT eds)) = B (t.take W ++ Fr.fullR (batchT eds))) := by show _ = _; rw [B_append]
 have RSX : Hid (∀ w', Below w.heap.size w w' -> AppF w w' t eds (.returned (.tuple #[.string (B (t.take W ++ Fr.fullR (batchT eds))), .int .i64 (-9), .int .i64 0]))) := fun w' hb => RS.out _ w' hb (.inr (.inr ⟨hc, by omega, rfl⟩))
 have htk : (B (t.take W)).size = W := by rw [B_size, List.length_take]; omega
 have q3 : ¬ (50000 : Int) < ((B (batchT eds)).size : Int) := by omega
 clear RS hgd hc
 generalize (chkB eds).2 = N2 at *
 generalize Fr.fullR (batchT eds) = FR at *
 generalize B (batchT eds) = X at *
 go_wp2_with fail
 refine EN4.out.mono ?_
 rintro e w5 ⟨rfl, b5⟩
 have B35 := Lib.hid (HB34.out.trans (b5.mono HB34.out.size))
 have B5 := Lib.hid (B4.out.trans (b5.mono B4.out.size))
 have k := cells_kept HC3.out B35.out HC3.out.lt
 have k0 := k.cell 0
 have k1 := k.cell 1
 have k2 := k.cell 2
 have k3 := k.cell 3
 have k4 := k.cell 4
 simp only [List.getElem?_toArray, List.getElem?_cons_zero, List.getElem?_cons_succ] at k0 k1 k2 k3 k4
 clear b5 EN4 k
 go_wp2_with fail
 refine (WH.out w5).mono ?_
 rintro e w6 ⟨rfl, b6⟩
 have B36 := Lib.hid (B35.out.trans (b6.mono B35.out.size))
 have B6 := Lib.hid (B5.out.trans (b6.mono B5.out.size))
 clear b6 k0 k1 k2 k3 k4
 go_wp2_with fail
 refine (LN.out w6).mono ?_
 rintro e V ⟨rfl, rfl⟩
 have q5 : ¬ (120000 : Int) < (W : Int) + (FR.length : Int) := by omega
 have q6 : (W : Int) <= ((B t).size : Int) := by omega
 have HCW := Lib.hid (cells_kept HC3.out B36.out HC3.out.lt)
 have k0 := HCW.out.cell 0
 have k1 := HCW.out.cell 1
 have k2 := HCW.out.cell 2
 have k3 := HCW.out.cell 3
 have k4 := HCW.out.cell 4
 simp only [List.getElem?_toArray, List.getElem?_cons_zero, List.getElem?_cons_succ] at k0 k1 k2 k3 k4
 have hex : ((B t).extract 0 W).size = W := by rw [EX.out]; exact htk
 clear LN
 have DR : Hid (Below V.heap.size V V.drew) := (Below.refl _ _).drew
 go_wp2_with fail
 have hcat : ¬ 9223372036854775807 < W + FR.length := by omega
 have hcat2 : (if 9223372036854775807 < W + FR.length then (1 : Nat) else 0) = 0 := if_neg hcat
 go_region_law (go_simp; first
  | (go_at_call 46; refine (WH.out _).mono ?_; rintro e wa ⟨rfl, ba⟩; have HA := Lib.hid (DR.out.trans ba); clear ba)
  | (go_at_call 48; refine (RR.out _).mono ?_; rintro e wz ⟨rfl, bz⟩; have HZ := Lib.hid (HA.out.trans (bz.mono HA.out.size)); clear bz))
 all_goals go_wp2_with fail
 all_goals
  rw [EX.out, EX2.out]
  go_ret3
  exact RSX.out _ (B6.out.trans (HZ.out.mono B6.out.size))
end Go.Proofs.YtbkeoiefolkjfaaGreatDoor.Bk
namespace Go.Proofs.YtbkeoiefolkjfaaGreatDoor.Bk
open Go.RowKit Go.Shelf
attribute [local go_sem] Oper.semAt_some
theorem Sound.one {t base base' tail tail' : List UInt8} {n n' : Nat} {bds bds' : List (List UInt8)} (h : Sound Dc t n base bds tail) (h' : Sound Dc t n' base' bds' tail') : n = n' /\ base = base' /\ bds = bds' /\ tail = tail' := by
 have e1 := Hd.gen_one h.gen h'.gen
 subst e1
 have e2 : base = base' := by rw [<- h.isB, h'.isB]
 subst e2
 obtain ⟨e3, e4⟩ := recd_one h.recd h'.recd (.inl h.fin) (.inl h'.fin)
 exact ⟨rfl, rfl, e3, e4⟩
theorem app_same {w w1 w2 w3 : World} {t : List UInt8} {eds : List Ed} {e e' : Ending} (h : AppR w w1 t eds e) (h' : AppF w2 w3 t eds e') :
  ∃ (X : ByteArray) (u : Value) (a : Int) (k : Nat), e = .returned (.tuple #[.string X, u]) /\ ErrZ w.heap.size w1 u a k /\ e' = .returned (.tuple #[.string X, .int .i64 a, .int .i64 k]) := by
 obtain ⟨_, h⟩ := h
 obtain ⟨_, h'⟩ := h'
 rcases h with ⟨a, k, u, hb, rfl, hf⟩ | ⟨n, base, bds, tail, hS, h⟩
 ·rcases h' with ⟨a', k', hb', rfl⟩ | ⟨n, base, bds, tail, hS, _⟩
  ·obtain ⟨rfl, rfl⟩ := hb.one hb'
   exact ⟨_, _, _, _, rfl, ⟨hb.num.2, .inr ⟨a, hf, rfl, hb.num.1⟩⟩, rfl⟩
  exact (hb.not hS).elim
 rcases h' with ⟨a', k', hb', rfl⟩ | ⟨n', base', bds', tail', hS', h'⟩
 ·exact (hb'.not hS).elim
 obtain ⟨rfl, rfl, rfl, rfl⟩ := hS.one hS'
 rcases h with ⟨hc, u, rfl, hz⟩ | ⟨hc, hl, rfl⟩ | ⟨hc, hl, rfl⟩
 ·rcases h' with ⟨_, rfl⟩ | ⟨hc', _⟩ | ⟨hc', _⟩
  ·exact ⟨_, _, _, _, rfl, hz, rfl⟩
  ·exact (hc hc').elim
  exact (hc hc').elim
 ·rcases h' with ⟨hc', _⟩ | ⟨_, _, rfl⟩ | ⟨_, hl', _⟩
  ·exact (hc' hc).elim
  ·exact ⟨_, _, (-9 : Int), 11, rfl, ErrZ.err _ _ 11 (by decide), rfl⟩
  omega
 rcases h' with ⟨hc', _⟩ | ⟨_, hl', _⟩ | ⟨_, _, rfl⟩
 ·exact (hc' hc).elim
 ·omega
 exact ⟨_, _, (-9 : Int), 0, rfl, ErrZ.none _ _, rfl⟩
theorem appendsLaw (t : List UInt8) (eds : List Ed) (v1 : Value) (w : World) (ha : EdsIn w v1 eds) (hi : ∀ ed ∈ eds, I64 ed.id) (hT : TabB w) :
  Calls Tryz.prog 5 #[.string (B t), v1] w fun e w' => e = .returned (.bool true) /\ Below w.heap.size w w' := by
 have AL := Lib.hid (alive13 w hT)
 have TB : Hid (∀ W, Below w.heap.size w W -> TabB W) := fun W hW => hT.below hW (Nat.le_refl _)
 have hsz : (B t).size = t.length := B_size t
 have HEA := Lib.hid ha
 have HI := Lib.hid hi
 have hqq : ∀ t : ByteArray, ((t.toList == t.toList) = true) := fun t => by simp
 have hnn : ∀ t : Int, ((t == t) = true) := fun t => by simp
 obtain ⟨va, vac, rfl, _⟩ : ∃ A c, v1 = .slice A eds.length c /\ True := by obtain ⟨_, A, c, e, _⟩ := ha; exact ⟨A, c, e, trivial⟩
 clear ha hi hT
 by_cases hlong : 5000 < t.length
 ·have q1 : (5000 : Int) < ((B t).size : Int) := by omega
  go_enter Tryz.func5, Tryz.ntmps5
  go_wp2_with fail
  refine AL.out.mono ?_
  rintro e w1 ⟨rfl, b1⟩
  go_wp2_with fail
  go_ret
  exact ⟨rfl, b1⟩
 have q1 : ¬ (5000 : Int) < ((B t).size : Int) := by omega
 go_enter Tryz.func5, Tryz.ntmps5
 go_wp2_with fail
 refine AL.out.mono ?_
 rintro e w1 ⟨rfl, b1⟩
 have B1 := Lib.hid b1
 have HV := Lib.hid (heavy_any eds _ w1 (HEA.out.below b1 (Nat.le_refl _)))
 clear AL b1
 go_wp2_with fail
 refine HV.out.mono ?_
 rintro e w2 ⟨⟨q, rfl, hq⟩, b2⟩
 have B2 := Lib.hid (B1.out.trans (b2.mono B1.out.size))
 have HQ := Lib.hid hq
 clear HV b2 hq
 cases q with
 | true =>
  go_wp2_with fail
  go_ret
  exact ⟨rfl, B2.out⟩
 | false =>
 have LAq : Hid (Light eds) := HQ.out (by first | exact rfl | trivial)
 clear HQ
 have la51 : eds.length <= 51 := LAq.out.1
 have EA : Hid (∀ W, Below w.heap.size w W -> EdV W (.slice va eds.length vac) eds) := fun W hW => HEA.out.edv.below hW (Nat.le_refl _)
 have OW := Lib.hid (own_any eds _ w2 (EA.out w2 B2.out) la51 LAq.out.fines)
 go_wp2_with fail
 refine OW.out.mono ?_
 rintro e w3 ⟨v3, fvs, rfl, hO, b3⟩
 have B3 := Lib.hid (B2.out.trans (b3.mono B2.out.size))
 obtain ⟨oa, oc, rfl, _⟩ := own_slice hO.row
 have HO := Lib.hid hO
 have AP := Lib.hid (appended_any t (by omega) eds _ w3 hO.edv (by omega) LAq.out.fines.eight HI.out (TB.out w3 B3.out))
 clear OW hO b3
 go_wp2_with fail
 refine AP.out.mono ?_
 rintro e w4 h4
 have H4 := Lib.hid h4
 have b4 := h4.1
 have B4 := Lib.hid (B3.out.trans (b4.mono B3.out.size))
 have HB4 := Lib.hid b4
 have RA := Lib.hid (refAppended_any t (by omega) eds _ w4 (EA.out w4 B4.out) la51 LAq.out.fines.eight HI.out)
 have hform : ∃ X u, e = .returned (.tuple #[.string X, u]) := by
  obtain ⟨_, h⟩ := h4
  rcases h with ⟨a, k, u, _, rfl, _⟩ | ⟨n, base, bds, tail, _, ⟨_, u, rfl, _⟩ | ⟨_, _, rfl⟩ | ⟨_, _, rfl⟩⟩
  ·exact ⟨_, _, rfl⟩
  ·exact ⟨_, _, rfl⟩
  ·exact ⟨_, _, rfl⟩
  exact ⟨_, _, rfl⟩
 obtain ⟨X, u, rfl⟩ := hform
 clear AP h4 b4
 go_wp2_with fail
 refine RA.out.mono ?_
 rintro e w5 h5
 have b5 := h5.1
 have B5 := Lib.hid (B4.out.trans (b5.mono B4.out.size))
 have HB5 := Lib.hid (HB4.out.trans (b5.mono HB4.out.size))
 obtain ⟨X', u', a, k, e1, hz, rfl⟩ := app_same H4.out h5
 have e2 := Ending.returned.inj e1
 have e3 := Value.tuple.inj e2
 have e4 : X = X' /\ u = u' := by
  have h1 := congrArg (fun z : Array Value => z[0]?) e3
  have h2 := congrArg (fun z : Array Value => z[1]?) e3
  simp at h1 h2
  exact ⟨h1, h2⟩
 obtain ⟨rfl, rfl⟩ := e4
 have EZ := Lib.hid (hz.below b5 (Nat.le_refl _))
 have HED : Hid (Calls Tryz.prog 23 #[.slice oa eds.length oc, .slice va eds.length vac] w5 fun e w' => e = .returned (.bool true) /\ Below w5.heap.size w5 w') :=
  (edits_quiet eds _ _ w5 (HO.out.edv.below HB5.out (Nat.le_refl _)) (EA.out w5 B5.out) (by omega) LAq.out.fines).mono fun e w' ⟨he, m, hm⟩ => ⟨he, by rw [hm]; exact drewN_below (Below.refl _ _) m⟩
 clear RA H4 h5 b5 hz e1 e2 e3
 go_wp2_with fail
 refine (num_z EZ.out).mono ?_
 rintro e V ⟨rfl, rfl⟩
 go_wp2_with fail
 refine (at_z EZ.out).mono ?_
 rintro e V ⟨rfl, rfl⟩
 go_wp2_with fail
 refine HED.out.mono ?_
 rintro e w6 ⟨rfl, b6⟩
 have B6 := Lib.hid (B5.out.trans (b6.mono B5.out.size))
 clear b6
 go_wp2_with fail
 go_ret
 exact ⟨rfl, B6.out⟩
open Go.Maps Go.ChangeShapes Go.Joins Go.WideShapes in
theorem appendsCall {H : Type} {enc : TypeId × Value -> H} (s : ByteArray) (v1 : Value) (d1 : DataW H) (p1 : List MemPlace) (W : World) {b0 : Nat} (_ : s.size <= maxLen) (hval1 : Value.okWide Tryz.prog W .any b0 37 v1) {base1 : Nat} {sp1 : Nat -> Bool} {held1 : Bool} (h1 : DataW.Trod enc Tryz.prog W base1 sp1 held1 37 v1 d1 p1) (hT : TabB W) :
  Calls Tryz.prog 5 #[.string s, v1] W fun e w' => e = .returned (.bool true) /\ Below W.heap.size W w' := by
 obtain ⟨n1, hn1⟩ := h1
 obtain ⟨ao, len, cap, rfl⟩ := okWide_slice Tryz.underlying37 hval1
 obtain ⟨as_, hr1, hi⟩ := edits_inB (v := .slice ao len cap) hn1
 have h := appendsLaw s.data.toList as_ _ W hr1 hi hT
 rw [B_of] at h
 exact h
end Go.Proofs.YtbkeoiefolkjfaaGreatDoor.Bk
