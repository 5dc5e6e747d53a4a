/- Texts put together: AF, RM, EJ, RO, JB, EM, AI. -/
import Derived.StillTail
import Derived.Test.YtbkeoiefolkjfaaGreatDoorBxa2
import Derived.Test.YtbkeoiefolkjfaaGreatDoorBxa3
import Derived.Test.YtbkeoiefolkjfaaGreatDoorBxa5
import Derived.Test.YtbkeoiefolkjfaaGreatDoorBxa14
import Derived.Test.YtbkeoiefolkjfaaGreatDoorBxa16
import Derived.Test.YtbkeoiefolkjfaaGreatDoorBxa17
set_option linter.unusedVariables false
set_option maxRecDepth 100000
set_option maxHeartbeats 16000000
namespace Go.Proofs.YtbkeoiefolkjfaaGreatDoor
open Go.RowKit Go.Shelf
attribute [local go_sem] Oper.semAt_some
theorem indent_one (s a : ByteArray) (hs : s.size <= 1000000) (ha : a.size <= 100000) (bk : Nat) (w : World) (h0 : w.cell? ⟨bk, 0, none⟩ = some (.string a)) (hbk : bk < w.heap.size) :
  Calls Tryz.prog 87 #[.string s, .slice (some ⟨bk, 0, none⟩) 1 1] w fun e w' => e = .returned (.string ⟨(indL a.data.toList (linesOf s.data.toList)).toArray⟩) /\ Below w.heap.size w w' := by
 refine indent_any s hs _ _ (by rw [<- Lib.size_eq]; omega) w ?_
 have hj : Lib.join ([a].map (·.data.toList)) (⟨#[]⟩ : ByteArray).data.toList = a.data.toList := by simp [Lib.join]
 have := Tryz.strings_Join bk 0 1 [a] ⟨#[]⟩ w (fun j x hx => by
  match j, hx with
  | 0, hx => cases hx; exact h0) hbk (by simp) (by simp) (by rw [hj, <- Lib.size_eq]; omega)
 rw [hj] at this
 exact this
theorem foldG_le {fs : List Fld} (h : GoodF fs) : (foldG fs).length <= 4000 * fs.length := by
 replace h := h.each
 induction fs with
 | nil => exact Nat.le_refl _
 | cons f r ih =>
 have e : foldG (f :: r) = textL (linesL f.1 f.2) ++ foldG r := by unfold foldG; rw [List.flatMap_cons]
 obtain ⟨a, b⟩ := h f List.mem_cons_self
 have := text_le (k := f.1) (v := f.2) (by unfold checkN; rw [if_pos a, if_pos b])
 rw [e, List.length_append, List.length_cons]
 have := ih (fun x hx => h x (List.mem_cons_of_mem _ hx))
 omega
theorem GoodF.foldN {fs : List Fld} (h : GoodF fs) : foldN fs = 0 := foldN_of fs fun f hf => by
 obtain ⟨a, b⟩ := h.each f hf
 unfold checkN; rw [if_pos a, if_pos b]
theorem GoodF.foldT {fs : List Fld} (h : GoodF fs) : foldT fs = foldG fs := by unfold Proofs.YtbkeoiefolkjfaaGreatDoor.foldT; rw [if_pos h.foldN]
theorem goodKey_len {k : List UInt8} (h : goodKey k = true) : k.length <= 32 := (good_parts h).2.1
theorem GoodF.small {fs : List Fld} (h : GoodF fs) : ∀ f ∈ fs, f.1.length <= 100000 /\ f.2.length <= 100000 := fun f hf => by
 obtain ⟨a, b⟩ := h.each f hf
 have := goodKey_len a
 omega
theorem ind_le (ls : List Ln) : (ls.flatMap (fun x => [32, 32] ++ x.bytes)).length = 2 * ls.length + (ls.flatMap Ln.bytes).length := by
 induction ls with
 | nil => rfl
 | cons x r ih =>
 rw [List.flatMap_cons, List.flatMap_cons, List.length_append, List.length_append, ih, List.length_append, List.length_cons]
 simp only [List.length_cons, List.length_nil]
 omega
theorem edT_parts {ed : Ed} (h : GoodF ed.fields) : edT ed = (lineA ed.kind ed.id ++ [10]) ++ indL [32, 32] (linesOf (foldG ed.fields)) := by
 rw [edT_eq h]; unfold indL; simp
theorem edT_le {ed : Ed} (h : GoodF ed.fields) (hi : I64 ed.id) : (edT ed).length <= 600000 := by
 have h1 := foldG_le h
 have h2 := h.len
 have h3 := linesOf_length (foldG ed.fields)
 have h4 := Lib.itoa_length_le ed.id hi.1 hi.2
 have h5 : (lineA ed.kind ed.id).length <= 40 := by
  unfold lineA
  split
  ·rename_i hk
   have : (wordL ed.kind).length <= 7 := by rcases hk with e | e | e <;> rw [e] <;> decide
   rw [List.length_cons, List.length_append, List.length_cons]; omega
  simp
 rw [edT_eq h, List.length_append, List.length_cons, ind_le, linesOf_join]
 omega
def EncR (w w' : World) (eds : List Ed) (e : Ending) : Prop :=
 Below w.heap.size w w' /\ (((chkB eds).2 = 0 /\ e = .returned (.tuple #[.string (B (batchT eds)), .nilIface])) \/ ((chkB eds).2 ≠ 0 /\ ∃ u, e = .returned (.tuple #[.string ⟨#[]⟩, u]) /\ ErrZ w.heap.size w' u (chkB eds).1 (chkB eds).2))
theorem encode_any (eds : List Ed) (v : Value) (w : World) (h : EdV w v eds) (hl : eds.length <= 1000000) (hf : Fines8 eds) (hi : ∀ ed ∈ eds, I64 ed.id) (ht : Tabs w) :
  Calls Tryz.prog 42 #[v] w fun e w' => EncR w w' eds e := by
 have CK := Lib.hid (checkB_any8 eds v w h hl hf ht.err)
 obtain ⟨A, cap, rfl, hle, hc⟩ := h
 have PC := Lib.hid hc
 have HT := Lib.hid ht
 have HI := Lib.hid hi
 clear hc hf ht hi
 go_enter Tryz.func42, Tryz.ntmps42
 go_wp2_with fail
 refine CK.out.mono ?_
 rintro e w1 ⟨u, rfl, b1, hz⟩
 by_cases h0 : (chkB eds).2 = 0
 ·obtain ⟨⟨g1, g40⟩, GD⟩ := chkB_good h0
  have GDH := Lib.hid GD
  obtain rfl : u = .nilIface := by
   obtain ⟨_, ⟨rfl, _⟩ | ⟨_, _, _, hx⟩⟩ := hz
   ·rw [h0]; rfl
   exact absurd h0 hx
  have B1 := Lib.hid b1
  have Z0 := Lib.hid h0
  have hz1 := b1.size
  have NB := Bld.new w1 (w1.heap.size + 1)
  have NBB : Below w.heap.size w (w1.alloc (.cells #[.pointer none, .slice none 0 0] 133)) := b1.alloc b1.size _
  clear hz GD b1 CK h0
  go_wp2_with fail
  go_loopw [17] (fun i wr => ∃ k : Nat, k <= eds.length /\ i = .int .i64 k /\ Bld w1.heap.size (w1.heap.size + 1) (batchT (eds.take k)) wr /\ (batchT (eds.take k)).length <= 600000 * k /\ Below w.heap.size w wr /\ w1.heap.size < wr.heap.size) (fun i _ => eds.length - (intOf i).toNat)
  case atStart => exact ⟨0, Nat.zero_le _, rfl, NB, Nat.le_refl _, NBB, by simp⟩
  case round =>
  obtain ⟨k, hk, rfl, hbl, hbt, hb, hzr⟩ := hrel
  by_cases hlt : k < eds.length
  ·obtain ⟨ed, hed⟩ : ∃ ed, eds[k]? = some ed := ⟨_, List.getElem?_eq_getElem hlt⟩
   obtain ⟨b, off, fv, rfl, hbb, c0, c1, c2, hfl⟩ := PC.out k ed hed
   obtain ⟨fa, fc, rfl, _, _⟩ := _root_.id hfl.1
   replace c0 := (hb.cell (p := ⟨b, off + k * 3, none⟩) hbb).trans c0
   replace c1 := (hb.cell (p := ⟨b, off + k * 3 + 1, none⟩) hbb).trans c1
   replace c2 := (hb.cell (p := ⟨b, off + k * 3 + 1 + 1, none⟩) hbb).trans c2
   have hge := GDH.out ed (List.mem_of_getElem? hed)
   have hie := HI.out ed (List.mem_of_getElem? hed)
   have GF := goodE_F hge
   have TK : Hid (batchT (eds.take (k + 1)) = batchT (eds.take k) ++ ((lineA ed.kind ed.id ++ [10]) ++ indL [32, 32] (linesOf (foldG ed.fields)))) := by
    show _ = _
    rw [take_snoc hed, batchT_snoc, edT_parts GF]
   have ELE := edT_le GF hie
   rw [edT_parts GF] at ELE
   obtain ⟨wa, hwa⟩ : ∃ wa, wa = wr.alloc (.cells #[.int .i64 ed.kind, .int .i64 ed.id, .slice fa ed.fields.length fc] 40) := ⟨_, rfl⟩
   have hsr := hb.size
   have hba : Below wr.heap.size wr wa := by rw [hwa]; exact (Below.refl _ wr).alloc (Nat.le_refl _) _
   have hwz : wa.heap.size = wr.heap.size + 1 := by rw [hwa]; simp
   have cx : Cells wa wr.heap.size 40 #[.int .i64 ed.kind, .int .i64 ed.id, .slice fa ed.fields.length fc] := by rw [hwa]; exact Cells.new _ _ _
   have d0 := cx.cell 0
   have d1 := cx.cell 1
   have d2 := cx.cell 2
   have hB := hb.trans (hba.mono hsr)
   have LNE := Lib.hid (lineA_any ed (.slice fa ed.fields.length fc) hie wa (HT.out.below hB (Nat.le_refl _)))
   have blA := hbl.kept hba (Nat.le_refl _)
   have BLA := Lib.hid blA
   have HBA := Lib.hid hB
   have CX := Lib.hid cx
   have FLD : Hid (∀ W, Below w.heap.size w W -> Calls Tryz.prog 86 #[.slice fa ed.fields.length fc] W fun e w' => e = .returned (.tuple #[.string (B (foldG ed.fields)), .nilIface]) /\ Below W.heap.size W w') := fun W hW => by
    have := fold_any ed.fields (.slice fa ed.fields.length fc) W (hfl.1.below hW (Nat.le_refl _)) (by have := GF.len; omega) GF.small
    rw [GF.foldT, GF.foldN] at this
    exact this
   have fle := foldG_le GF
   have fl40 := GF.len
   have FLE : (B (foldG ed.fields)).size <= 160000 := by rw [B_size]; omega
   clear hed hfl hbl blA hba hB cx hge hie GF hbb fle fl40
   have WRL : Hid (∀ (l : List UInt8) (s : ByteArray) (W : World), Bld w1.heap.size (w1.heap.size + 1) l W -> wr.heap.size < W.heap.size -> l.length + s.size <= 140737488355328 ->
     Calls Tryz.prog 84 #[.pointer (some ⟨w1.heap.size, 0, none⟩), .string s] W fun e W' => e = .returned (.tuple #[.int .i64 s.size, .nilIface]) /\ Bld w1.heap.size (w1.heap.size + 1) (l ++ s.data.toList) W' /\ Wrote w1.heap.size (w1.heap.size + 1) W W') := fun l s W h1 h2 h3 => writes _ _ l s W h1 (by omega) (by omega) h3
   have LE1 : (B (lineA ed.kind ed.id)).size + 1 + (indL [32, 32] (linesOf (foldG ed.fields))).length <= 600000 := by
    rw [B_size]; rw [List.length_append, List.length_append] at ELE; exact ELE
   have DL := Lib.hid (B_data (lineA ed.kind ed.id))
   have DF := Lib.hid (B_data (foldG ed.fields))
   have IND : Hid (∀ W, Calls Tryz.prog 87 #[.string (B (foldG ed.fields)), .slice (some ⟨W.heap.size, 0, none⟩) 1 1] (W.alloc (.cells #[.string ⟨#[32, 32]⟩] 9)) fun e W' => e = .returned (.string (B (indL [32, 32] (linesOf (foldG ed.fields))))) /\ Below W.heap.size W W') := fun W => by
    refine (indent_one _ ⟨#[32, 32]⟩ (by omega) (by decide) W.heap.size _ (by simp) (by simp)).mono ?_
    rintro e W' ⟨rfl, b⟩
    refine ⟨?_, ((Below.refl _ W).alloc (Nat.le_refl _) _).trans (b.mono (by simp))⟩
    rw [show (⟨#[32, 32]⟩ : ByteArray).data.toList = [32, 32] from rfl, B_data]; rfl
   have DI := Lib.hid (B_data (indL [32, 32] (linesOf (foldG ed.fields))))
   have LEI : (B (indL [32, 32] (linesOf (foldG ed.fields)))).size = (indL [32, 32] (linesOf (foldG ed.fields))).length := B_size _
   have LEL : (B (lineA ed.kind ed.id)).size = (lineA ed.kind ed.id).length := B_size _
   clear DF
   generalize hIND : B (indL [32, 32] (linesOf (foldG ed.fields))) = ind at *
   generalize hIL : indL [32, 32] (linesOf (foldG ed.fields)) = indl at *
   generalize hLA : B (lineA ed.kind ed.id) = la at *
   generalize hLL : lineA ed.kind ed.id = lal at *
   generalize hFG : B (foldG ed.fields) = fg at *
   generalize hBT : batchT (eds.take k) = bt at *
   clear hIND hIL hLA hLL hFG d0 d1 d2
   have D2 : Hid (∀ W, Cells W wr.heap.size 40 #[.int .i64 ed.kind, .int .i64 ed.id, .slice fa ed.fields.length fc] -> W.cell? ⟨wr.heap.size, 2, none⟩ = some (.slice fa ed.fields.length fc)) := fun W h => by rw [h.cell]; rfl
   subst hwa
   go_wp2_with fail
   refine LNE.out.mono ?_
   rintro e w2 ⟨rfl, b2⟩
   have hs2 := b2.size
   rw [hwz] at hs2
   have bl2 := BLA.out.kept b2 (Nat.le_refl _)
   have HB2 := Lib.hid (HBA.out.trans (b2.mono HBA.out.size))
   have cx2 := cells_kept CX.out b2 (by rw [hwz]; omega)
   clear b2 LNE BLA
   go_wp2_with fail
   refine (WRL.out _ _ w2 bl2 (by omega) (by omega)).mono ?_
   rintro e w3 ⟨rfl, bl3, o3⟩
   have hs3 := o3.size
   have cx3 : Cells w3 wr.heap.size 40 _ := o3.other cx2 (by omega) (by decide)
   have HB3 := Lib.hid (HB2.out.trans (o3.below (by omega) (by omega) (by omega)))
   rw [DL.out] at bl3
   clear o3 cx2 bl2
   go_wp2_with fail
   refine (WRL.out _ ⟨#[10]⟩ w3 bl3 (by omega) (by rw [List.length_append]; show _ + 1 <= _; omega)).mono ?_
   rintro e w4 ⟨rfl, bl4, o4⟩
   have hs4 := o4.size
   have cx4 : Cells w4 wr.heap.size 40 _ := o4.other cx3 (by omega) (by decide)
   have HB4 := Lib.hid (HB3.out.trans (o4.below (by omega) (by omega) (by omega)))
   have BL4 := Lib.hid bl4
   have d2 := D2.out w4 cx4
   have FL4 := Lib.hid (FLD.out w4 HB4.out)
   clear o4 cx3 bl3 bl4 FLD cx4
   go_wp2_with fail
   refine FL4.out.mono ?_
   rintro e w5 ⟨rfl, b5⟩
   have hs5 := b5.size
   have bl5 := BL4.out.kept b5 (Nat.le_refl _)
   have HB5 := Lib.hid (HB4.out.trans (b5.mono HB4.out.size))
   have BL5 := Lib.hid bl5
   have IN5 := Lib.hid (IND.out w5)
   clear b5 bl5 FL4 BL4 IND
   go_wp2_with fail
   refine IN5.out.mono ?_
   rintro e w6 ⟨rfl, b6⟩
   have hs6 := b6.size
   have bl6 := BL5.out.kept b6 (Nat.le_refl _)
   have HB6 := Lib.hid (HB5.out.trans (b6.mono HB5.out.size))
   clear b6 IN5 BL5
   go_wp2_with fail
   refine (WRL.out _ _ w6 bl6 (by omega) (by rw [List.length_append, List.length_append]; show _ + 1 + _ <= _; omega)).mono ?_
   rintro e w7 ⟨rfl, bl7, o7⟩
   have hs7 := o7.size
   have HB7 := Lib.hid (HB6.out.trans (o7.below (by omega) (by omega) (by omega)))
   rw [DI.out] at bl7
   have BL7 := Lib.hid bl7
   clear o7 bl6 bl7
   go_wp2_with fail
   go_roundw
   case rel =>
    have eT : batchT (eds.take (k + 1)) = bt ++ lal ++ (⟨#[10]⟩ : ByteArray).data.toList ++ indl := by
     rw [TK.out, show (⟨#[10]⟩ : ByteArray).data.toList = [10] from rfl]; simp
    refine ⟨k + 1, hlt, by go_num, by rw [eT]; exact BL7.out, ?_, HB7.out, by omega⟩
    rw [eT, List.length_append, List.length_append, List.length_append]
    show _ + _ + 1 + _ <= _
    omega
   case measure => simp [intOf]; omega
  obtain rfl : k = eds.length := by omega
  rw [List.take_length] at hbl
  have Z := Lib.hid Z0.out
  clear PC HT HI GDH hbt
  have hbs := hb.size
  go_wp2_with fail
  refine (Tryz.Builder_String_any_k w1.heap.size w1.heap.size _ wr (hbl.library (Nat.le_refl _) (by omega)) (by omega)).mono ?_
  rintro e w5 ⟨rfl, _, b5, _⟩
  have B5 := Lib.hid (hb.trans (b5.mono hz1))
  go_wp2_with fail
  go_ret2
  exact ⟨B5.out, .inl ⟨Z.out, rfl⟩⟩
 have NZ := Lib.hid h0
 have Z1 := Lib.hid hz
 have B1 := Lib.hid b1
 obtain ⟨_, ⟨rfl, hx⟩ | ⟨kk, ⟨q, _, rfl, _⟩, _, _⟩⟩ := hz
 ·obtain ⟨n, hn⟩ : ∃ n, n = (chkB eds).2 := ⟨_, rfl⟩
  have hpos : 0 < (chkB eds).2 := Nat.pos_of_ne_zero h0
  have ZR : Hid (EncR w w1 eds (.returned (.tuple #[.string ⟨#[]⟩, errV (chkB eds).2]))) := ⟨B1.out, .inr ⟨h0, _, rfl, Z1.out⟩⟩
  rw [errV_pos _ hpos] at ZR ⊢
  clear CK Z1 hx b1 PC
  generalize ((chkB eds).2 : Int) = zz at *
  go_wp2_with fail
  go_ret2
  exact ZR.out
 have ZR : Hid (EncR w w1 eds (.returned (.tuple #[.string ⟨#[]⟩, .iface 68 (.pointer (some ⟨q, 0, none⟩))]))) := ⟨B1.out, .inr ⟨h0, _, rfl, Z1.out⟩⟩
 clear CK Z1 b1 PC
 go_wp2_with fail
 go_ret2
 exact ZR.out
end Go.Proofs.YtbkeoiefolkjfaaGreatDoor
namespace Go.Proofs.YtbkeoiefolkjfaaGreatDoor
open Go.RowKit
structure MTab (a0 : Act) (w0 : World) (n : Nat) (dst : Nat -> Option Nat) (Pv : Nat -> Value -> World -> Prop) (R : World -> World -> Prop) (l : Array Bool) (a : Act) (w : World) : Prop where
 dfr : a.defers = a0.defers
 sz : a.tmps.size = a0.tmps.size
 frm : ∀ j, (∀ k, k < n -> dst k ≠ some j) -> a.tmps[j]? = a0.tmps[j]?
 val : ∀ i d, l.getD i false = true -> dst i = some d -> ∃ v, a.tmps[d]? = some v /\ Pv i v w
 wd : R w0 w
def pvL (L : List (Value -> World -> Prop)) (i : Nat) (v : Value) (w : World) : Prop := match L[i]? with | some P => P v w | none => True
def AllM : List (Value -> World -> Prop) -> Prop
 | [] => True
 | P :: r => (∀ v x y, Below x.heap.size x y -> P v x -> P v y) /\ AllM r
theorem pvL_mono : ∀ {L : List (Value -> World -> Prop)} (_ : AllM L) {i : Nat} {v : Value} {x y : World}, Below x.heap.size x y -> pvL L i v x -> pvL L i v y
 | [], _, i, v, x, y, _, _ => trivial
 | P :: r, h, 0, v, x, y, hb, hp => h.1 v x y hb hp
 | P :: r, h, i + 1, v, x, y, hb, hp => pvL_mono (L := r) h.2 (i := i) hb hp
end Go.Proofs.YtbkeoiefolkjfaaGreatDoor
namespace Go.Proofs.YtbkeoiefolkjfaaGreatDoor
open Go.RowKit
theorem todo_set {l : Array Bool} {i : Nat} (hi : i < l.size) (hl : l.getD i true = false) : todo (l.setIfInBounds i true) + 1 = todo l := by
 have hlf : l[i] = false := by simpa [Array.getD, hi] using hl
 have key : ∀ (xs : List Bool) (j : Nat) (hj : j < xs.length), xs[j] = false -> ((xs.set j true).filter (fun b => !b)).length + 1 = (xs.filter (fun b => !b)).length := by
  intro xs
  induction xs with
  | nil => intro j hj; simp at hj
  | cons x xs ih2 =>
  intro j hj hx
  cases j with
  | zero => simp at hx; subst hx; simp
  | succ j =>
  have := ih2 j (by simpa using hj) (by simpa using hx)
  cases x <;> simp at this ⊢ <;> omega
 have h2 := key l.toList i (by simpa using hi) (by simpa using hlf)
 unfold todo
 have e : (l.setIfInBounds i true).toList = l.toList.set i true := by simp
 rw [e]; exact h2
theorem todo_head {l : Array Bool} {n g : Nat} (hs : l.size = n + g) (h1 : ∀ i, i < n -> l.getD i true = true) (h2 : ∀ t, n <= t -> t < l.size -> l.getD t true = false) : l = (List.replicate n true ++ List.replicate g false).toArray := by
 apply Array.ext
 ·simp [hs]
 intro i hi _
 have e : l[i] = l.getD i true := by simp [Array.getD, hi]
 rw [e]
 by_cases h : i < n
 ·rw [h1 i h]; simp [h]
 rw [h2 i (by omega) hi]; simp [List.getElem_append, h]
theorem wpAny_mono_tail {P : Program} {l0 : List Oper} {Q : Exit -> Act -> World -> Prop} (n g : Nat) (hng : n + g = l0.length) (hg : 0 < g) (a0 : Act) (w0 : World) (dst : Nat -> Option Nat) (L : List (Value -> World -> Prop)) (M : AllM L)
  (hs : Region.sinkB .any l0.toArray n = true) (hc : Region.chainB .any l0.toArray n = true) (hq : Region.seqB .any l0.toArray g n (List.replicate n true ++ List.replicate g false).toArray = true)
  (hd : ∀ i o, i < n -> l0[i]? = some o -> o.dst = dst i) (inj : ∀ i k d, i < n -> k < n -> dst i = some d -> dst k = some d -> i = k) (dlt : ∀ i d, i < n -> dst i = some d -> d < a0.tmps.size)
  (hlow : ∀ i o e, l0[i]? = some o -> e ∈ o.after -> Region.binds .any e = true -> e.on < i)
  (step : ∀ i o a w, i < n -> l0[i]? = some o -> a.tmps.size = a0.tmps.size -> (∀ j, (∀ k, k < n -> dst k ≠ some j) -> a.tmps[j]? = a0.tmps[j]?) -> (∀ e ∈ o.after, Region.binds .any e = true -> ∀ d, dst e.on = some d -> ∃ v, a.tmps[d]? = some v /\ pvL L e.on v w) -> Below w0.heap.size w0 w ->
   (Region.wanted o (yielded l0.toArray a.tmps) = true /\ ∀ K : Act -> World -> Prop, (∀ v w', Below w.heap.size w w' -> pvL L i v w' -> K (a.put (dst i) v) w') -> Oper.wp P o a w K Q) \/ (Region.wanted o (yielded l0.toArray a.tmps) = false /\ pvL L i undef w))
  (tail : ∀ a w, a.defers = a0.defers -> a.tmps.size = a0.tmps.size -> (∀ j, (∀ k, k < n -> dst k ≠ some j) -> a.tmps[j]? = a0.tmps[j]?) -> (∀ i d, i < n -> dst i = some d -> ∃ v, a.tmps[d]? = some v /\ pvL L i v w) -> Below w0.heap.size w0 w -> wpList P l0.toArray Q (l0.drop n) a w) :
  wpAny P .any l0.toArray Q l0.toArray.size (Array.replicate l0.toArray.size false) a0 w0 := by
 have key : ∀ (m : Nat) (l : Array Bool) (a : Act) (w : World), HeadInv .any l0.toArray n l -> MTab a0 w0 n dst (pvL L) (fun x y => Below x.heap.size x y) l a w -> todo l = m -> wpAny P .any l0.toArray Q m l a w := by
  intro m
  induction m with
  | zero =>
   intro l a w inv I ht
   exfalso
   have hn : n < l.size := by rw [inv.size]; simp; omega
   have h1 := todo_set hn (inv.tail n (Nat.le_refl _) (by simp; omega))
   omega
  | succ m ih =>
  intro l a w inv I ht
  by_cases hh : ∃ i, i < n /\ l.getD i true = false
  ·obtain ⟨i0, hi0, hl0⟩ := hh
   have hwait := tail_waits hs hc (by simp; omega) inv (n - i0) i0 rfl hi0 hl0
   refine ⟨fun hr => ?_, fun i hi => ?_⟩
   ·exfalso
    have hall := all_done (ops := l0.toArray) inv.size (fun i o e ho he hb => hlow i o e (by simpa using ho) he hb) hr i0 (by simp; omega)
    have hi0' : i0 < l.size := by rw [inv.size]; simp; omega
    have e1 : l.getD i0 false = l.getD i0 true := by simp [Array.getD, hi0']
    rw [e1, hl0] at hall; cases hall
   have hin : i < n := by
    rcases Nat.lt_or_ge i n with q | q
    ·exact q
    exact absurd hi (hwait i q)
   obtain ⟨o, ho, hli, he⟩ := ready_spec hi
   have ho' : l0[i]? = some o := by simpa using ho
   have hil : i < l.size := by rw [inv.size]; simp; omega
   have dep : ∀ e ∈ o.after, Region.binds .any e = true -> ∀ d, dst e.on = some d -> ∃ v, a.tmps[d]? = some v /\ pvL L e.on v w := fun e h1 h2 d h3 => I.val e.on d (he e h1 h2) h3
   have nxt : ∀ v w', Below w.heap.size w w' -> pvL L i v w' -> wpAny P .any l0.toArray Q m (l.setIfInBounds i true) (a.put (dst i) v) w' := by
    intro v w' hR hP
    refine ih _ _ _ (inv.set hi hin) ?_ (by have := todo_set hil hli; omega)
    have hwd : Below w0.heap.size w0 w' := I.wd.trans (hR.mono I.wd.size)
    cases hdi : dst i with
    | none =>
     refine ⟨I.dfr, I.sz, I.frm, fun k d hk hkd => ?_, hwd⟩
     rw [getD_set l i hil] at hk
     by_cases q : k = i
     ·rw [q, hdi] at hkd; cases hkd
     rw [if_neg q] at hk
     obtain ⟨u, h1, h2⟩ := I.val k d hk hkd
     exact ⟨u, h1, pvL_mono M hR h2⟩
    | some d0 =>
    have hd0 := dlt i d0 hin hdi
    have T : ∀ j, (a.put (some d0) v).tmps[j]? = if j = d0 then some v else a.tmps[j]? := fun j => by
     show (a.tmps.setIfInBounds d0 v)[j]? = _
     rw [Array.getElem?_setIfInBounds]
     by_cases h : d0 = j
     ·subst h; simp [I.sz, hd0]
     rw [if_neg h, if_neg (Ne.symm h)]
    refine ⟨I.dfr, ?_, fun j hj => ?_, fun k d hk hkd => ?_, hwd⟩
    ·show (a.tmps.setIfInBounds d0 v).size = _
     simp [I.sz]
    ·rw [T, if_neg (fun e => hj i hin (by rw [hdi, e]))]; exact I.frm j hj
    rw [T]
    rw [getD_set l i hil] at hk
    by_cases q : k = i
    ·subst q
     rw [hdi] at hkd
     rw [if_pos (Option.some.inj hkd).symm]
     exact ⟨v, rfl, hP⟩
    rw [if_neg q] at hk
    have hkl : k < l.size := by
     rcases Nat.lt_or_ge k l.size with z | z
     ·exact z
     rw [Array.getD_eq_getD_getElem?, Array.getElem?_eq_none (by omega)] at hk; cases hk
    have hkn : k < n := by
     rcases Nat.lt_or_ge k n with z | z
     ·exact z
     have h1 := inv.tail k z (by rw [<- inv.size]; exact hkl)
     have e1 : l.getD k false = l.getD k true := by simp [Array.getD, hkl]
     rw [e1, h1] at hk; cases hk
    rw [if_neg (fun e => q (inj k i d hkn hin hkd (by rw [hdi, e])))]
    obtain ⟨u, h1, h2⟩ := I.val k d hk hkd
    exact ⟨u, h1, pvL_mono M hR h2⟩
   unfold wpOp
   rw [ho]
   dsimp only
   rcases step i o a w hin ho' I.sz I.frm dep I.wd with ⟨h1, h2⟩ | ⟨h1, h2⟩
   ·rw [if_pos h1]
    exact .inl (h2 _ nxt)
   rw [if_neg (by rw [h1]; decide), hd i o hin ho']
   exact nxt undef w (Below.refl _ _) h2
  have h1 : ∀ i, i < n -> l.getD i true = true := fun i hi => by
   cases q : l.getD i true with
   | true => rfl
   | false => exact absurd ⟨i, hi, q⟩ hh
  have hls : l.size = n + g := by rw [inv.size]; simp; omega
  have el := todo_head hls h1 (fun t h2 h3 => inv.tail t h2 (by rw [<- inv.size]; exact h3))
  have hd1 : ∀ i, i < n -> l.getD i false = true := fun i hi => by
   have e1 : l.getD i false = l.getD i true := by
    have : i < l.size := by omega
    simp [Array.getD, this]
   rw [e1]; exact h1 i hi
  have hgl : (l0.drop n).length = g := by simp; omega
  have hm : m + 1 = g := by
   rw [<- ht, el]
   unfold todo
   simp [List.filter_append]
  have := wpAny_of_seq (P := P) (md := .any) (ops := l0.toArray) (Q' := Q) (l0.drop n) n l a w (fun j => by simp [List.getElem?_drop]) (by rw [hgl, el]; exact hq)
   (tail a w I.dfr I.sz I.frm (fun i d hi h => I.val i d (hd1 i hi) h) I.wd)
  rw [hgl] at this
  rw [hm]; exact this
 refine key l0.toArray.size (Array.replicate l0.toArray.size false) a0 w0 ?_ ?_ (by unfold todo; simp)
 ·exact ⟨by simp, fun j oj _ hl => (by rw [getD_replicate_false] at hl; cases hl), fun t _ ht => getD_in (by simpa using ht) (getD_replicate_false _ _)⟩
 have e : ∀ i, (Array.replicate l0.toArray.size false).getD i false = false := fun i => getD_replicate_false _ i
 exact ⟨rfl, rfl, fun _ _ => rfl, (fun i d h => absurd ((e i).symm.trans h) (by decide)), Below.refl _ _⟩
end Go.Proofs.YtbkeoiefolkjfaaGreatDoor
namespace Go.Proofs.YtbkeoiefolkjfaaGreatDoor
open Go.RowKit Go.Shelf
attribute [local go_sem] Oper.semAt_some
theorem evT {a : Act} {i : Nat} {v : Value} (h : a.tmps[i]? = some v) : a.eval (.tmp i) = v := by
 show a.tmps.getD i undef = v
 rw [Array.getD_eq_getD_getElem?, h]; rfl
theorem wantN {ops : Array Oper} {o : Oper} {a : Act} (h : o.guard = none) : Region.wanted o (yielded ops a.tmps) = true := by
 unfold Region.wanted; rw [h]
theorem act_set : ∀ (L : List (Nat × Value)) (s t : Array Value), s.size = t.size -> (∀ p ∈ L, s[p.1]? = some p.2) -> (∀ j, j ∉ L.map Prod.fst -> s[j]? = t[j]?) -> s = L.foldl (fun u p => u.setIfInBounds p.1 p.2) t
 | [], s, t, _, _, h => Array.ext_getElem? (fun j => h j (by simp))
 | p :: L, s, t, hs, h1, h2 => by
  rw [List.foldl_cons]
  refine act_set L s _ (by simpa using hs) (fun q hq => h1 q (List.mem_cons_of_mem _ hq)) (fun j hj => ?_)
  rw [Array.getElem?_setIfInBounds]
  have hp := h1 p List.mem_cons_self
  by_cases q : p.1 = j
  ·have : p.1 < t.size := by rw [<- hs]; exact (Array.getElem?_eq_some_iff.1 hp).1
   rw [if_pos q, if_pos this, <- q]; exact hp
  rw [if_neg q]
  exact h2 j (by rw [List.map_cons]; intro hm; rcases List.mem_cons.1 hm with e | e; exact q e.symm; exact hj e)
theorem act_set' {a a0 : Act} (L : List (Nat × Value)) (hd : a.defers = a0.defers) (hs : a.tmps.size = a0.tmps.size) (h1 : ∀ p ∈ L, a.tmps[p.1]? = some p.2) (h2 : ∀ j, j ∉ L.map Prod.fst -> a.tmps[j]? = a0.tmps[j]?) : a = { a0 with tmps := L.foldl (fun u p => u.setIfInBounds p.1 p.2) a0.tmps } := by
 have := act_set L a.tmps a0.tmps hs h1 h2
 obtain ⟨t, d⟩ := a
 obtain ⟨t0, d0⟩ := a0
 simp only at this hd ⊢
 subst this hd
 rfl
section
variable {o : Oper} {a : Act} {w : World} {K : Act -> World -> Prop} {Q : Exit -> Act -> World -> Prop}
theorem mo_run {v : Value} (e : (execOp a.eval o).run Tryz.prog w = .ok (.value v) w) (hK : K (a.put o.dst v) w) : Oper.wp Tryz.prog o a w K Q := by
 unfold Oper.wp
 rw [e]; exact hK
theorem mo_move {x : Operand} {v : Value} (ho : o.op = Op.move x) (hx : a.eval x = v) (hK : K (a.put o.dst v) w) : Oper.wp Tryz.prog o a w K Q :=
 mo_run (by simp only [execOp, ho, hx]; simp [go_sem]) hK
theorem mo_field {x : Operand} {T : TypeId} {k b i j : Nat} (hf : (Instr.fieldAt T (.pointer (some ⟨b, i, none⟩)) k).run Tryz.prog w = .ok (.pointer (some ⟨b, j, none⟩)) w) (ho : o.op = Op.fieldAddr T x k) (hx : a.eval x = .pointer (some ⟨b, i, none⟩)) (hK : K (a.put o.dst (.pointer (some ⟨b, j, none⟩))) w) : Oper.wp Tryz.prog o a w K Q :=
 mo_run (by simp only [execOp, ho, hx]; simp [hf]) hK
theorem mo_load {x : Operand} {T : TypeId} {b i : Nat} {u : Value} (hl : (Instr.loadAt T (.pointer (some ⟨b, i, none⟩))).run Tryz.prog w = .ok u w) (ho : o.op = Op.load T x) (hx : a.eval x = .pointer (some ⟨b, i, none⟩)) (hK : K (a.put o.dst u) w) : Oper.wp Tryz.prog o a w K Q :=
 mo_run (by simp only [execOp, ho, hx]; simp [hl]) hK
end
section
variable {o : Oper} {a : Act} {w : World} {K : Act -> World -> Prop} {Q : Exit -> Act -> World -> Prop} {T : Value -> World -> Prop}
theorem mo_call1 {x : Operand} {u : Value} (F : Nat) {T1 : TypeId} (ho : o.op = Op.call { callee := Callee.value (Operand.func F), args := #[x], argTypes := #[T1] }) (hx : a.eval x = u)
  (en : ∀ args w, (callFunc F args).run Tryz.prog w = .ok (.enter F args) w) (hC : Calls Tryz.prog F #[u] w fun e w' => ∃ v, e = .returned v /\ T v w') (hK : ∀ v w', T v w' -> K (a.put o.dst v) w') : Oper.wp Tryz.prog o a w K Q := by
 unfold Oper.wp
 have e : (execOp a.eval o).run Tryz.prog w = .ok (.enter F #[u]) w := by
  have hf : a.eval (.func F) = .func (.func F) #[] #[] := rfl
  generalize a.eval = ρ at hx hf ⊢
  simp only [execOp, ho]
  simp [go_sem, resolve, invoke, hx, hf, en]
 rw [e]
 refine hC.mono ?_
 rintro e w' ⟨v, rfl, h⟩
 exact hK v w' h
theorem mo_call2 {x y : Operand} {u z : Value} (F : Nat) {T1 T2 : TypeId} (ho : o.op = Op.call { callee := Callee.value (Operand.func F), args := #[x, y], argTypes := #[T1, T2] }) (hx : a.eval x = u) (hy : a.eval y = z)
  (en : ∀ args w, (callFunc F args).run Tryz.prog w = .ok (.enter F args) w) (hC : Calls Tryz.prog F #[u, z] w fun e w' => ∃ v, e = .returned v /\ T v w') (hK : ∀ v w', T v w' -> K (a.put o.dst v) w') : Oper.wp Tryz.prog o a w K Q := by
 unfold Oper.wp
 have e : (execOp a.eval o).run Tryz.prog w = .ok (.enter F #[u, z]) w := by
  have hf : a.eval (.func F) = .func (.func F) #[] #[] := rfl
  generalize a.eval = ρ at hx hy hf ⊢
  simp only [execOp, ho]
  simp [go_sem, resolve, invoke, hx, hy, hf, en]
 rw [e]
 refine hC.mono ?_
 rintro e w' ⟨v, rfl, h⟩
 exact hK v w' h
end
end Go.Proofs.YtbkeoiefolkjfaaGreatDoor
namespace Go.Proofs.YtbkeoiefolkjfaaGreatDoor
open Go.RowKit Go.Shelf
attribute [local go_sem] Oper.semAt_some
section
variable {o : Oper} {a : Act} {w : World} {K : Act -> World -> Prop} {Q : Exit -> Act -> World -> Prop}
theorem mo_index {x y : Operand} {T : TypeId} {u z p : Value} (hr : (Instr.indexAt T u z).run Tryz.prog w = .ok p w) (ho : o.op = Op.indexAddr T x y) (hx : a.eval x = u) (hy : a.eval y = z) (hK : K (a.put o.dst p) w) : Oper.wp Tryz.prog o a w K Q :=
 mo_run (by simp only [execOp, ho, hx, hy]; simp [hr]) hK
theorem mo_loadv {x : Operand} {T : TypeId} {p u : Value} (hl : (Instr.loadAt T p).run Tryz.prog w = .ok u w) (ho : o.op = Op.load T x) (hx : a.eval x = p) (hK : K (a.put o.dst u) w) : Oper.wp Tryz.prog o a w K Q :=
 mo_run (by simp only [execOp, ho, hx]; simp [hl]) hK
end
end Go.Proofs.YtbkeoiefolkjfaaGreatDoor
namespace Go.Proofs.YtbkeoiefolkjfaaGreatDoor
open Go.RowKit Go.Shelf
attribute [local go_sem] Oper.semAt_some
section
variable {o : Oper} {a : Act} {w : World} {K : Act -> World -> Prop} {Q : Exit -> Act -> World -> Prop}
theorem mo_runW {v : Value} {w' : World} (e : (execOp a.eval o).run Tryz.prog w = .ok (.value v) w') (hK : K (a.put o.dst v) w') : Oper.wp Tryz.prog o a w K Q := by
 unfold Oper.wp
 rw [e]; exact hK
theorem mo_lit3 {x : Operand} {k i : Int} {fa : Option Addr} {fn fc : Nat} (ho : o.op = Op.buildSlice 37 1 #[(0, x)]) (hx : a.eval x = .agg #[.int .i64 k, .int .i64 i, .slice fa fn fc])
  (hK : K (a.put o.dst (.slice (some ⟨w.heap.size, 0, none⟩) 1 1)) (w.alloc (.cells #[.int .i64 k, .int .i64 i, .slice fa fn fc] 40))) : Oper.wp Tryz.prog o a w K Q := by
 refine mo_runW ?_ hK
 simp only [execOp, ho]
 rw [show (Array.map (fun (p : Nat × Operand) => match p with | (i, x) => (i, a.eval x)) #[((0 : Nat), x)]) = #[((0 : Nat), Value.agg #[.int .i64 k, .int .i64 i, .slice fa fn fc])] from by rw [<- hx]; simp]
 kernel_rfl
theorem mo_build3 {x y z : Operand} {k i : Int} {fa : Option Addr} {fn fc : Nat} (ho : o.op = Op.build 40 #[(0, x), (1, y), (2, z)]) (hx : a.eval x = .int .i64 k) (hy : a.eval y = .int .i64 i) (hz : a.eval z = .slice fa fn fc)
  (hK : K (a.put o.dst (.agg #[.int .i64 k, .int .i64 i, .slice fa fn fc])) w) : Oper.wp Tryz.prog o a w K Q := by
 refine mo_runW ?_ hK
 simp only [execOp, ho]
 rw [show (Array.map (fun (p : Nat × Operand) => match p with | (i, x) => (i, a.eval x)) #[((0 : Nat), x), (1, y), (2, z)]) = #[((0 : Nat), Value.int .i64 k), (1, .int .i64 i), (2, .slice fa fn fc)] from by rw [<- hx, <- hy, <- hz]; simp]
 kernel_rfl
end
end Go.Proofs.YtbkeoiefolkjfaaGreatDoor
namespace Go.Proofs.YtbkeoiefolkjfaaGreatDoor
open Go.RowKit Go.Shelf
section
variable {K : Act -> World -> Prop} {Q : Exit -> Act -> World -> Prop} {o : Oper} {a : Act} {w : World}
theorem mo_slice2 {x y z : Operand} {s : ByteArray} {i j : Nat} (ho : o.op = Op.slice 9 x (some y) (some z) none) (hx : a.eval x = .string s) (hy : a.eval y = .int .i64 (i : Nat)) (hz : a.eval z = .int .i64 (j : Nat)) (hij : i <= j) (hj : j <= s.size) (hK : K (a.put o.dst (.string (s.extract i j))) w) : Oper.wp Tryz.prog o a w K Q := by
 refine mo_runW ?_ hK
 have h2 : (i : Int) <= (j : Int) := by omega
 have h3 : (j : Int) <= (s.size : Int) := by omega
 generalize a.eval = ρ at hx hy hz ⊢
 simp only [execOp, ho]
 simp [go_sem, hx, hy, hz, Result.andThen, h2, h3]
theorem mo_slice1 {x y : Operand} {s : ByteArray} {i : Nat} (ho : o.op = Op.slice 9 x (some y) none none) (hx : a.eval x = .string s) (hy : a.eval y = .int .i64 (i : Nat)) (hij : i <= s.size) (hK : K (a.put o.dst (.string (s.extract i s.size))) w) : Oper.wp Tryz.prog o a w K Q := by
 refine mo_runW ?_ hK
 have h2 : (i : Int) <= (s.size : Int) := by omega
 generalize a.eval = ρ at hx hy ⊢
 simp only [execOp, ho]
 simp [go_sem, hx, hy, Result.andThen, h2]
end
def ops_rd6 : List Oper := [
 { dst := some 19, op := Op.load 37 (Operand.tmp 3), type := 37, pos := "amend.go:74", after := #[], guard := none },
 { dst := some 20, op := Op.load 9 (Operand.tmp 1), type := 9, pos := "amend.go:74", after := #[], guard := none },
 { dst := some 21, op := Op.load 3 (Operand.tmp 4), type := 3, pos := "amend.go:74", after := #[], guard := none },
 { dst := some 22, op := Op.fieldAddr 99 (Operand.tmp 5) 1, type := 0, pos := "amend.go:74", after := #[], guard := none },
 { dst := some 23, op := Op.load 3 (Operand.tmp 22), type := 3, pos := "amend.go:74", after := #[{ on := 3, ground := Ground.data }], guard := none },
 { dst := some 24, op := Op.slice 9 (Operand.tmp 20) (some (Operand.tmp 21)) (some (Operand.tmp 23)) none, type := 9, pos := "amend.go:74", after := #[{ on := 1, ground := Ground.data }, { on := 2, ground := Ground.data }, { on := 4, ground := Ground.data }], guard := none },
 { dst := some 25, op := Op.call { callee := Callee.value (Operand.func 112), args := #[Operand.tmp 24], argTypes := #[9] }, type := 40, pos := "amend.go:74", after := #[{ on := 5, ground := Ground.data }], guard := none },
 { dst := some 26, op := Op.buildSlice 37 1 #[(0, Operand.tmp 25)], type := 37, pos := "amend.go:74", after := #[{ on := 6, ground := Ground.data }], guard := none },
 { dst := some 27, op := Op.call { callee := Callee.builtin Builtin.append, args := #[Operand.tmp 19, Operand.tmp 26], argTypes := #[37, 37] }, type := 37, pos := "amend.go:74", after := #[{ on := 0, ground := Ground.data }, { on := 7, ground := Ground.data }, { on := 6, ground := Ground.chain }], guard := none },
 { dst := none, op := Op.store 37 (Operand.tmp 3) (Operand.tmp 27), type := 0, pos := "amend.go:74", after := #[{ on := 8, ground := Ground.data }, { on := 8, ground := Ground.chain }, { on := 0, ground := Ground.phase }, { on := 1, ground := Ground.phase }, { on := 2, ground := Ground.phase }, { on := 3, ground := Ground.phase }, { on := 4, ground := Ground.phase }, { on := 5, ground := Ground.phase }, { on := 6, ground := Ground.phase }, { on := 7, ground := Ground.phase }, { on := 8, ground := Ground.phase }], guard := none }]
def dst_rd6 (i : Nat) : Option Nat := (ops_rd6[i]?).bind (·.dst)
theorem inj_rd6 : ∀ i, i < 8 -> ∀ k, k < 8 -> dst_rd6 i ≠ none -> dst_rd6 i = dst_rd6 k -> i = k := by decide +kernel
theorem lt_rd6 : ∀ i, i < 8 -> (dst_rd6 i).getD 0 < 37 := by decide +kernel
theorem low_rd6 : ∀ i : Fin 10, ∀ e ∈ (ops_rd6[i.1]'(by exact i.2)).after, Region.binds .any e = true -> e.on < i.1 := by decide +kernel
def pv_rd6 (bb tb nb eb lo : Nat) (bv : Value) (s : ByteArray) (beg at_ : Nat) (PL : Value -> World -> Prop) : List (Value -> World -> Prop) := [
 fun v w => v = bv,
 fun v w => v = .string s,
 fun v w => v = .int .i64 (beg : Nat),
 fun v w => v = .pointer (some ⟨eb, 1, none⟩),
 fun v w => v = .int .i64 (at_ : Nat),
 fun v w => v = .string (s.extract beg at_),
 fun v w => PL v w,
 fun v w => ∃ b u cs, v = .slice (some ⟨b, 0, none⟩) 1 1 /\ PL u w /\ lo <= b /\ u = .agg cs /\ Cells w b 40 cs]
theorem region_rd6 (a0 : Act) (w0 : World) (bb tb nb eb lo : Nat) (bv : Value) (s : ByteArray) (beg at_ : Nat) (PL : Value -> World -> Prop) (Q : Exit -> Act -> World -> Prop)
  (hsz : a0.tmps.size = 37) (h3 : a0.tmps[3]? = some (.pointer (some ⟨bb, 0, none⟩))) (h1 : a0.tmps[1]? = some (.pointer (some ⟨tb, 0, none⟩))) (h4 : a0.tmps[4]? = some (.pointer (some ⟨nb, 0, none⟩))) (h5 : a0.tmps[5]? = some (.pointer (some ⟨eb, 0, none⟩)))
  (hS : ∀ W, Below w0.heap.size w0 W -> W.cell? ⟨bb, 0, none⟩ = some bv /\ W.cell? ⟨tb, 0, none⟩ = some (.string s) /\ W.cell? ⟨nb, 0, none⟩ = some (.int .i64 (beg : Nat)) /\ W.cell? ⟨eb, 1, none⟩ = some (.int .i64 (at_ : Nat))) (hlo : lo <= w0.heap.size)
  (hle : beg <= at_ /\ at_ <= s.size)
  (hPM : ∀ v x y, Below x.heap.size x y -> PL v x -> PL v y) (hPF : ∀ v w, PL v w -> ∃ k i fa fn fc, v = .agg #[.int .i64 k, .int .i64 i, .slice fa fn fc])
  (hC6 : ∀ (W : World) (_ : Below w0.heap.size w0 W), Calls Tryz.prog 112 #[.string (s.extract beg at_)] W fun e w => ∃ v, e = .returned v /\ (PL v w) /\ Below W.heap.size W w)
  (hQ : ∀ (y0 y1 y2 y3 y4 y5 y6 y7 : Value) (w : World), Below w0.heap.size w0 w -> ((fun (v : Value) (w : World) => v = bv) y0 w) -> ((fun (v : Value) (w : World) => ∃ b u cs, v = .slice (some ⟨b, 0, none⟩) 1 1 /\ PL u w /\ lo <= b /\ u = .agg cs /\ Cells w b 40 cs) y7 w) -> wpList Tryz.prog ops_rd6.toArray Q [{ dst := some 27, op := Op.call { callee := Callee.builtin Builtin.append, args := #[Operand.tmp 19, Operand.tmp 26], argTypes := #[37, 37] }, type := 37, pos := "amend.go:74", after := #[{ on := 0, ground := Ground.data }, { on := 7, ground := Ground.data }, { on := 6, ground := Ground.chain }], guard := none }, { dst := none, op := Op.store 37 (Operand.tmp 3) (Operand.tmp 27), type := 0, pos := "amend.go:74", after := #[{ on := 8, ground := Ground.data }, { on := 8, ground := Ground.chain }, { on := 0, ground := Ground.phase }, { on := 1, ground := Ground.phase }, { on := 2, ground := Ground.phase }, { on := 3, ground := Ground.phase }, { on := 4, ground := Ground.phase }, { on := 5, ground := Ground.phase }, { on := 6, ground := Ground.phase }, { on := 7, ground := Ground.phase }, { on := 8, ground := Ground.phase }], guard := none }] { a0 with tmps := [(19, y0), (20, y1), (21, y2), (22, y3), (23, y4), (24, y5), (25, y6), (26, y7)].foldl (fun u p => u.setIfInBounds p.1 p.2) a0.tmps } w) :
  wpAny Tryz.prog .any ops_rd6.toArray Q ops_rd6.toArray.size (Array.replicate ops_rd6.toArray.size false) a0 w0 := by
 have M : AllM (pv_rd6 bb tb nb eb lo bv s beg at_ PL) := ⟨fun v x y hb h => h, fun v x y hb h => h, fun v x y hb h => h, fun v x y hb h => h, fun v x y hb h => h, fun v x y hb h => h, fun v x y hb h => hPM v x y hb h, fun v x y hb h => by obtain ⟨b, u, cs, e, h1, h2, h3, h4⟩ := h; exact ⟨b, u, cs, e, hPM u x y hb h1, h2, h3, cells_kept h4 hb h4.lt⟩, trivial⟩
 refine wpAny_mono_tail 8 2 (by kernel_rfl) (by decide) a0 w0 dst_rd6 (pv_rd6 bb tb nb eb lo bv s beg at_ PL) M (by kernel_rfl) (by kernel_rfl) (by kernel_rfl)
  (fun i o _ ho => by unfold dst_rd6; rw [ho]; rfl)
  (fun i k d hi hk h1 h2 => inj_rd6 i hi k hk (by rw [h1]; intro q; cases q) (by rw [h1, h2]))
  (fun i d hi h => by have := lt_rd6 i hi; rw [h] at this; rw [hsz]; exact this)
  (fun i o e ho he hb => by
   obtain ⟨hi, rfl⟩ := List.getElem?_eq_some_iff.1 ho
   exact low_rd6 ⟨i, hi⟩ e he hb)
  ?step ?fin
 case fin =>
  intro a w hd hs hf hv hR
  obtain ⟨y0, hy0, pv0⟩ := hv 0 19 (by decide) rfl
  obtain ⟨y1, hy1, pv1⟩ := hv 1 20 (by decide) rfl
  obtain ⟨y2, hy2, pv2⟩ := hv 2 21 (by decide) rfl
  obtain ⟨y3, hy3, pv3⟩ := hv 3 22 (by decide) rfl
  obtain ⟨y4, hy4, pv4⟩ := hv 4 23 (by decide) rfl
  obtain ⟨y5, hy5, pv5⟩ := hv 5 24 (by decide) rfl
  obtain ⟨y6, hy6, pv6⟩ := hv 6 25 (by decide) rfl
  obtain ⟨y7, hy7, pv7⟩ := hv 7 26 (by decide) rfl
  rw [act_set' (a := a) (a0 := a0) [(19, y0), (20, y1), (21, y2), (22, y3), (23, y4), (24, y5), (25, y6), (26, y7)] hd hs (by
   intro p hp
   simp only [List.mem_cons, List.not_mem_nil, or_false] at hp
   rcases hp with rfl | rfl | rfl | rfl | rfl | rfl | rfl | rfl
   ·exact hy0
   ·exact hy1
   ·exact hy2
   ·exact hy3
   ·exact hy4
   ·exact hy5
   ·exact hy6
   ·exact hy7
   ) (fun j hj => hf j (fun k hk q => hj (by
    have : ∀ k, k < 8 -> (dst_rd6 k).all (fun d => [19, 20, 21, 22, 23, 24, 25, 26].contains d) = true := by decide +kernel
    have h1 := this k hk
    rw [q] at h1
    simpa using h1)))]
  exact hQ y0 y1 y2 y3 y4 y5 y6 y7 w hR pv0 pv7
 case step =>
 intro i o a w hi ho hs hf dep hR
 have e3 := evT ((hf 3 (by decide +kernel)).trans h3)
 have e1 := evT ((hf 1 (by decide +kernel)).trans h1)
 have e4 := evT ((hf 4 (by decide +kernel)).trans h4)
 have e5 := evT ((hf 5 (by decide +kernel)).trans h5)
 rcases (by omega : i = 0 \/ i = 1 \/ i = 2 \/ i = 3 \/ i = 4 \/ i = 5 \/ i = 6 \/ i = 7) with rfl | rfl | rfl | rfl | rfl | rfl | rfl | rfl
 ·have ho2 : some _ = some o := ho
  obtain rfl := Option.some.inj ho2
  exact .inl ⟨wantN rfl, fun K hK => mo_load (by simp [go_sem, (hS w hR).1]) rfl e3 (hK _ _ (Below.refl _ _) rfl)⟩
 ·have ho2 : some _ = some o := ho
  obtain rfl := Option.some.inj ho2
  exact .inl ⟨wantN rfl, fun K hK => mo_load (by simp [go_sem, (hS w hR).2.1]) rfl e1 (hK _ _ (Below.refl _ _) rfl)⟩
 ·have ho2 : some _ = some o := ho
  obtain rfl := Option.some.inj ho2
  exact .inl ⟨wantN rfl, fun K hK => mo_load (by simp [go_sem, (hS w hR).2.2.1]) rfl e4 (hK _ _ (Below.refl _ _) rfl)⟩
 ·have ho2 : some _ = some o := ho
  obtain rfl := Option.some.inj ho2
  exact .inl ⟨wantN rfl, fun K hK => mo_field (by simp [go_sem]) rfl e5 (hK _ _ (Below.refl _ _) rfl)⟩
 ·have ho2 : some _ = some o := ho
  obtain rfl := Option.some.inj ho2
  obtain ⟨_, hv3, rfl⟩ : ∃ v, a.tmps[22]? = some v /\ (fun (v : Value) (w : World) => v = .pointer (some ⟨eb, 1, none⟩)) v w := dep ⟨3, Ground.data⟩ (by first | simp | simp [ops_rd6]) rfl 22 rfl
  exact .inl ⟨wantN rfl, fun K hK => mo_load (by simp [go_sem, (hS w hR).2.2.2]) rfl (evT hv3) (hK _ _ (Below.refl _ _) rfl)⟩
 ·have ho2 : some _ = some o := ho
  obtain rfl := Option.some.inj ho2
  obtain ⟨_, hv1, rfl⟩ : ∃ v, a.tmps[20]? = some v /\ (fun (v : Value) (w : World) => v = .string s) v w := dep ⟨1, Ground.data⟩ (by first | simp | simp [ops_rd6]) rfl 20 rfl
  obtain ⟨_, hv2, rfl⟩ : ∃ v, a.tmps[21]? = some v /\ (fun (v : Value) (w : World) => v = .int .i64 (beg : Nat)) v w := dep ⟨2, Ground.data⟩ (by first | simp | simp [ops_rd6]) rfl 21 rfl
  obtain ⟨_, hv4, rfl⟩ : ∃ v, a.tmps[23]? = some v /\ (fun (v : Value) (w : World) => v = .int .i64 (at_ : Nat)) v w := dep ⟨4, Ground.data⟩ (by first | simp | simp [ops_rd6]) rfl 23 rfl
  exact .inl ⟨wantN rfl, fun K hK => mo_slice2 rfl (evT hv1) (evT hv2) (evT hv4) hle.1 hle.2 (hK _ _ (Below.refl _ _) rfl)⟩
 ·have ho2 : some _ = some o := ho
  obtain rfl := Option.some.inj ho2
  obtain ⟨_, hv5, rfl⟩ : ∃ v, a.tmps[24]? = some v /\ (fun (v : Value) (w : World) => v = .string (s.extract beg at_)) v w := dep ⟨5, Ground.data⟩ (by first | simp | simp [ops_rd6]) rfl 24 rfl
  exact .inl ⟨wantN rfl, fun K hK => mo_call1 112 rfl (evT hv5) (enters_of (P := Tryz.prog) Tryz.func112 (by kernel_rfl) rfl) (hC6 w hR) (fun v w' h => hK v w' h.2 h.1)⟩
 have ho2 : some _ = some o := ho
 obtain rfl := Option.some.inj ho2
 obtain ⟨z6, hv6, pv6⟩ : ∃ v, a.tmps[25]? = some v /\ (fun (v : Value) (w : World) => PL v w) v w := dep ⟨6, Ground.data⟩ (by first | simp | simp [ops_rd6]) rfl 25 rfl
 exact .inl ⟨wantN rfl, fun K hK => by obtain ⟨k1, i1, fa1, fn1, fc1, rfl⟩ := hPF _ _ pv6; exact mo_lit3 rfl (evT hv6) (hK _ _ ((Below.refl _ _).alloc (Nat.le_refl _) _) ⟨w.heap.size, _, _, rfl, hPM _ _ _ ((Below.refl _ _).alloc (Nat.le_refl _) _) pv6, Nat.le_trans hlo hR.size, rfl, Cells.new _ _ _⟩)⟩
def ops_rd8 : List Oper := [
 { dst := some 30, op := Op.load 37 (Operand.tmp 3), type := 37, pos := "amend.go:78", after := #[], guard := none },
 { dst := some 31, op := Op.load 9 (Operand.tmp 1), type := 9, pos := "amend.go:78", after := #[], guard := none },
 { dst := some 32, op := Op.load 3 (Operand.tmp 4), type := 3, pos := "amend.go:78", after := #[], guard := none },
 { dst := some 33, op := Op.slice 9 (Operand.tmp 31) (some (Operand.tmp 32)) none none, type := 9, pos := "amend.go:78", after := #[{ on := 1, ground := Ground.data }, { on := 2, ground := Ground.data }], guard := none },
 { dst := some 34, op := Op.call { callee := Callee.value (Operand.func 112), args := #[Operand.tmp 33], argTypes := #[9] }, type := 40, pos := "amend.go:78", after := #[{ on := 3, ground := Ground.data }], guard := none },
 { dst := some 35, op := Op.buildSlice 37 1 #[(0, Operand.tmp 34)], type := 37, pos := "amend.go:78", after := #[{ on := 4, ground := Ground.data }], guard := none },
 { dst := some 36, op := Op.call { callee := Callee.builtin Builtin.append, args := #[Operand.tmp 30, Operand.tmp 35], argTypes := #[37, 37] }, type := 37, pos := "amend.go:78", after := #[{ on := 0, ground := Ground.data }, { on := 5, ground := Ground.data }, { on := 4, ground := Ground.chain }], guard := none },
 { dst := some 2, op := Op.assign (Operand.tmp 36), type := 37, pos := "amend.go:78", after := #[{ on := 6, ground := Ground.data }, { on := 6, ground := Ground.chain }, { on := 0, ground := Ground.phase }, { on := 1, ground := Ground.phase }, { on := 2, ground := Ground.phase }, { on := 3, ground := Ground.phase }, { on := 4, ground := Ground.phase }, { on := 5, ground := Ground.phase }, { on := 6, ground := Ground.phase }], guard := none }]
def dst_rd8 (i : Nat) : Option Nat := (ops_rd8[i]?).bind (·.dst)
theorem inj_rd8 : ∀ i, i < 6 -> ∀ k, k < 6 -> dst_rd8 i ≠ none -> dst_rd8 i = dst_rd8 k -> i = k := by decide +kernel
theorem lt_rd8 : ∀ i, i < 6 -> (dst_rd8 i).getD 0 < 37 := by decide +kernel
theorem low_rd8 : ∀ i : Fin 8, ∀ e ∈ (ops_rd8[i.1]'(by exact i.2)).after, Region.binds .any e = true -> e.on < i.1 := by decide +kernel
def pv_rd8 (bb tb nb lo : Nat) (bv : Value) (s : ByteArray) (beg : Nat) (PL : Value -> World -> Prop) : List (Value -> World -> Prop) := [
 fun v w => v = bv,
 fun v w => v = .string s,
 fun v w => v = .int .i64 (beg : Nat),
 fun v w => v = .string (s.extract beg s.size),
 fun v w => PL v w,
 fun v w => ∃ b u cs, v = .slice (some ⟨b, 0, none⟩) 1 1 /\ PL u w /\ lo <= b /\ u = .agg cs /\ Cells w b 40 cs]
theorem region_rd8 (a0 : Act) (w0 : World) (bb tb nb lo : Nat) (bv : Value) (s : ByteArray) (beg : Nat) (PL : Value -> World -> Prop) (Q : Exit -> Act -> World -> Prop)
  (hsz : a0.tmps.size = 37) (h3 : a0.tmps[3]? = some (.pointer (some ⟨bb, 0, none⟩))) (h1 : a0.tmps[1]? = some (.pointer (some ⟨tb, 0, none⟩))) (h4 : a0.tmps[4]? = some (.pointer (some ⟨nb, 0, none⟩)))
  (hS : ∀ W, Below w0.heap.size w0 W -> W.cell? ⟨bb, 0, none⟩ = some bv /\ W.cell? ⟨tb, 0, none⟩ = some (.string s) /\ W.cell? ⟨nb, 0, none⟩ = some (.int .i64 (beg : Nat)) /\ True) (hlo : lo <= w0.heap.size)
  (hle : beg <= s.size)
  (hPM : ∀ v x y, Below x.heap.size x y -> PL v x -> PL v y) (hPF : ∀ v w, PL v w -> ∃ k i fa fn fc, v = .agg #[.int .i64 k, .int .i64 i, .slice fa fn fc])
  (hC4 : ∀ (W : World) (_ : Below w0.heap.size w0 W), Calls Tryz.prog 112 #[.string (s.extract beg s.size)] W fun e w => ∃ v, e = .returned v /\ (PL v w) /\ Below W.heap.size W w)
  (hQ : ∀ (y0 y1 y2 y3 y4 y5 : Value) (w : World), Below w0.heap.size w0 w -> ((fun (v : Value) (w : World) => v = bv) y0 w) -> ((fun (v : Value) (w : World) => ∃ b u cs, v = .slice (some ⟨b, 0, none⟩) 1 1 /\ PL u w /\ lo <= b /\ u = .agg cs /\ Cells w b 40 cs) y5 w) -> wpList Tryz.prog ops_rd8.toArray Q [{ dst := some 36, op := Op.call { callee := Callee.builtin Builtin.append, args := #[Operand.tmp 30, Operand.tmp 35], argTypes := #[37, 37] }, type := 37, pos := "amend.go:78", after := #[{ on := 0, ground := Ground.data }, { on := 5, ground := Ground.data }, { on := 4, ground := Ground.chain }], guard := none }, { dst := some 2, op := Op.assign (Operand.tmp 36), type := 37, pos := "amend.go:78", after := #[{ on := 6, ground := Ground.data }, { on := 6, ground := Ground.chain }, { on := 0, ground := Ground.phase }, { on := 1, ground := Ground.phase }, { on := 2, ground := Ground.phase }, { on := 3, ground := Ground.phase }, { on := 4, ground := Ground.phase }, { on := 5, ground := Ground.phase }, { on := 6, ground := Ground.phase }], guard := none }] { a0 with tmps := [(30, y0), (31, y1), (32, y2), (33, y3), (34, y4), (35, y5)].foldl (fun u p => u.setIfInBounds p.1 p.2) a0.tmps } w) :
  wpAny Tryz.prog .any ops_rd8.toArray Q ops_rd8.toArray.size (Array.replicate ops_rd8.toArray.size false) a0 w0 := by
 have M : AllM (pv_rd8 bb tb nb lo bv s beg PL) := ⟨fun v x y hb h => h, fun v x y hb h => h, fun v x y hb h => h, fun v x y hb h => h, fun v x y hb h => hPM v x y hb h, fun v x y hb h => by obtain ⟨b, u, cs, e, h1, h2, h3, h4⟩ := h; exact ⟨b, u, cs, e, hPM u x y hb h1, h2, h3, cells_kept h4 hb h4.lt⟩, trivial⟩
 refine wpAny_mono_tail 6 2 (by kernel_rfl) (by decide) a0 w0 dst_rd8 (pv_rd8 bb tb nb lo bv s beg PL) M (by kernel_rfl) (by kernel_rfl) (by kernel_rfl)
  (fun i o _ ho => by unfold dst_rd8; rw [ho]; rfl)
  (fun i k d hi hk h1 h2 => inj_rd8 i hi k hk (by rw [h1]; intro q; cases q) (by rw [h1, h2]))
  (fun i d hi h => by have := lt_rd8 i hi; rw [h] at this; rw [hsz]; exact this)
  (fun i o e ho he hb => by
   obtain ⟨hi, rfl⟩ := List.getElem?_eq_some_iff.1 ho
   exact low_rd8 ⟨i, hi⟩ e he hb)
  ?step ?fin
 case fin =>
  intro a w hd hs hf hv hR
  obtain ⟨y0, hy0, pv0⟩ := hv 0 30 (by decide) rfl
  obtain ⟨y1, hy1, pv1⟩ := hv 1 31 (by decide) rfl
  obtain ⟨y2, hy2, pv2⟩ := hv 2 32 (by decide) rfl
  obtain ⟨y3, hy3, pv3⟩ := hv 3 33 (by decide) rfl
  obtain ⟨y4, hy4, pv4⟩ := hv 4 34 (by decide) rfl
  obtain ⟨y5, hy5, pv5⟩ := hv 5 35 (by decide) rfl
  rw [act_set' (a := a) (a0 := a0) [(30, y0), (31, y1), (32, y2), (33, y3), (34, y4), (35, y5)] hd hs (by
   intro p hp
   simp only [List.mem_cons, List.not_mem_nil, or_false] at hp
   rcases hp with rfl | rfl | rfl | rfl | rfl | rfl
   ·exact hy0
   ·exact hy1
   ·exact hy2
   ·exact hy3
   ·exact hy4
   ·exact hy5
   ) (fun j hj => hf j (fun k hk q => hj (by
    have : ∀ k, k < 6 -> (dst_rd8 k).all (fun d => [30, 31, 32, 33, 34, 35].contains d) = true := by decide +kernel
    have h1 := this k hk
    rw [q] at h1
    simpa using h1)))]
  exact hQ y0 y1 y2 y3 y4 y5 w hR pv0 pv5
 case step =>
 intro i o a w hi ho hs hf dep hR
 have e3 := evT ((hf 3 (by decide +kernel)).trans h3)
 have e1 := evT ((hf 1 (by decide +kernel)).trans h1)
 have e4 := evT ((hf 4 (by decide +kernel)).trans h4)
 rcases (by omega : i = 0 \/ i = 1 \/ i = 2 \/ i = 3 \/ i = 4 \/ i = 5) with rfl | rfl | rfl | rfl | rfl | rfl
 ·have ho2 : some _ = some o := ho
  obtain rfl := Option.some.inj ho2
  exact .inl ⟨wantN rfl, fun K hK => mo_load (by simp [go_sem, (hS w hR).1]) rfl e3 (hK _ _ (Below.refl _ _) rfl)⟩
 ·have ho2 : some _ = some o := ho
  obtain rfl := Option.some.inj ho2
  exact .inl ⟨wantN rfl, fun K hK => mo_load (by simp [go_sem, (hS w hR).2.1]) rfl e1 (hK _ _ (Below.refl _ _) rfl)⟩
 ·have ho2 : some _ = some o := ho
  obtain rfl := Option.some.inj ho2
  exact .inl ⟨wantN rfl, fun K hK => mo_load (by simp [go_sem, (hS w hR).2.2.1]) rfl e4 (hK _ _ (Below.refl _ _) rfl)⟩
 ·have ho2 : some _ = some o := ho
  obtain rfl := Option.some.inj ho2
  obtain ⟨_, hv1, rfl⟩ : ∃ v, a.tmps[31]? = some v /\ (fun (v : Value) (w : World) => v = .string s) v w := dep ⟨1, Ground.data⟩ (by first | simp | simp [ops_rd8]) rfl 31 rfl
  obtain ⟨_, hv2, rfl⟩ : ∃ v, a.tmps[32]? = some v /\ (fun (v : Value) (w : World) => v = .int .i64 (beg : Nat)) v w := dep ⟨2, Ground.data⟩ (by first | simp | simp [ops_rd8]) rfl 32 rfl
  exact .inl ⟨wantN rfl, fun K hK => mo_slice1 rfl (evT hv1) (evT hv2) hle (hK _ _ (Below.refl _ _) rfl)⟩
 ·have ho2 : some _ = some o := ho
  obtain rfl := Option.some.inj ho2
  obtain ⟨_, hv3, rfl⟩ : ∃ v, a.tmps[33]? = some v /\ (fun (v : Value) (w : World) => v = .string (s.extract beg s.size)) v w := dep ⟨3, Ground.data⟩ (by first | simp | simp [ops_rd8]) rfl 33 rfl
  exact .inl ⟨wantN rfl, fun K hK => mo_call1 112 rfl (evT hv3) (enters_of (P := Tryz.prog) Tryz.func112 (by kernel_rfl) rfl) (hC4 w hR) (fun v w' h => hK v w' h.2 h.1)⟩
 have ho2 : some _ = some o := ho
 obtain rfl := Option.some.inj ho2
 obtain ⟨z4, hv4, pv4⟩ : ∃ v, a.tmps[34]? = some v /\ (fun (v : Value) (w : World) => PL v w) v w := dep ⟨4, Ground.data⟩ (by first | simp | simp [ops_rd8]) rfl 34 rfl
 exact .inl ⟨wantN rfl, fun K hK => by obtain ⟨k1, i1, fa1, fn1, fc1, rfl⟩ := hPF _ _ pv4; exact mo_lit3 rfl (evT hv4) (hK _ _ ((Below.refl _ _).alloc (Nat.le_refl _) _) ⟨w.heap.size, _, _, rfl, hPM _ _ _ ((Below.refl _ _).alloc (Nat.le_refl _) _) pv4, Nat.le_trans hlo hR.size, rfl, Cells.new _ _ _⟩)⟩
end Go.Proofs.YtbkeoiefolkjfaaGreatDoor
