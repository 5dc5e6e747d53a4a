/- Texts put together: AF, RM, EJ, RO, JB, EM, EN, EH, EI, N0, EK, EV, NS, NT, NU, NV, NL, NM, NP, NW, EC, EO, EW, AO, AD. -/
import Derived.StillTail
import Derived.ArgAppend
import Derived.OwnWalk
import Derived.BigFrame
import Derived.Laws.AppendOwnNone
import Derived.WideShapes
import Derived.Test.YtgaooalckjjplaaGreatDoorBfa1
import Derived.Test.YtgaooalckjjplaaGreatDoorBfa2
import Derived.Test.YtgaooalckjjplaaGreatDoorBfa3
import Derived.Test.YtgaooalckjjplaaGreatDoorBfa5
import Derived.Test.YtgaooalckjjplaaGreatDoorBfa7
import Derived.Test.YtgaooalckjjplaaGreatDoorBfa12
import Derived.Test.YtgaooalckjjplaaGreatDoorBfa13
import Derived.Test.YtgaooalckjjplaaGreatDoorBfa14
import Derived.Test.YtgaooalckjjplaaGreatDoorBfa15
import Derived.Test.YtgaooalckjjplaaGreatDoorBfa16
set_option linter.unusedVariables false
namespace Go.Proofs.YtgaooalckjjplaaGreatDoor
open Go.RowKit Go.Shelf
attribute [local go_sem] Oper.semAt_some

theorem indent_one (s a : ByteArray) (hs : s.size ≤ 1000000) (ha : a.size ≤ 100000) (bk : Nat) (w : World) (h0 : w.cell? ⟨bk, 0, none⟩ = some (.string a)) (hbk : bk < w.heap.size) :
    Calls Tryz.prog 56 #[.string s, .slice (some ⟨bk, 0, none⟩) 1 1] w fun e w' => e = .returned (.string ⟨(indL a.data.toList (linesOf s.data.toList)).toArray⟩) ∧ Below w.heap.size w w' := by
  refine indent_any s hs _ _ (by rw [← Lib.size_eq]; omega) w ?_
  have hj : Lib.join ([a].map (·.data.toList)) (⟨#[]⟩ : ByteArray).data.toList = a.data.toList := by simp [Lib.join]
  have := Tryz.strings_Join bk 0 1 [a] ⟨#[]⟩ w (fun j x hx => by
    match j, hx with
    | 0, hx => cases hx; exact h0) hbk (by simp) (by simp) (by rw [hj, ← Lib.size_eq]; omega)
  rw [hj] at this
  exact this
theorem foldG_le {fs : List Fld} (h : GoodF fs) : (foldG fs).length ≤ 4000 * fs.length := by
  replace h := h.each
  induction fs with
  | nil => exact Nat.le_refl _
  | cons f r ih =>
    have e : foldG (f :: r) = textL (linesL f.1 f.2) ++ foldG r := by unfold foldG; rw [List.flatMap_cons]
    obtain ⟨a, b⟩ := h f List.mem_cons_self
    have := text_le (k := f.1) (v := f.2) (by unfold checkN; rw [if_pos a, if_pos b])
    rw [e, List.length_append, List.length_cons]
    have := ih (fun x hx => h x (List.mem_cons_of_mem _ hx))
    omega
theorem GoodF.foldN {fs : List Fld} (h : GoodF fs) : foldN fs = 0 := foldN_of fs fun f hf => by
  obtain ⟨a, b⟩ := h.each f hf
  unfold checkN; rw [if_pos a, if_pos b]
theorem GoodF.foldT {fs : List Fld} (h : GoodF fs) : foldT fs = foldG fs := by unfold Proofs.YtgaooalckjjplaaGreatDoor.foldT; rw [if_pos h.foldN]
theorem goodKey_len {k : List UInt8} (h : goodKey k = true) : k.length ≤ 32 := (good_parts h).2.1
theorem GoodF.small {fs : List Fld} (h : GoodF fs) : ∀ f ∈ fs, f.1.length ≤ 100000 ∧ f.2.length ≤ 100000 := fun f hf => by
  obtain ⟨a, b⟩ := h.each f hf
  have := goodKey_len a
  omega
theorem ind_le (ls : List Ln) : (ls.flatMap (fun x => [32, 32] ++ x.bytes)).length = 2 * ls.length + (ls.flatMap Ln.bytes).length := by
  induction ls with
  | nil => rfl
  | cons x r ih =>
    rw [List.flatMap_cons, List.flatMap_cons, List.length_append, List.length_append, ih, List.length_append, List.length_cons]
    simp only [List.length_cons, List.length_nil]
    omega
theorem edT_parts {ed : Ed} (h : GoodF ed.fields) : edT ed = (lineA ed.kind ed.id ++ [10]) ++ indL [32, 32] (linesOf (foldG ed.fields)) := by
  rw [edT_eq h]; unfold indL; simp
theorem edT_le {ed : Ed} (h : GoodF ed.fields) (hi : I64 ed.id) : (edT ed).length ≤ 600000 := by
  have h1 := foldG_le h
  have h2 := h.len
  have h3 := linesOf_length (foldG ed.fields)
  have h4 := Lib.itoa_length_le ed.id hi.1 hi.2
  have h5 : (lineA ed.kind ed.id).length ≤ 40 := by
    unfold lineA
    split
    · rename_i hk
      have : (wordL ed.kind).length ≤ 7 := by rcases hk with e | e | e <;> rw [e] <;> decide
      rw [List.length_cons, List.length_append, List.length_cons]; omega
    · simp
  rw [edT_eq h, List.length_append, List.length_cons, ind_le, linesOf_join]
  omega
/-- What Encode comes to. -/
def EncR (w w' : World) (eds : List Ed) (e : Ending) : Prop :=
  Below w.heap.size w w' ∧ (((chkB eds).2 = 0 ∧ e = .returned (.tuple #[.string (B (batchT eds)), .nilIface])) ∨ ((chkB eds).2 ≠ 0 ∧ ∃ u, e = .returned (.tuple #[.string ⟨#[]⟩, u]) ∧ ErrZ w.heap.size w' u (chkB eds).1 (chkB eds).2))
set_option maxRecDepth 100000 in
set_option maxHeartbeats 4000000 in
theorem encode_any (eds : List Ed) (v : Value) (w : World) (h : EdV w v eds) (hl : eds.length ≤ 1000000) (hf : Fines8 eds) (hi : ∀ ed ∈ eds, I64 ed.id) (ht : Tabs w) :
    Calls Tryz.prog 22 #[v] w fun e w' => EncR w w' eds e := by
  have CK := Lib.hid (checkB_any8 eds v w h hl hf ht.err)
  obtain ⟨A, cap, rfl, hle, hc⟩ := h
  have PC := Lib.hid hc
  have HT := Lib.hid ht
  have HI := Lib.hid hi
  clear hc hf ht hi
  go_enter Tryz.func22, Tryz.ntmps22
  go_wp2_with fail
  refine CK.out.mono ?_
  rintro e w1 ⟨u, rfl, b1, hz⟩
  by_cases h0 : (chkB eds).2 = 0
  · obtain ⟨⟨g1, g40⟩, GD⟩ := chkB_good h0
    have GDH := Lib.hid GD
    obtain rfl : u = .nilIface := by
      obtain ⟨_, ⟨rfl, _⟩ | ⟨_, _, _, hx⟩⟩ := hz
      · rw [h0]; rfl
      · exact absurd h0 hx
    have B1 := Lib.hid b1
    have Z0 := Lib.hid h0
    have hz1 := b1.size
    have NB := Bld.new w1 (w1.heap.size + 1)
    have NBB : Below w.heap.size w (w1.alloc (.cells #[.pointer none, .slice none 0 0] 121)) := b1.alloc b1.size _
    clear hz GD b1 CK h0
    go_wp2_with fail
    go_loopw [17] (fun i wr => ∃ k : Nat, k ≤ eds.length ∧ i = .int .i64 k ∧ Bld w1.heap.size (w1.heap.size + 1) (batchT (eds.take k)) wr ∧ (batchT (eds.take k)).length ≤ 600000 * k ∧ Below w.heap.size w wr ∧ w1.heap.size < wr.heap.size) (fun i _ => eds.length - (intOf i).toNat)
    case atStart => exact ⟨0, Nat.zero_le _, rfl, NB, Nat.le_refl _, NBB, by simp⟩
    case round =>
      obtain ⟨k, hk, rfl, hbl, hbt, hb, hzr⟩ := hrel
      by_cases hlt : k < eds.length
      · obtain ⟨ed, hed⟩ : ∃ ed, eds[k]? = some ed := ⟨_, List.getElem?_eq_getElem hlt⟩
        obtain ⟨b, off, fv, rfl, hbb, c0, c1, c2, hfl⟩ := PC.out k ed hed
        obtain ⟨fa, fc, rfl, _, _⟩ := _root_.id hfl.1
        replace c0 := (hb.cell (p := ⟨b, off + k * 3, none⟩) hbb).trans c0
        replace c1 := (hb.cell (p := ⟨b, off + k * 3 + 1, none⟩) hbb).trans c1
        replace c2 := (hb.cell (p := ⟨b, off + k * 3 + 1 + 1, none⟩) hbb).trans c2
        have hge := GDH.out ed (List.mem_of_getElem? hed)
        have hie := HI.out ed (List.mem_of_getElem? hed)
        have GF := goodE_F hge
        have TK : Hid (batchT (eds.take (k + 1)) = batchT (eds.take k) ++ ((lineA ed.kind ed.id ++ [10]) ++ indL [32, 32] (linesOf (foldG ed.fields)))) := by
          show _ = _
          rw [take_snoc hed, batchT_snoc, edT_parts GF]
        have ELE := edT_le GF hie
        rw [edT_parts GF] at ELE
        obtain ⟨wa, hwa⟩ : ∃ wa, wa = wr.alloc (.cells #[.int .i64 ed.kind, .int .i64 ed.id, .slice fa ed.fields.length fc] 64) := ⟨_, rfl⟩
        have hsr := hb.size
        have hba : Below wr.heap.size wr wa := by rw [hwa]; exact (Below.refl _ wr).alloc (Nat.le_refl _) _
        have hwz : wa.heap.size = wr.heap.size + 1 := by rw [hwa]; simp
        have cx : Cells wa wr.heap.size 64 #[.int .i64 ed.kind, .int .i64 ed.id, .slice fa ed.fields.length fc] := by rw [hwa]; exact Cells.new _ _ _
        have d0 := cx.cell 0
        have d1 := cx.cell 1
        have d2 := cx.cell 2
        have hB := hb.trans (hba.mono hsr)
        have LNE := Lib.hid (lineA_any ed (.slice fa ed.fields.length fc) hie wa (HT.out.below hB (Nat.le_refl _)))
        have blA := hbl.kept hba (Nat.le_refl _)
        have BLA := Lib.hid blA
        have HBA := Lib.hid hB
        have CX := Lib.hid cx
        have FLD : Hid (∀ W, Below w.heap.size w W → Calls Tryz.prog 55 #[.slice fa ed.fields.length fc] W fun e w' => e = .returned (.tuple #[.string (B (foldG ed.fields)), .nilIface]) ∧ Below W.heap.size W w') := fun W hW => by
          have := fold_any ed.fields (.slice fa ed.fields.length fc) W (hfl.1.below hW (Nat.le_refl _)) (by have := GF.len; omega) GF.small
          rw [GF.foldT, GF.foldN] at this
          exact this
        have fle := foldG_le GF
        have fl40 := GF.len
        have FLE : (B (foldG ed.fields)).size ≤ 160000 := by rw [B_size]; omega
        clear hed hfl hbl blA hba hB cx hge hie GF hbb fle fl40
        have WRL : Hid (∀ (l : List UInt8) (s : ByteArray) (W : World), Bld w1.heap.size (w1.heap.size + 1) l W → wr.heap.size < W.heap.size → l.length + s.size ≤ 140737488355328 →
            Calls Tryz.prog 53 #[.pointer (some ⟨w1.heap.size, 0, none⟩), .string s] W fun e W' => e = .returned (.tuple #[.int .i64 s.size, .nilIface]) ∧ Bld w1.heap.size (w1.heap.size + 1) (l ++ s.data.toList) W' ∧ Wrote w1.heap.size (w1.heap.size + 1) W W') := fun l s W h1 h2 h3 => writes _ _ l s W h1 (by omega) (by omega) h3
        have LE1 : (B (lineA ed.kind ed.id)).size + 1 + (indL [32, 32] (linesOf (foldG ed.fields))).length ≤ 600000 := by
          rw [B_size]; rw [List.length_append, List.length_append] at ELE; exact ELE
        have DL := Lib.hid (B_data (lineA ed.kind ed.id))
        have DF := Lib.hid (B_data (foldG ed.fields))
        have IND : Hid (∀ W, Calls Tryz.prog 56 #[.string (B (foldG ed.fields)), .slice (some ⟨W.heap.size, 0, none⟩) 1 1] (W.alloc (.cells #[.string ⟨#[32, 32]⟩] 9)) fun e W' => e = .returned (.string (B (indL [32, 32] (linesOf (foldG ed.fields))))) ∧ Below W.heap.size W W') := fun W => by
          refine (indent_one _ ⟨#[32, 32]⟩ (by omega) (by decide) W.heap.size _ (by simp) (by simp)).mono ?_
          rintro e W' ⟨rfl, b⟩
          refine ⟨?_, ((Below.refl _ W).alloc (Nat.le_refl _) _).trans (b.mono (by simp))⟩
          rw [show (⟨#[32, 32]⟩ : ByteArray).data.toList = [32, 32] from rfl, B_data]; rfl
        have DI := Lib.hid (B_data (indL [32, 32] (linesOf (foldG ed.fields))))
        have LEI : (B (indL [32, 32] (linesOf (foldG ed.fields)))).size = (indL [32, 32] (linesOf (foldG ed.fields))).length := B_size _
        have LEL : (B (lineA ed.kind ed.id)).size = (lineA ed.kind ed.id).length := B_size _
        clear DF
        generalize hIND : B (indL [32, 32] (linesOf (foldG ed.fields))) = ind at *
        generalize hIL : indL [32, 32] (linesOf (foldG ed.fields)) = indl at *
        generalize hLA : B (lineA ed.kind ed.id) = la at *
        generalize hLL : lineA ed.kind ed.id = lal at *
        generalize hFG : B (foldG ed.fields) = fg at *
        generalize hBT : batchT (eds.take k) = bt at *
        clear hIND hIL hLA hLL hFG d0 d1 d2
        have D2 : Hid (∀ W, Cells W wr.heap.size 64 #[.int .i64 ed.kind, .int .i64 ed.id, .slice fa ed.fields.length fc] → W.cell? ⟨wr.heap.size, 2, none⟩ = some (.slice fa ed.fields.length fc)) := fun W h => by rw [h.cell]; rfl
        subst hwa
        go_wp2_with fail
        refine LNE.out.mono ?_
        rintro e w2 ⟨rfl, b2⟩
        have hs2 := b2.size
        rw [hwz] at hs2
        have bl2 := BLA.out.kept b2 (Nat.le_refl _)
        have HB2 := Lib.hid (HBA.out.trans (b2.mono HBA.out.size))
        have cx2 := cells_kept CX.out b2 (by rw [hwz]; omega)
        clear b2 LNE BLA
        go_wp2_with fail
        refine (WRL.out _ _ w2 bl2 (by omega) (by omega)).mono ?_
        rintro e w3 ⟨rfl, bl3, o3⟩
        have hs3 := o3.size
        have cx3 : Cells w3 wr.heap.size 64 _ := o3.other cx2 (by omega) (by decide)
        have HB3 := Lib.hid (HB2.out.trans (o3.below (by omega) (by omega) (by omega)))
        rw [DL.out] at bl3
        clear o3 cx2 bl2
        go_wp2_with fail
        refine (WRL.out _ ⟨#[10]⟩ w3 bl3 (by omega) (by rw [List.length_append]; show _ + 1 ≤ _; omega)).mono ?_
        rintro e w4 ⟨rfl, bl4, o4⟩
        have hs4 := o4.size
        have cx4 : Cells w4 wr.heap.size 64 _ := o4.other cx3 (by omega) (by decide)
        have HB4 := Lib.hid (HB3.out.trans (o4.below (by omega) (by omega) (by omega)))
        have BL4 := Lib.hid bl4
        have d2 := D2.out w4 cx4
        have FL4 := Lib.hid (FLD.out w4 HB4.out)
        clear o4 cx3 bl3 bl4 FLD cx4
        go_wp2_with fail
        refine FL4.out.mono ?_
        rintro e w5 ⟨rfl, b5⟩
        have hs5 := b5.size
        have bl5 := BL4.out.kept b5 (Nat.le_refl _)
        have HB5 := Lib.hid (HB4.out.trans (b5.mono HB4.out.size))
        have BL5 := Lib.hid bl5
        have IN5 := Lib.hid (IND.out w5)
        clear b5 bl5 FL4 BL4 IND
        go_wp2_with fail
        refine IN5.out.mono ?_
        rintro e w6 ⟨rfl, b6⟩
        have hs6 := b6.size
        have bl6 := BL5.out.kept b6 (Nat.le_refl _)
        have HB6 := Lib.hid (HB5.out.trans (b6.mono HB5.out.size))
        clear b6 IN5 BL5
        go_wp2_with fail
        refine (WRL.out _ _ w6 bl6 (by omega) (by rw [List.length_append, List.length_append]; show _ + 1 + _ ≤ _; omega)).mono ?_
        rintro e w7 ⟨rfl, bl7, o7⟩
        have hs7 := o7.size
        have HB7 := Lib.hid (HB6.out.trans (o7.below (by omega) (by omega) (by omega)))
        rw [DI.out] at bl7
        have BL7 := Lib.hid bl7
        clear o7 bl6 bl7
        go_wp2_with fail
        go_roundw
        case rel =>
          have eT : batchT (eds.take (k + 1)) = bt ++ lal ++ (⟨#[10]⟩ : ByteArray).data.toList ++ indl := by
            rw [TK.out, show (⟨#[10]⟩ : ByteArray).data.toList = [10] from rfl]; simp
          refine ⟨k + 1, hlt, by go_num, by rw [eT]; exact BL7.out, ?_, HB7.out, by omega⟩
          rw [eT, List.length_append, List.length_append, List.length_append]
          show _ + _ + 1 + _ ≤ _
          omega
        case measure => simp [intOf]; omega
      · obtain rfl : k = eds.length := by omega
        rw [List.take_length] at hbl
        have Z := Lib.hid Z0.out
        clear PC HT HI GDH hbt
        have hbs := hb.size
        go_wp2_with fail
        refine (Tryz.Builder_String_any_k w1.heap.size w1.heap.size _ wr (hbl.library (Nat.le_refl _) (by omega)) (by omega)).mono ?_
        rintro e w5 ⟨rfl, _, b5, _⟩
        have B5 := Lib.hid (hb.trans (b5.mono hz1))
        go_wp2_with fail
        go_ret2
        exact ⟨B5.out, .inl ⟨Z.out, rfl⟩⟩
  · have NZ := Lib.hid h0
    have Z1 := Lib.hid hz
    have B1 := Lib.hid b1
    obtain ⟨_, ⟨rfl, hx⟩ | ⟨kk, ⟨q, _, rfl, _⟩, _, _⟩⟩ := hz
    · obtain ⟨n, hn⟩ : ∃ n, n = (chkB eds).2 := ⟨_, rfl⟩
      have hpos : 0 < (chkB eds).2 := Nat.pos_of_ne_zero h0
      have ZR : Hid (EncR w w1 eds (.returned (.tuple #[.string ⟨#[]⟩, errV (chkB eds).2]))) := ⟨B1.out, .inr ⟨h0, _, rfl, Z1.out⟩⟩
      rw [errV_pos _ hpos] at ZR ⊢
      clear CK Z1 hx b1 PC
      generalize ((chkB eds).2 : Int) = zz at *
      go_wp2_with fail
      go_ret2
      exact ZR.out
    · have ZR : Hid (EncR w w1 eds (.returned (.tuple #[.string ⟨#[]⟩, .iface 82 (.pointer (some ⟨q, 0, none⟩))]))) := ⟨B1.out, .inr ⟨h0, _, rfl, Z1.out⟩⟩
      clear CK Z1 b1 PC
      go_wp2_with fail
      go_ret2
      exact ZR.out
end Go.Proofs.YtgaooalckjjplaaGreatDoor

namespace Go.Proofs.YtgaooalckjjplaaGreatDoor
open Go.RowKit

end Go.Proofs.YtgaooalckjjplaaGreatDoor

namespace Go.Proofs.YtgaooalckjjplaaGreatDoor
open Go.RowKit

end Go.Proofs.YtgaooalckjjplaaGreatDoor

namespace Go.Proofs.YtgaooalckjjplaaGreatDoor
open Go.RowKit Go.Shelf
attribute [local go_sem] Oper.semAt_some

section
variable {o : Oper} {a : Act} {w : World} {K : Act → World → Prop} {Q : Exit → Act → World → Prop}
end
section
variable {o : Oper} {a : Act} {w : World} {K : Act → World → Prop} {Q : Exit → Act → World → Prop} {T : Value → World → Prop}
end
end Go.Proofs.YtgaooalckjjplaaGreatDoor

namespace Go.Proofs.YtgaooalckjjplaaGreatDoor
open Go.RowKit Go.Shelf
attribute [local go_sem] Oper.semAt_some
section
variable {o : Oper} {a : Act} {w : World} {K : Act → World → Prop} {Q : Exit → Act → World → Prop}
end
end Go.Proofs.YtgaooalckjjplaaGreatDoor

namespace Go.Proofs.YtgaooalckjjplaaGreatDoor
open Go.RowKit Go.Shelf
attribute [local go_sem] Oper.semAt_some

section
variable {o : Oper} {a : Act} {w : World} {K : Act → World → Prop} {Q : Exit → Act → World → Prop}
end
end Go.Proofs.YtgaooalckjjplaaGreatDoor

namespace Go.Proofs.YtgaooalckjjplaaGreatDoor
open Go.RowKit Go.Shelf

end Go.Proofs.YtgaooalckjjplaaGreatDoor

namespace Go.Proofs.YtgaooalckjjplaaGreatDoor
open Go.RowKit Go.Shelf
attribute [local go_sem] Oper.semAt_some

theorem WrR.from {w w1 w' : World} {lb : Nat} {ev u ev' : Value} {ps ps' : List Pr} {d : Did} (h : WrR w1 lb ev ps d u w' ev' ps') (hb : Below w.heap.size w w1) : WrR w lb ev ps d u w' ev' ps' := by
  refine ⟨h.la, h.es, ?_, ?_, h.err.mono hb.size, fun p hp => ?_⟩
  · exact (Only.of_below (S := fun r => r = lb ∨ ev.ownBlock = some r) hb (Nat.le_refl _)).trans h.only (fun r _ e => e)
  · rcases h.blk with q | ⟨b, q, hq⟩
    · exact .inl q
    · exact .inr ⟨b, q, by have := hb.size; omega⟩
  · rcases h.mem p hp with q | q
    · exact .inl q
    · exact .inr (fun b e => by have := q b e; have := hb.size; omega)
theorem WrR.blks {w w' : World} {lb : Nat} {ev u ev' : Value} {ps ps' : List Pr} {d : Did} (h : WrR w lb ev ps d u w' ev' ps') {r : Nat} (hr : BlkR lb ev' ps' (.slice none 0 0) [] r) : BlkR lb ev ps (.slice none 0 0) [] r ∨ w.heap.size ≤ r := by
  rcases hr with q | q | q | ⟨p, hp, hne, q⟩ | ⟨p, hp, _⟩
  · exact .inl (.inl q)
  · rcases h.blk with e | ⟨b, e, hb⟩
    · exact .inl (.inr (.inl (by rw [← e]; exact q)))
    · rw [e] at q; cases q; exact .inr hb
  · cases q
  · rcases h.mem p hp with e | e
    · exact .inl (.inr (.inr (.inr (.inl ⟨p, e, hne, q⟩))))
    · exact .inr (e r q)
  · cases hp
theorem Carry.only {S0 : Nat} {w w' : World} {lb : Nat} {ev : Value} {ps : List Pr} {l : LS} {m : Nat} {S : Nat → Prop} (h : Carry S0 w lb ev ps l m) (g : Only S w w') (hs : ∀ r, BlkR lb ev ps (.slice none 0 0) [] r → ¬ S r) : Carry S0 w' lb ev ps l m :=
  ⟨(h.str.only g hs).la, h.es, h.ok, h.sz, h.lb0, h.ev0, h.len, h.nx⟩
end Go.Proofs.YtgaooalckjjplaaGreatDoor

namespace Go.Proofs.YtgaooalckjjplaaGreatDoor
open Go.RowKit Go.Shelf
attribute [local go_sem] Oper.semAt_some

end Go.Proofs.YtgaooalckjjplaaGreatDoor

namespace Go.Proofs.YtgaooalckjjplaaGreatDoor
open Go.RowKit Go.Shelf
attribute [local go_sem] Oper.semAt_some

end Go.Proofs.YtgaooalckjjplaaGreatDoor

namespace Go.Proofs.YtgaooalckjjplaaGreatDoor
open Go.RowKit Go.Shelf
attribute [local go_sem] Oper.semAt_some

end Go.Proofs.YtgaooalckjjplaaGreatDoor

namespace Go.Proofs.YtgaooalckjjplaaGreatDoor
open Go.RowKit Go.Shelf
attribute [local go_sem] Oper.semAt_some

def edRow : List Ed → List Value → List Value
  | ed :: r, fv :: q => .int .i64 ed.kind :: .int .i64 ed.id :: fv :: edRow r q
  | _, _ => []
theorem edRow_at : ∀ (l : List Ed) (vs : List Value) (i : Nat) (ed : Ed) (v : Value), l[i]? = some ed → vs[i]? = some v → (edRow l vs)[i * 3]? = some (.int .i64 ed.kind) ∧ (edRow l vs)[i * 3 + 1]? = some (.int .i64 ed.id) ∧ (edRow l vs)[i * 3 + 1 + 1]? = some v
  | [], _, i, _, _, h, _ => by simp at h
  | _ :: _, [], i, _, _, _, h => by simp at h
  | a :: l, b :: vs, 0, ed, v, h1, h2 => by simp at h1 h2; subst h1 h2; exact ⟨rfl, rfl, rfl⟩
  | a :: l, b :: vs, i + 1, ed, v, h1, h2 => by
    obtain ⟨x, y, z⟩ := edRow_at l vs i ed v (by simpa using h1) (by simpa using h2)
    rw [show (i + 1) * 3 = i * 3 + 3 by omega]
    exact ⟨x, y, z⟩
/-- Edits in a row that is owned, each one's fields in a row that is owned. -/
structure OwnE (lo : Nat) (w : World) (v : Value) (eds : List Ed) (fvs : List Value) : Prop where
  row : w.ownsRow lo 64 3 v eds.length (edRow eds fvs)
  len : fvs.length = eds.length
  each : ∀ (i : Nat) ed fv, eds[i]? = some ed → fvs[i]? = some fv → w.ownsRow lo 66 2 fv ed.fields.length (cellsF ed.fields)
theorem OwnE.below {lo : Nat} {w w' : World} {v : Value} {eds : List Ed} {fvs : List Value} {N : Nat} (h : OwnE lo w v eds fvs) (hb : Below N w w') (hN : w.heap.size ≤ N) : OwnE lo w' v eds fvs :=
  ⟨row_below h.row hb hN, h.len, fun i ed fv h1 h2 => row_below (h.each i ed fv h1 h2) hb hN⟩
theorem OwnE.edv {lo : Nat} {w : World} {v : Value} {eds : List Ed} {fvs : List Value} (h : OwnE lo w v eds fvs) : EdV w v eds := by
  by_cases h0 : eds = []
  · subst h0
    obtain ⟨A, c, rfl, hle⟩ := own_slice h.row
    exact ⟨A, c, rfl, hle, fun i ed hi => by simp at hi⟩
  · have hn : eds.length ≠ 0 := fun e => h0 (List.length_eq_zero_iff.1 e)
    have hrow := h.row
    obtain ⟨g, cap, hug⟩ := Joins.ownsRow_form hrow (by omega)
    have hle : eds.length ≤ cap := by
      obtain ⟨A, c, e, hle⟩ := own_slice h.row
      rw [hug] at e; cases e; exact hle
    rw [hug] at hrow
    refine ⟨_, cap, hug, hle, fun i ed hi => ?_⟩
    have hil := (List.getElem?_eq_some_iff.1 hi).1
    obtain ⟨fv, hfv⟩ : ∃ fv, fvs[i]? = some fv := ⟨_, List.getElem?_eq_getElem (by rw [h.len]; exact hil)⟩
    obtain ⟨a0, a1, a2⟩ := edRow_at eds fvs i ed fv hi hfv
    refine ⟨g, 0, fv, rfl, (hrow.lt g rfl).2, ?_, ?_, ?_, FldR.own (h.each i ed fv hi hfv)⟩
    · rw [Nat.zero_add, World.ownsRow.cellAt hrow (i * 3) (by omega), a0]
    · rw [Nat.zero_add, World.ownsRow.cellAt hrow (i * 3 + 1) (by omega), a1]
    · rw [Nat.zero_add, World.ownsRow.cellAt hrow (i * 3 + 1 + 1) (by omega), a2]
end Go.Proofs.YtgaooalckjjplaaGreatDoor

namespace Go.Proofs.YtgaooalckjjplaaGreatDoor
open Go.RowKit Go.Shelf
attribute [local go_sem] Oper.semAt_some

/-- A slice of stanzas, readable. -/
def Szs (w : World) (v : Value) (rs : List Stz) : Prop :=
  ∃ A cap, v = .slice A rs.length cap ∧ rs.length ≤ cap ∧ ∀ (i : Nat) (s : Stz), rs[i]? = some s → ∃ b off fv, A = some ⟨b, off, none⟩ ∧ b < w.heap.size ∧ w.cell? ⟨b, off + i * 2, none⟩ = some (.int .i64 s.1) ∧ w.cell? ⟨b, off + i * 2 + 1, none⟩ = some fv ∧ Flds w fv s.2
theorem Szs.below {w w' : World} {v : Value} {rs : List Stz} {n : Nat} (h : Szs w v rs) (hb : Below n w w') (hn : w.heap.size ≤ n) : Szs w' v rs := by
  obtain ⟨A, cap, hv, hle, hc⟩ := h
  refine ⟨A, cap, hv, hle, fun i s hi => ?_⟩
  obtain ⟨b, off, fv, hA, hlt, c0, c1, hf⟩ := hc i s hi
  have hlt' := Nat.lt_of_lt_of_le hlt hn
  exact ⟨b, off, fv, hA, Nat.lt_of_lt_of_le hlt hb.size, (hb.cell (p := ⟨b, off + i * 2, none⟩) hlt').trans c0, (hb.cell (p := ⟨b, off + i * 2 + 1, none⟩) hlt').trans c1, hf.below hb hn⟩
end Go.Proofs.YtgaooalckjjplaaGreatDoor

namespace Go.Proofs.YtgaooalckjjplaaGreatDoor
open Go.RowKit Go.Shelf
attribute [local go_sem] Oper.semAt_some

/-- The stanzas so far, of which each one's fields lie where they lay. -/
structure AccY (w wr : World) (v : Value) (fvs : List Value) (rs : List Stz) : Prop where
  row : wr.ownsRow w.heap.size 48 2 v rs.length (stzCells rs fvs)
  len : fvs.length = rs.length
  each : ∀ (j : Nat) s x, rs[j]? = some s → fvs[j]? = some x → Flds w x s.2
  below : Below w.heap.size w wr
theorem AccY.kept {w wr w2 : World} {v : Value} {fvs : List Value} {rs : List Stz} (h : AccY w wr v fvs rs) (hb : Below wr.heap.size wr w2) : AccY w w2 v fvs rs :=
  ⟨own_kept h.row hb (Nat.le_refl _), h.len, h.each, h.below.trans (hb.mono h.below.size)⟩
theorem AccY.snoc {w W W1 w3 : World} {v v' x : Value} {fvs : List Value} {rs : List Stz} {s : Stz} (h : AccY w W v fvs rs) (hx : Flds w x s.2) (ho : w3.ownsRow w.heap.size 48 2 v' (rs.length + 1) (stzCells rs fvs ++ [.int .i64 s.1, x])) (h1 : Below W.heap.size W W1) (hg : W1.grownBy w3 v.ownBlock) : AccY w w3 v' (fvs ++ [x]) (rs ++ [s]) := by
  have h' := h.kept h1
  refine ⟨by rw [List.length_append, stzCells_snoc _ _ _ _ h.len]; exact ho, by simp [h.len], fun j y z hy hz => ?_, h'.below.grown hg h'.below.size (fun k e => (h.row.lt k e).1)⟩
  rcases snoc_at hy with ⟨q, hy⟩ | ⟨q, rfl⟩
  · rw [List.getElem?_append_left (by rw [h.len]; exact q)] at hz
    exact h.each j y z hy hz
  · rw [q, ← h.len, List.getElem?_append_right (Nat.le_refl _)] at hz
    simp at hz
    subst hz; exact hx
end Go.Proofs.YtgaooalckjjplaaGreatDoor

namespace Go.Proofs.YtgaooalckjjplaaGreatDoor
open Go.RowKit Go.Shelf

end Go.Proofs.YtgaooalckjjplaaGreatDoor

namespace Go.Proofs.YtgaooalckjjplaaGreatDoor
open Go.RowKit Go.Shelf
attribute [local go_sem] Oper.semAt_some

end Go.Proofs.YtgaooalckjjplaaGreatDoor

namespace Go.Proofs.YtgaooalckjjplaaGreatDoor

/-- A blank line's item. -/
structure BlankI (it : It) : Prop where
  kind : it.kind = 1
  fields : it.fields = []
  raw : ∃ l, it.raw = l ++ [10] ∧ (10 : UInt8) ∉ l ∧ kindL l = 1
/-- An item that stands alone. -/
def Itm (it : It) : Prop := Blk it ∨ BlankI it

/-- What a run has made since its beginning isn't taken back. -/
def Made (n : Nat) (p : PS) : Prop := n ≤ p.items.length ∧ (n < p.items.length ∨ p.said ≠ [] ∨ p.fields ≠ [])
theorem Made.endField {n : Nat} {p : PS} (h : Made n p) : Made n (endFieldP p) := by
  unfold endFieldP
  split
  · exact h
  · exact ⟨h.1, .inr (.inr (by simp))⟩
theorem Made.went {n : Nat} {p : PS} (h : Made n p) (x : Ln) : Made n (wentP p x) := by
  unfold wentP
  split
  · exact ⟨h.1, .inr (.inl (by simp))⟩
  · exact h
theorem Made.then_ {n : Nat} {p : PS} (h : Made n p) (x : Ln) : Made n (thenP p x) := by
  unfold thenP
  split
  · exact (h.went x).endField
  · exact h.went x
theorem endBlock_more (t : List UInt8) (p : PS) (e : Nat) : p.items.length ≤ (endBlockP t p e).items.length := by
  unfold endBlockP
  split
  · exact Nat.le_refl _
  · split
    · simp [endItemP]
    · simp [endItemP]
theorem Made.put {n : Nat} {t : List UInt8} {p : PS} (h : Made n p) (x : Ln) : Made n (putP t p x) := by
  unfold putP
  split
  · exact ⟨h.1, .inr (.inl (by simp))⟩
  · split
    · have h1 := endBlock_more t p x.at_
      have h2 : (endItemP t (endBlockP t p x.at_) 1 (x.at_ + x.text.length + 1)).items.length = (endBlockP t p x.at_).items.length + 1 := by simp [endItemP]
      have h3 := h.1
      exact ⟨by omega, .inl (by omega)⟩
    · exact h
theorem Made.take {n : Nat} {t : List UInt8} {p q : PS} {x : Ln} (h : Made n p) (he : takeP t p x = .ok q) : Made n q := by
  obtain ⟨_, _, rfl⟩ := take_parts he
  exact (h.then_ x).put x
theorem Made.run {n : Nat} (t : List UInt8) : ∀ (xs : List Ln) (p q : PS), Made n p → runP t p xs = .ok q → Made n q
  | [], p, q, h, he => by cases he; exact h
  | x :: xs, p, q, h, he => by
    unfold runP at he
    cases ht : takeP t p x with
    | error e => rw [ht] at he; cases he
    | ok p1 =>
      rw [ht] at he
      exact Made.run t xs p1 q (h.take ht) he
theorem made_not {b st a n : Nat} {its : List It} (hn : its.length = n) : ¬ Made n ⟨b, [], its, st, a, []⟩ := by
  rintro ⟨_, h | h | h⟩
  · simp only at h; omega
  · exact h rfl
  · exact h rfl
theorem then_clean {b st a no c : Nat} {its : List It} {l : List UInt8} {e : Bool} (hk : kindL l ≠ 3) : thenP ⟨b, [], its, st, a, []⟩ ⟨no, c, l, e⟩ = ⟨b, [], its, st, a, []⟩ := by
  have hg : goesP ⟨b, [], its, st, a, []⟩ ⟨no, c, l, e⟩ = false := goes_kind hk
  unfold thenP wentP
  rw [hg]
  simp [endFieldP]
/-- Lines that make nothing do nothing, with however many stanzas behind them. -/
theorem run_notes {t : List UInt8} : ∀ (ts : List (List UInt8)) (b st a no c : Nat) (its : List It) (b' : Nat), runP t ⟨b, [], its, st, a, []⟩ (num no c ts) = .ok ⟨b', [], its, st, a, []⟩ →
    ∀ (t' : List UInt8) (b2 st2 a2 no2 c2 : Nat) (its2 : List It), runP t' ⟨b2, [], its2, st2, a2, []⟩ (num no2 c2 ts) = .ok ⟨b2, [], its2, st2, a2, []⟩
  | [], b, st, a, no, c, its, b', h, t', b2, st2, a2, no2, c2, its2 => rfl
  | l :: r, b, st, a, no, c, its, b', h, t', b2, st2, a2, no2, c2, its2 => by
    have h' : (match takeP t ⟨b, [], its, st, a, []⟩ ⟨no, c, l, true⟩ with | .error e => Except.error e | .ok q' => runP t q' (num (no + 1) (c + l.length + 1) r)) = .ok ⟨b', [], its, st, a, []⟩ := h
    cases ht : takeP t ⟨b, [], its, st, a, []⟩ ⟨no, c, l, true⟩ with
    | error e => rw [ht] at h'; cases h'
    | ok q =>
      rw [ht] at h'
      dsimp only at h'
      obtain ⟨g1, g2, hq⟩ := take_parts ht
      have hk3 : kindL l ≠ 3 := by
        intro e
        unfold wrongP goesP at g2
        simp [e] at g2
      have hk5 : kindL l ≠ 5 := by
        intro e
        unfold wrongP at g2
        simp [e] at g2
      rw [then_clean hk3] at hq
      have hk4 : kindL l ≠ 4 := by
        intro e
        have hm : Made its.length q := by
          rw [hq]; unfold putP
          rw [if_pos (by exact e)]
          exact ⟨Nat.le_refl _, .inr (.inl (by simp))⟩
        exact made_not rfl (Made.run t _ _ _ hm h')
      have hk1 : kindL l ≠ 1 := by
        intro e
        have hm : Made its.length q := by
          rw [hq]; unfold putP
          rw [if_neg (by exact hk4), if_pos (by exact e)]
          have h1 := endBlock_more t ⟨b, [], its, st, a, []⟩ c
          have h2 : (endItemP t (endBlockP t ⟨b, [], its, st, a, []⟩ c) 1 (c + l.length + 1)).items.length = (endBlockP t ⟨b, [], its, st, a, []⟩ c).items.length + 1 := by simp [endItemP]
          simp only at h1
          exact ⟨by show its.length ≤ (endItemP t (endBlockP t ⟨b, [], its, st, a, []⟩ c) 1 (c + l.length + 1)).items.length; omega, .inl (by show its.length < (endItemP t (endBlockP t ⟨b, [], its, st, a, []⟩ c) 1 (c + l.length + 1)).items.length; omega)⟩
        exact made_not rfl (Made.run t _ _ _ hm h')
      have hput : ∀ (t : List UInt8) (p : PS) (no c : Nat), putP t p ⟨no, c, l, true⟩ = p := fun t p no c => by
        unfold putP
        rw [if_neg (by exact hk4), if_neg (by exact hk1)]
      rw [hput] at hq
      subst hq
      have ih := run_notes r b st a (no + 1) (c + l.length + 1) its b' h' t' b2 st2 a2 (no2 + 1) (c2 + l.length + 1) its2
      have tk := take_else (t := t') (p := ⟨b2, [], its2, st2, a2, []⟩) (no := no2) (c := c2) hk3 hk5 rfl
      rw [show endFieldP ⟨b2, [], its2, st2, a2, []⟩ = ⟨b2, [], its2, st2, a2, []⟩ from rfl, hput] at tk
      show runP t' _ (⟨no2, c2, l, true⟩ :: num (no2 + 1) (c2 + l.length + 1) r) = _
      rw [run_cons tk]
      exact ih
/-- A block that stands alone, wherever it stands. -/
theorem Blk.here {it : It} (h : Blk it) : ∃ ts said fields, it.raw = textL ts ∧ (∀ l ∈ ts, (10 : UInt8) ∉ l) ∧ ∀ (t : List UInt8) (b st a no c e : Nat) (its : List It), (it.kind = 3 → st ≤ 399) → (t.take e).drop a = it.raw → a < e →
    ∃ b', runP t ⟨b, [], its, st, a, []⟩ (num no c ts) = .ok ⟨b', said, its, st, a, fields⟩ ∧ endFieldN ⟨b', said, its, st, a, fields⟩ = 0 ∧ endBlockP t (endFieldP ⟨b', said, its, st, a, fields⟩) e = ⟨b', [], its ++ [it], st + (if it.kind = 3 then 1 else 0), e, []⟩ := by
  obtain ⟨kind, raw, fs⟩ := it
  have hk := h.kind
  obtain ⟨ts, said, fields, d1, d2, d3, d4, d5⟩ := h.does
  dsimp only at hk d1 d5 ⊢
  by_cases hf : fs = []
  · rw [if_pos hf] at hk
    subst hf hk
    have hs : said = [] ∧ fields = [] := by
      unfold endFieldP at d5
      split at d5
      · rename_i hs; exact ⟨hs, d5⟩
      · simp at d5
    obtain ⟨rfl, rfl⟩ := hs
    obtain ⟨b0, h0⟩ := d3 [] 0 0 0 0 0 [] (by decide)
    refine ⟨ts, [], [], d1, d2, fun t b st a no c e its _ hr hae => ⟨b, run_notes ts 0 0 0 0 0 [] b0 h0 t b st a no c its, rfl, ?_⟩⟩
    rw [show endFieldP ⟨b, [], its, st, a, []⟩ = ⟨b, [], its, st, a, []⟩ from rfl]
    unfold endBlockP
    rw [if_neg (by show ¬ a = e; omega), if_pos (show (⟨b, [], its, st, a, []⟩ : PS).fields.length = 0 from rfl)]
    unfold endItemP
    dsimp only
    rw [hr]; rfl
  · rw [if_neg hf] at hk
    subst hk
    refine ⟨ts, said, fields, d1, d2, fun t b st a no c e its hst hr hae => ?_⟩
    obtain ⟨b', hrun⟩ := d3 t b st a no c its (hst rfl)
    have e0 := mv_endFieldN b' st a its ⟨0, said, [], 0, 0, fields⟩ (hst rfl) d4
    have e1 := mv_endField b' st a its ⟨0, said, [], 0, 0, fields⟩
    refine ⟨b', hrun, e0, ?_⟩
    rw [show (⟨b', said, its, st, a, fields⟩ : PS) = mv b' st a its ⟨0, said, [], 0, 0, fields⟩ from rfl, e1]
    have es := endField_said ⟨0, said, [], 0, 0, fields⟩
    generalize endFieldP ⟨0, said, [], 0, 0, fields⟩ = p at *
    unfold endBlockP
    rw [show (mv b' st a its p).at_ = a from rfl, show (mv b' st a its p).fields = p.fields from rfl, d5, if_neg (by omega), if_neg (fun q => hf (List.length_eq_zero_iff.1 q))]
    show (⟨b', p.said, its ++ [⟨3, (t.take e).drop a, p.fields⟩], st + 1, e, []⟩ : PS) = _
    rw [es, hr, d5]; rfl
/-- Of what is parsed: its blank lines. -/
structure MidB (t : List UInt8) (p : PS) (c : Nat) : Prop where
  at_ : p.at_ ≤ c
  bl : ∀ it ∈ p.items, it.kind = 1 → BlankI it
  cur : p.at_ = c → p.fields = [] ∧ p.said = []
theorem MidB.endBlock {t : List UInt8} {p : PS} {c : Nat} (h : MidB t p c) : (∀ it ∈ (endBlockP t (endFieldP p) c).items, it.kind = 1 → BlankI it) ∧ (endBlockP t (endFieldP p) c).fields = [] := by
  unfold endBlockP
  rw [endField_at]
  split
  · rename_i hac
    obtain ⟨h1, h2⟩ := h.cur hac
    refine ⟨by rw [endField_items]; exact h.bl, ?_⟩
    unfold endFieldP
    rw [if_pos h2]; exact h1
  · have key : ∀ (k : Nat), k ≠ 1 → ∀ it ∈ (endItemP t (endFieldP p) k c).items, it.kind = 1 → BlankI it := by
      intro k hk it hi h1
      rcases List.mem_append.1 (show it ∈ (endFieldP p).items ++ [_] from hi) with q | q
      · rw [endField_items] at q; exact h.bl it q h1
      · rw [List.mem_singleton.1 q] at h1
        exact absurd (show ((k : Nat) : Int) = 1 from h1) (by omega)
    split
    · exact ⟨key 2 (by decide), rfl⟩
    · exact ⟨key 3 (by decide), rfl⟩
theorem MidB.take {t : List UInt8} {p q : PS} {x : Ln} (h : MidB t p x.at_) (hen : x.ended = true) (hcl : (10 : UInt8) ∉ x.text) (hrest : ∃ r, t.drop x.at_ = x.bytes ++ r) (hct : x.at_ ≤ t.length) (he : takeP t p x = .ok q) : MidB t q (x.at_ + x.bytes.length) := by
  have hat := h.at_
  obtain ⟨r, hr⟩ := hrest
  have hb : x.bytes = x.text ++ [10] := by unfold Ln.bytes; rw [hen]; simp
  have hbl : x.bytes.length = x.text.length + 1 := by rw [hb]; simp
  by_cases hk : kindL x.text = 1
  · obtain ⟨g1, _, rfl⟩ := take_parts he
    have hg : goesP p x = false := goes_kind (by omega)
    have hw : wentP p x = p := by unfold wentP; rw [hg]; rfl
    have hE : endsP p x = true := by unfold endsP; rw [hg]; simp
    have hth : thenP p x = endFieldP p := by unfold thenP; rw [hE, hw]; rfl
    obtain ⟨l1, l2⟩ := h.endBlock
    have ha : (endBlockP t (endFieldP p) x.at_).at_ = x.at_ := endBlock_at t _ _ (by rw [endField_at]; exact hat)
    unfold putP
    rw [if_neg (by omega), if_pos hk, hth]
    refine ⟨by show x.at_ + x.text.length + 1 ≤ _; omega, fun it hi h1 => ?_, fun _ => ⟨rfl, ?_⟩⟩
    · rcases List.mem_append.1 (show it ∈ (endBlockP t (endFieldP p) x.at_).items ++ [_] from hi) with hi | hi
      · exact l1 it hi h1
      · rw [List.mem_singleton.1 hi]
        refine ⟨rfl, l2, x.text, ?_, hcl, hk⟩
        show (t.take (x.at_ + x.text.length + 1)).drop (endBlockP t (endFieldP p) x.at_).at_ = _
        rw [ha, Nat.add_assoc, List.take_add, hr, ← hbl, List.drop_append_of_le_length (by rw [List.length_take]; omega), List.drop_of_length_le (by rw [List.length_take]; omega), List.take_left' rfl, hb]; rfl
    · show (endBlockP t (endFieldP p) x.at_).said = []
      rw [endBlock_said, endField_said]
  · obtain ⟨k1, k2, k3⟩ := take_keeps hk he
    exact ⟨by rw [k3]; omega, by rw [k1]; exact h.bl, fun q => by rw [k3] at q; omega⟩
theorem MidB.run (t : List UInt8) : ∀ (xs : List Ln) (no c : Nat) (p q : PS), Runs no c xs → no ≤ c → Inv p c → MidB t p c → t.drop c = xs.flatMap Ln.bytes → c ≤ t.length → (∀ x ∈ xs, (10 : UInt8) ∉ x.text) → runP t p xs = .ok q → MidB t q t.length
  | [], no, c, p, q, _, _, _, hm, hr, hct, _, he => by
    cases he
    have : c = t.length := by
      have := congrArg List.length hr
      simp at this; omega
    rw [← this]; exact hm
  | x :: xs, no, c, p, q, hrun, hn, hi, hm, hr, hct, hcl, he => by
    obtain ⟨r1, r2, r3, r4⟩ := hrun
    unfold runP at he
    cases ht : takeP t p x with
    | error e => rw [ht] at he; cases he
    | ok p1 =>
      rw [ht] at he
      dsimp only at he
      rw [List.flatMap_cons] at hr
      rw [← r2] at hi hm hr hct
      obtain ⟨i1, e1⟩ := Inv.take hi (by omega) ht
      have m1 := hm.take e1 (hcl x List.mem_cons_self) ⟨_, hr⟩ hct ht
      have hr2 : t.drop (x.at_ + x.bytes.length) = xs.flatMap Ln.bytes := by
        rw [← List.drop_drop, hr]; simp
      have hct2 : x.at_ + x.bytes.length ≤ t.length := by
        have := congrArg List.length hr
        simp only [List.length_drop, List.length_append] at this
        omega
      rw [r2] at i1 m1 hr2 hct2
      exact MidB.run t xs (no + 1) (c + x.bytes.length) p1 q r4 (by omega) i1 m1 hr2 hct2 (fun y hy => hcl y (List.mem_cons_of_mem _ hy)) he
end Go.Proofs.YtgaooalckjjplaaGreatDoor

namespace Go.Proofs.YtgaooalckjjplaaGreatDoor
open Go.RowKit Go.Shelf

/-- Entries whose items stand alone. -/
def ItmL (es : List En) : Prop := ∀ e ∈ es, Itm e.1
theorem ItmL.edit {l : LS} (h : ItmL l.es) (kind id : Int) (fs : List Fld) : ItmL (editR l kind id fs).ls.es := fun e he => by
  rcases edit_mem l kind id fs e he with q | ⟨q, hc⟩
  · exact h e q
  · rw [q]; exact .inl (blk_item hc)
end Go.Proofs.YtgaooalckjjplaaGreatDoor

namespace Go.Proofs.YtgaooalckjjplaaGreatDoor
open Go.RowKit Go.Shelf

end Go.Proofs.YtgaooalckjjplaaGreatDoor

namespace Go.Proofs.YtgaooalckjjplaaGreatDoor
open Go.RowKit Go.Shelf
attribute [local go_sem] Oper.semAt_some

theorem Mine.below {lo n : Nat} {w w' : World} {v : Value} (h : Mine w lo v n) (hb : Below w.heap.size w w') : Mine w' lo v n := by
  rcases h with h | ⟨g, cap, cur, e, h0, h1, h2, h3⟩
  · exact .inl h
  · have hg : g < w.heap.size := (Array.getElem?_eq_some_iff.1 h2).1
    exact .inr ⟨g, cap, cur, e, h0, h1, (hb.block g hg).trans h2, h3⟩
theorem itsP_E (ps : List Pr) : itsP ps = (ps.map Prod.fst).map Prod.fst := by unfold itsP; rw [List.map_map]; rfl
structure StandIn (w : World) (lb : Nat) (ev v : Value) (ps qs : List Pr) (nx : Int) : Prop where
  st : StR w lb ev ps nx v qs
  es : qs.map Prod.fst = ps.map Prod.fst
  wf : WF (ps.map Prod.fst)
  nd : (nums (ps.map Prod.fst)).Nodup
  ok : EntsOk ps
  nx : -1000000 ≤ nx ∧ nx ≤ 1000000
theorem StandIn.below {w w' : World} {lb : Nat} {ev v : Value} {ps qs : List Pr} {nx : Int} {N : Nat} (h : StandIn w lb ev v ps qs nx) (hb : Below N w w') (hN : w.heap.size ≤ N) : StandIn w' lb ev v ps qs nx :=
  ⟨h.st.below hb hN, h.es, h.wf, h.nd, h.ok, h.nx⟩
theorem StandIn.its {w : World} {lb : Nat} {ev v : Value} {ps qs : List Pr} {nx : Int} (h : StandIn w lb ev v ps qs nx) : itsP qs = itsP ps := by
  rw [itsP_E, itsP_E, h.es]
-- the calls, in whatever world behind
section
variable {w : World} {lb : Nat} {ev v : Value} {ps qs : List Pr} {nx : Int}
end
end Go.Proofs.YtgaooalckjjplaaGreatDoor

namespace Go.Proofs.YtgaooalckjjplaaGreatDoor

end Go.Proofs.YtgaooalckjjplaaGreatDoor

namespace Go.Proofs.YtgaooalckjjplaaGreatDoor
open Go.RowKit Go.Shelf
attribute [local go_sem] Oper.semAt_some

end Go.Proofs.YtgaooalckjjplaaGreatDoor

namespace Go.Proofs.YtgaooalckjjplaaGreatDoor
open Go.RowKit Go.Shelf
attribute [local go_sem] Oper.semAt_some

/-- Numbers that can be read. -/
def NumsV (w : World) (v : Value) (zs : List Int) : Prop :=
  ∃ A cap, v = .slice A zs.length cap ∧ zs.length ≤ cap ∧ ∀ (i : Nat) (z : Int), zs[i]? = some z → ∃ b off, A = some ⟨b, off, none⟩ ∧ b < w.heap.size ∧ w.cell? ⟨b, off + i, none⟩ = some (.int .i64 z)
theorem NumsV.below {w w' : World} {v : Value} {zs : List Int} {n : Nat} (h : NumsV w v zs) (hb : Below n w w') (hn : w.heap.size ≤ n) : NumsV w' v zs := by
  obtain ⟨A, cap, e, hle, hc⟩ := h
  refine ⟨A, cap, e, hle, fun i z hi => ?_⟩
  obtain ⟨b, off, e1, hbb, c0⟩ := hc i z hi
  exact ⟨b, off, e1, Nat.lt_of_lt_of_le hbb hb.size, (hb.cell (p := ⟨b, off + i, none⟩) (by show b < n; omega)).trans c0⟩
end Go.Proofs.YtgaooalckjjplaaGreatDoor

namespace Go.Proofs.YtgaooalckjjplaaGreatDoor
open Go.RowKit Go.Shelf Go.Maps Go.ChangeShapes Go.Joins Go.WideShapes

theorem wf_I64 {n : Int} (h : (Lit.int IntKind.i64 n).wf = true) : I64 n := by
  unfold Lit.wf at h
  rw [Bool.and_eq_true] at h
  exact ⟨by have := of_decide_eq_true h.1; exact this, by have := of_decide_eq_true h.2; exact this⟩
set_option maxRecDepth 100000 in
theorem edit_inB {H : Type} {enc : TypeId × Value → H} {W : World} {base : Nat} {sp : Nat → Bool} {held : Bool} {fuel : Nat} {cs : List Value} {x : DataW H × List MemPlace} (h : DataW.trod enc Tryz.prog W base sp held fuel 64 cs = some x) :
    ∃ k i fv, cs = [.int .i64 k, .int .i64 i, fv] ∧ I64 i := by
  obtain ⟨xs, m, _, _, hl, hxl, hf⟩ := DataW.trod_struct Tryz.underlying64 h
  have hl2 : cs.length = 3 := hl.trans (by kernel_rfl)
  obtain ⟨c0, c1, c2, rfl⟩ := cells3 hl2
  have k3 : Tryz.prog.cellsOf 3 = 1 := by kernel_rfl
  have hx : ∀ i, i < 3 → ∃ y, xs[i]? = some y := fun i hi => ⟨_, List.getElem?_eq_getElem (by rw [hxl]; exact hi)⟩
  obtain ⟨y0, e0⟩ := hx 0 (by decide)
  obtain ⟨y1, e1⟩ := hx 1 (by decide)
  have q0 : DataW.trod enc Tryz.prog W base sp held m 3 (List.take (Tryz.prog.cellsOf 3) [c0, c1, c2]) = _ := hf 0 _ rfl
  have q1 : DataW.trod enc Tryz.prog W base sp held m 3 (List.take (Tryz.prog.cellsOf 3) [c1, c2]) = _ := hf 1 _ rfl
  rw [k3, e0] at q0
  rw [k3, e1] at q1
  obtain ⟨kind, f0, _, _⟩ := DataW.trod_int Tryz.underlying3 q0
  obtain ⟨id, f1, _, hw⟩ := DataW.trod_int Tryz.underlying3 q1
  simp at f0 f1
  subst f0 f1
  exact ⟨kind, id, c2, rfl, wf_I64 hw⟩
set_option maxRecDepth 100000 in
theorem edits_inB {H : Type} {enc : TypeId × Value → H} {W : World} {base : Nat} {sp : Nat → Bool} {held : Bool} {fuel : Nat} {v : Value} {x : DataW H × List MemPlace} (h : DataW.trod enc Tryz.prog W base sp held fuel 22 [v] = some x) :
    ∃ eds, EdsIn W v eds ∧ ∀ ed ∈ eds, I64 ed.id := by
  obtain ⟨eds, hE⟩ := edits_in h
  refine ⟨eds, hE, fun ed hm => ?_⟩
  obtain ⟨i, hi, e⟩ := List.mem_iff_getElem.1 hm
  have he : eds[i]? = some ed := by rw [List.getElem?_eq_getElem hi, e]
  obtain ⟨_, A, cap, rfl, hle, hc⟩ := hE
  obtain ⟨b, off, fv, rfl, hb, c0, c1, c2, _⟩ := hc i ed he
  rcases DataW.trod_slice Tryz.underlying22 h with ⟨q, _⟩ | ⟨a, len, cap', elems, rest, n, _, q, _, _, hl, hm', hlen, hel, _, _⟩
  · simp at q
  · obtain ⟨rfl, rfl, rfl⟩ : a = ⟨b, off, none⟩ ∧ len = eds.length ∧ cap' = cap := by
      simp at q
      obtain ⟨q1, q2, q3⟩ := q
      exact ⟨q1.symm, q2.symm, q3.symm⟩
    have k3 : Tryz.prog.cellsOf 64 = 3 := by kernel_rfl
    have h1 := hel i hi
    rw [k3, List.getElem?_eq_getElem (by omega)] at h1
    obtain ⟨cs, hcs, ht⟩ := Option.bind_eq_some_iff.1 h1
    obtain ⟨k, z, fv', rfl, hz⟩ := edit_inB ht
    obtain ⟨_, _, hat⟩ := World.cells?_some hcs
    have d1 := hat 1 (by decide)
    rw [WideShapes.add_plain] at d1
    have e2 : some (Value.int .i64 ed.id) = some (.int .i64 z) := by rw [← c1]; simpa [WideShapes.add_plain] using d1
    have : ed.id = z := by injection e2 with e2; injection e2
    rw [this]; exact hz
end Go.Proofs.YtgaooalckjjplaaGreatDoor

namespace Go.Proofs.YtgaooalckjjplaaGreatDoor

theorem batchLs_sp {eds : List Ed} (h : ∀ ed ∈ eds, goodE ed = 0) : ∀ l ∈ batchLs eds, ∃ r, l = 32 :: r := by
  intro l hl
  obtain ⟨ed, h1, h2⟩ := List.mem_flatMap.1 hl
  rcases List.mem_cons.1 h2 with rfl | h2
  · unfold lineA
    rw [if_pos (goodE_kind (h ed h1))]; exact ⟨_, rfl⟩
  · obtain ⟨x, _, rfl⟩ := List.mem_map.1 h2
    exact ⟨_, rfl⟩
theorem textL_cons (l : List UInt8) (r : List (List UInt8)) : textL (l :: r) = l ++ 10 :: textL r := by unfold textL; simp
theorem text_last (ls : List (List UInt8)) (h0 : ls ≠ []) : (textL ls)[(textL ls).length - 1]? = some 10 := by
  rw [← List.getLast?_eq_getElem?]
  rw [← List.dropLast_concat_getLast h0]
  unfold textL; simp
/-- Fewer fields, of which the last one may be cut. -/
def Cut : List Fld → List Fld → Prop
  | [], _ => True
  | _ :: _, [] => False
  | f :: fs, g :: gs => f.1 = g.1 ∧ (∃ z, g.2 = f.2 ++ z) ∧ Cut fs gs
end Go.Proofs.YtgaooalckjjplaaGreatDoor

