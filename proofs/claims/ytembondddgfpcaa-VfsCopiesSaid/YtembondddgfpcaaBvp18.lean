/- Texts put together: YS, XV. -/
import Derived.Deep.DeepCutAuto
import Derived.Test.YtembondddgfpcaaBvp16
import Derived.Test.YtembondddgfpcaaBvp17
set_option linter.unusedVariables false
namespace Go.Proofs.Ytembondddgfpcaa
open Go.RowKit Go.Maps
attribute [local go_sem] World.cell?_alloc_some

theorem before_irr : ∀ a : List UInt8, bytesBefore a a = false
  | [] => rfl
  | x :: a => by
    show (decide (x < x) || (x == x && bytesBefore a a)) = false
    rw [before_irr a]; simp
theorem dget_rising : ∀ {l : Dir}, (l.Pairwise fun x y => bytesBefore x.1 y.1 = true) → ∀ x ∈ l, dget l x.1 = some x.2
  | [], _, x, h => by cases h
  | y :: r, hp, x, h => by
    obtain ⟨h1, h2⟩ := List.pairwise_cons.1 hp
    unfold dget
    rcases List.mem_cons.1 h with rfl | h
    · simp
    · have hne : y.1 ≠ x.1 := fun e => by
        have := h1 x h
        rw [e, before_irr] at this; cases this
      rw [List.find?_cons_of_neg (by simpa using hne)]
      exact dget_rising h2 x h
def actW (x : ActA) : Value := .agg #[.int .i64 x.kind, .string x.name, .string x.other, .string x.bytes, .int .i64 x.at_]
theorem actSame (x : ActA) (w : World) : (binOp .neq 90 (actW x) (actW x)).run Try.prog w = .ok (.bool false) w := by
  unfold actW
  simp [go_sem, Try.underlying90]
theorem infoStrS : (Try.prog.info? 9).map (fun i => (i.zero, i.size, i.bytes)) = some (some (.string ⟨#[]⟩), 1, 16) := by kernel_rfl
theorem drewN_belowS {B : Nat} {a w : World} (h : Below B a w) (n : Nat) : Below B a (w.drewN n) := ⟨h.os, h.tape, h.output, h.size, h.block⟩
set_option maxRecDepth 100000 in
set_option maxHeartbeats 8000000 in
theorem stands_any {L n p : Nat} {w : World} {D : ADisk} {M : RefM} {f s m a : Tri} (hP : Pr L n p w D M f s m a) (hn : n ≤ 80000) :
    Calls Try.prog 10 #[.pointer (some ⟨p, 0, none⟩), slices f s m a M.room M.units M.left M.armed M.gone] w fun e w' => e = .returned (.bool true) ∧ Below w.heap.size w w' := by
  have FIT := hP.fit (by omega)
  obtain ⟨T, hA, _⟩ := hP.disk
  have DIR := Lib.hid (fun (W : World) (hb : Below w.heap.size w W) => show Calls Try.prog 38 #[.agg #[.int .i64 M.room, sliceV f, sliceV s, sliceV m, .int .i64 M.units, .int .i64 M.left, .bool M.armed, .bool M.gone, sliceV a]] W (fun e w' => ∃ v', e = .returned v' ∧ EntryRow w' v' M.dir ∧ Below W.heap.size W w') from refdir_any M.room M.units M.left M.armed M.gone (sliceV f) (sliceV s) (sliceV m) (sliceV a) M.sure M.waits W (row_below hP.ref.sure hb (Nat.le_refl _)) (row_below hP.ref.moves hb (Nat.le_refl _)) FIT.fit.rising FIT.fit.names FIT.fit.moves FIT.fit.dirs)
  have RD := Lib.hid (fun (W : World) (hb : Below w.heap.size w W) (z : ByteArray) (hz : z.size ≤ 1000000) => read_any (hA.below hb) hP.fine (by omega) z hz)
  have RR := Lib.hid (fun (W : World) (hb : Below w.heap.size w W) (z : ByteArray) (hz : z.size ≤ 1000000) => by have := refread_anyW M f s m a FIT.fit z hz W (hP.ref.below hb (Nat.le_refl _)); rw [hP.ties.read z] at this; exact this)
  have SU := Lib.hid (fun (W : World) (hb : Below w.heap.size w W) (z : ByteArray) (hz : z.size ≤ 1000000) => sure_any (hA.below hb) hP.fine (by omega) z hz)
  have RS := Lib.hid (fun (W : World) (hb : Below w.heap.size w W) (z : ByteArray) (hz : z.size ≤ 1000000) => by have := refsure_anyW M f s m a FIT.fit z hz W (hP.ref.below hb (Nat.le_refl _)); rw [hP.ties.sureOf z] at this; exact this)
  have HLE : Hid (∀ z, (readR D z).2 ≤ 12) := fun z => by
    unfold readR
    split
    · exact le12 (by decide)
    · split
      · exact asked_le hP.fine z []
      · exact le12 (by decide)
  obtain ⟨f1, f2, f3⟩ := f
  obtain ⟨s1, s2, s3⟩ := s
  obtain ⟨m1, m2, m3⟩ := m
  obtain ⟨a1, a2, a3⟩ := a
  have REF := Lib.hid hP.ref
  obtain ⟨so, sc, es, hso⟩ := row_shape hP.ref.sure
  obtain ⟨ao, ac, ea, hao⟩ := row_shape hP.ref.acts
  obtain ⟨l, hl, hfr⟩ := hP.ref.files
  obtain ⟨fo, fc, ef, hfo⟩ := row_shape hfr.1
  unfold sliceV at es ea ef
  cases es
  cases ea
  cases ef
  have HSO := Lib.hid hso
  have HAO := Lib.hid hao
  have HFO := Lib.hid hfo
  have HL := Lib.hid hl
  have HFR := Lib.hid hfr
  have TI := Lib.hid hP.ties
  have TD := Lib.hid hP.tidy
  have FN := Lib.hid hP.fine
  have HA := Lib.hid hA
  have FT := Lib.hid FIT
  have NM := Lib.hid (fun (W : World) (hb : Below w.heap.size w W) => Sd.names_any (hA.below hb) hP.fine (by omega) (by have h := (hP.tidy.play hP.fine (by omega) D.waits.length).1; rw [List.take_length] at h; exact h))
  obtain ⟨V, hV⟩ := id hA
  have FR1 := Lib.hid (fun (W : World) (hb : Below w.heap.size w W) => by
    have := free_any (hV.below hb) hP.fine (by omega)
    rw [← hP.ties.free] at this
    exact this)
  have FR2 := Lib.hid (fun (W : World) (hb : Below w.heap.size w W) => reffree_any M _ _ _ _ FIT.fit (by rw [hP.ties.room]; exact ⟨hP.fine.r0, hP.fine.r1⟩) W (hP.ref.below hb (Nat.le_refl _)))
  have UN := Lib.hid (fun (W : World) (hb : Below w.heap.size w W) => by
    have := units_any (hA.below hb)
    rw [← hP.ties.units] at this
    exact this)
  have DN := Lib.hid (fun (W : World) (hb : Below w.heap.size w W) => by
    have := down_any (hA.below hb)
    rw [← hP.ties.gone] at this
    exact this)
  have AC := Lib.hid (fun (W : World) (hb : Below w.heap.size w W) => by
    have := acts_any (hA.below hb) hP.fine (by omega)
    rw [← hP.ties.acts] at this
    exact this)
  have hdn : D.seen = M.dir := hP.ties.dir.symm
  have hal : M.acts.length ≤ 100000 := FIT.acts
  have hsl : M.sure.length ≤ 1000000 := by have := FIT.fit.dirs; omega
  clear hso hao hfo hl hfr hV
  unfold slices refA sliceV at *
  have c3 : Cells (w.alloc (.cells (curM M (f1, l.length, f3) (s1, M.sure.length, s3) (m1, m2, m3) (a1, M.acts.length, a3)) 37)) w.heap.size 37 (curM M (f1, l.length, f3) (s1, M.sure.length, s3) (m1, m2, m3) (a1, M.acts.length, a3)) := Cells.new _ _ _
  have b3 : Below w.heap.size w (w.alloc (.cells (curM M (f1, l.length, f3) (s1, M.sure.length, s3) (m1, m2, m3) (a1, M.acts.length, a3)) 37)) := (Below.refl _ _).alloc (Nat.le_refl _) _
  have hs1 : (w.alloc (.cells (curM M (f1, l.length, f3) (s1, M.sure.length, s3) (m1, m2, m3) (a1, M.acts.length, a3)) 37)).heap.size = w.heap.size + 1 := by simp
  obtain ⟨W1, hW1⟩ : ∃ W, w.alloc (.cells (curM M (f1, l.length, f3) (s1, M.sure.length, s3) (m1, m2, m3) (a1, M.acts.length, a3)) 37) = W := ⟨_, rfl⟩
  rw [hW1] at c3 b3 hs1
  have hoN : (W1.alloc (.cells #[] 9)).ownsRow W1.heap.size 9 1 (.slice (some ⟨W1.heap.size, 0, none⟩) 0 0) 0 [] := World.ownsRow_lit W1 #[] 0 (Nat.le_refl _) (by decide) rfl
  have b4 := b3.alloc b3.size (.cells #[] 9)
  have c4 := c3.alloc (.cells #[] 9)
  obtain ⟨W2, hW2⟩ : ∃ W, W1.alloc (.cells #[] 9) = W := ⟨_, rfl⟩
  rw [hW2] at hoN b4 c4
  unfold curM at hW1 c4
  dsimp only at hW1 c4 ⊢
  obtain ⟨t0, t1, t2, t3, t4, t5, t6, t7, t8⟩ := cells9 c4
  have tl := c4.lt
  have B4 := Lib.hid b4
  have C4 := Lib.hid c4
  have HO := Lib.hid hoN
  have HS := Lib.hid hs1
  clear c3 b3 hs1 hoN b4 c4
  go_enter Try.func10, Try.ntmps10
  go_wp2_with fail
  refine (DIR.out _ B4.out).mono ?_
  clear hW1 hW2 t0 t1 t2 t3 t4 t5 t6 t7 t8 tl
  rintro e w3 ⟨v3, rfl, hrow3, hb3⟩
  obtain ⟨g3, k3, rfl, hg3⟩ := row_shape hrow3
  obtain ⟨NS, hNS⟩ : ∃ NS : List Value, NS = M.dir.map (fun x => Value.string (bs x.1)) := ⟨_, rfl⟩
  have HNS := Lib.hid hNS
  clear hNS
  have hdl : M.dir.length ≤ 1000000 := Nat.le_trans (dplay_length _ _) FIT.fit.dirs
  have HSM := Lib.hid (dplay_small M.waits FIT.fit.moves FIT.fit.names)
  have HG3 := Lib.hid hg3
  have C5 := C4.out.below hb3 C4.out.lt
  have B5 := B4.out.trans (hb3.mono B4.out.size)
  have R5 := DidRows.rowBase (row_below HO.out hb3 (Nat.le_refl _)) (show w.heap.size ≤ W1.heap.size by rw [HS.out]; omega)
  have C5 := Lib.hid C5
  have B5 := Lib.hid B5
  have R5 := Lib.hid R5
  have HR3 := Lib.hid hrow3
  have hlow : w.heap.size < W1.heap.size := by rw [HS.out]; omega
  clear hrow3 hb3 hg3 HO HS B4 C4
  go_wp2_with fail
  go_loopw [27, 5] (fun i nm wr => ∃ (k : Nat) (r : Option Addr) (c : Nat), k ≤ M.dir.length ∧ i = .int .i64 k ∧ nm = .slice r k c ∧ wr.ownsRow w.heap.size 9 1 (.slice r k c) k (NS.take k) ∧ Cells wr w.heap.size 37 #[.int .i64 M.room, .slice f1 l.length f3, .slice s1 M.sure.length s3, .slice m1 m2 m3, .int .i64 M.units, .int .i64 M.left, .bool M.armed, .bool M.gone, .slice a1 M.acts.length a3] ∧ EntryRow wr (.slice g3 M.dir.length k3) M.dir ∧ Below w.heap.size w wr) (fun i _ _ => M.dir.length - (intOf i).toNat)
  case atStart => exact ⟨0, _, _, Nat.zero_le _, rfl, rfl, R5.out, C5.out, HR3.out, B5.out⟩
  case round =>
    obtain ⟨k, r, c, hk, rfl, rfl, own, hc, hrow, hb⟩ := hrel
    rename_i wr
    by_cases hlt : k < M.dir.length
    · obtain ⟨g, rfl, _⟩ := HG3.out (show 0 < M.dir.length by omega)
      obtain ⟨p0, p1⟩ := entries_at M.dir k hlt
      have r0 := row_at hrow p0
      have r1 := row_at hrow p1
      have hgl := (hrow.lt g rfl).2
      have hz := (HSM.out M.dir[k] (List.getElem_mem hlt)).1
      have htk : NS.take (k + 1) = NS.take k ++ [.string (bs M.dir[k].1)] := by rw [HNS.out, List.take_succ_eq_append_getElem (by simpa using hlt), List.getElem_map]
      have hzs : (bs M.dir[k].1).size ≤ 1000000 := by rw [bs_size]; exact hz
      generalize M.dir[k] = x at *
      obtain ⟨xn, xf⟩ := x
      dsimp only at r0 r1 hz htk hzs
      have RDz := Lib.hid (fun W hb => RD.out W hb (bs xn) hzs)
      have RRz := Lib.hid (fun W hb => RR.out W hb (bs xn) hzs)
      have SUz := Lib.hid (fun W hb => SU.out W hb (bs xn) hzs)
      have RSz := Lib.hid (fun W hb => RS.out W hb (bs xn) hzs)
      have hle : (readR D (bs xn)).2 ≤ 12 := HLE.out _
      generalize readR D (bs xn) = RV at *
      generalize sureD D (bs xn) = SV at *
      obtain ⟨tx, en⟩ := RV
      obtain ⟨ux, ub⟩ := SV
      dsimp only at RDz RRz SUz RSz hle
      generalize bs xn = z at *
      have NU := Lib.hid (fun W => num_still en (by omega) W)
      have q1 : ∀ t : ByteArray, (t.toList == t.toList) = true := fun t => by simp
      have q2 : ((en : Int) == (en : Int)) = true := by simp
      have q3 : (ub == ub) = true := by simp
      have HOW := Lib.hid own
      have HC := Lib.hid hc
      have HR := Lib.hid hrow
      have HB := Lib.hid hb
      have HTK := Lib.hid htk
      clear own hc hrow hb htk p0 p1 hz
      obtain ⟨i0, hi0, hz0, hz1, hz2⟩ := info_parts infoStrS
      have hbA := ((Below.refl wr.heap.size wr).alloc (Nat.le_refl _) (.cells #[.string z, .int .i64 xf] 83)).alloc (by simp) (.cells #[.string z] 9)
      have XA := (Cells.new wr 83 #[.string z, .int .i64 xf]).alloc (.cells #[.string z] 9)
      have HC2 := cells_new_add (wr.alloc (.cells #[.string z, .int .i64 xf] 83)) 9 [.string z]
      have hsA : (wr.alloc (.cells #[.string z, .int .i64 xf] 83)).heap.size = wr.heap.size + 1 := by simp
      rw [hsA] at HC2
      have HC2 := Lib.hid HC2
      have HOA := Lib.hid (row_below HOW.out hbA (Nat.le_refl _))
      have HBA := Lib.hid hbA
      have HXA := Lib.hid XA
      clear hbA XA hsA
      go_wp2_with (at_builtin; refine wpList_append_own _ rfl _ _ 57 rfl w.heap.size 9 i0 _ 1 16 Try.underlying57 hi0 hz0 hz1 hz2 rfl (by decide) _ k _ rfl HOA.out ⟨wr.heap.size + 1, 0, none⟩ 1 1 [.string z] rfl rfl HC2.out ?c2 ?c3 ?c4 ?c5 ?_)
      case c2 => intro u hu; simp at hu; subst hu; rfl
      case c3 => unfold maxLen; omega
      case c4 => omega
      case c5 => have := HB.out.size; simp; omega
      intro v5 w5 hown5 hgr5 hbk5
      obtain ⟨g', cap', rfl⟩ := slice_of_own hown5
      have hr : ∀ j, (Value.slice r k c).ownBlock = some j → w.heap.size ≤ j := fun j ej => (World.ownsRow.lt HOW.out j ej).1
      have B5 := (HB.out.trans (HBA.out.mono HB.out.size)).grown hgr5 (by have := HB.out.size; have := HBA.out.size; omega) hr
      have CC := Cells.grown (HC.out.below HBA.out HC.out.lt) hgr5 (fun e => box_ne HOW.out HC.out (by decide) e.symm)
      have XX := Cells.grown HXA.out hgr5 (fun e => by have := (World.ownsRow.lt HOW.out _ e.symm).2; omega)
      have RR5 := row_grown (row_below HR.out HBA.out (Nat.le_refl _)) hgr5 (rows_ne HR.out HOW.out (by decide))
      rw [← HTK.out] at hown5
      have OW5 := Lib.hid hown5
      have B5 := Lib.hid B5
      have CC5 := Lib.hid CC
      have XX5 := Lib.hid XX
      have RW5 := Lib.hid RR5
      obtain ⟨b0, b1, b2, b3, b4, b5, b6, b7, b8⟩ := cells9 CC
      have bl := CC.lt
      have x0 : w5.cell? ⟨wr.heap.size, 0, none⟩ = some (.string z) := XX.cell 0
      have x1 : w5.cell? ⟨wr.heap.size, 1, none⟩ = some (.int .i64 xf) := XX.cell 1
      have xl := XX.lt
      clear hown5 hgr5 hbk5 hr CC XX RR5 HOA HBA HXA HC2 HOW HC HR HB HTK
      go_wp2_with fail
      refine (RDz.out _ B5.out).mono ?_
      clear b0 b1 b2 b3 b4 b5 b6 b7 b8 bl x0 x1 xl
      rintro e w6 ⟨rfl, hb6⟩
      have B6 := Lib.hid (B5.out.trans (hb6.mono B5.out.size))
      have H56 := Lib.hid hb6
      have CC := CC5.out.below hb6 CC5.out.lt
      have XX := XX5.out.below hb6 XX5.out.lt
      obtain ⟨b0, b1, b2, b3, b4, b5, b6, b7, b8⟩ := cells9 CC
      have bl := CC.lt
      have x0 : w6.cell? ⟨wr.heap.size, 0, none⟩ = some (.string z) := XX.cell 0
      have x1 : w6.cell? ⟨wr.heap.size, 1, none⟩ = some (.int .i64 xf) := XX.cell 1
      have xl := XX.lt
      clear CC XX hb6
      go_wp2_with fail
      refine (RRz.out _ B6.out).mono ?_
      clear b0 b1 b2 b3 b4 b5 b6 b7 b8 bl x0 x1 xl
      rintro e w7 ⟨rfl, hb7⟩
      have B7 := Lib.hid (B6.out.trans (hb7.mono B6.out.size))
      have H57 := Lib.hid (H56.out.trans (hb7.mono H56.out.size))
      have CC := CC5.out.below H57.out CC5.out.lt
      have XX := XX5.out.below H57.out XX5.out.lt
      obtain ⟨b0, b1, b2, b3, b4, b5, b6, b7, b8⟩ := cells9 CC
      have bl := CC.lt
      have x0 : w7.cell? ⟨wr.heap.size, 0, none⟩ = some (.string z) := XX.cell 0
      have x1 : w7.cell? ⟨wr.heap.size, 1, none⟩ = some (.int .i64 xf) := XX.cell 1
      have xl := XX.lt
      clear CC XX hb7
      go_wp2_with fail
      refine (SUz.out _ B7.out).mono ?_
      rintro e w7' ⟨rfl, rfl⟩
      go_wp2_with fail
      refine (RSz.out _ B7.out).mono ?_
      clear b0 b1 b2 b3 b4 b5 b6 b7 b8 bl x0 x1 xl
      rintro e w8 ⟨rfl, hb8⟩
      have B8 := Lib.hid (B7.out.trans (hb8.mono B7.out.size))
      have H58 := Lib.hid (H57.out.trans (hb8.mono H57.out.size))
      clear hb8
      go_wp2_with fail
      refine (NU.out _).mono ?_
      rintro e w9 ⟨rfl, rfl⟩
      go_wp2_with fail
      go_roundw
      case rel => exact ⟨k + 1, _, _, hlt, by go_num, rfl, row_below OW5.out H58.out (Nat.le_refl _), CC5.out.below H58.out CC5.out.lt, row_below RW5.out H58.out (Nat.le_refl _), B8.out⟩
      case measure => simp [intOf]; omega
    · obtain rfl : k = M.dir.length := by omega
      rw [List.take_of_length_le (by rw [HNS.out]; simp)] at own
      have SNAMES := Lib.hid (show Sd.Strs wr (.slice r M.dir.length c) (M.dir.map fun x => bs x.1) from by
        have e : (M.dir.map fun x => bs x.1) = (M.dir.map (·.1)).map bs := by rw [List.map_map]; rfl
        rw [e]
        refine Sd.strs_of (lo := w.heap.size) ?_
        rw [List.length_map, List.map_map]
        rw [HNS.out] at own
        exact own)
      have hc1 := hc.cell 2
      simp at hc1
      have hcl := hc.lt
      have HC := Lib.hid hc
      have HB := Lib.hid hb
      clear own hrow hc hb
      go_wp2_with fail
      obtain ⟨wm, hwm⟩ : ∃ z, z = wr := ⟨_, rfl⟩
      subst hwm
      go_loopw [87] (fun i W => ∃ k : Nat, k ≤ M.sure.length ∧ i = .int .i64 k ∧ Below wm.heap.size wm W) (fun i _ => M.sure.length - (intOf i).toNat)
      case atStart => exact ⟨0, Nat.zero_le _, rfl, Below.refl _ _⟩
      case round =>
        obtain ⟨j, hj, rfl, hbj⟩ := hrel
        have hbz := HB.out.trans (hbj.mono HB.out.size)
        have hcz := HC.out.below hbj HC.out.lt
        by_cases hlj : j < M.sure.length
        · obtain ⟨g, rfl, _⟩ := HSO.out (by omega)
          obtain ⟨p0, p1⟩ := entries_at M.sure j hlj
          have hrow := row_below REF.out.sure hbz (Nat.le_refl _)
          have r0 := row_at hrow p0
          have r1 := row_at hrow p1
          have hgl := (hrow.lt g rfl).2
          have hz := (FT.out.fit.names M.sure[j] (List.getElem_mem hlj)).1
          have hxf := FT.out.fit.sureF M.sure[j] (List.getElem_mem hlj)
          have hdg := dget_rising FT.out.fit.rising.up M.sure[j] (List.getElem_mem hlj)
          have hzs : (bs M.sure[j].1).size ≤ 1000000 := by rw [bs_size]; exact hz
          generalize M.sure[j] = x at *
          obtain ⟨xn, xf⟩ := x
          dsimp only at r0 r1 hz hzs hxf hdg
          have hxl : xf < l.length := by rw [← HL.out] at hxf; simpa using hxf
          obtain ⟨gf, rfl, _⟩ := HFO.out (by omega)
          have hfw := HFR.out.below hbz (Nat.le_refl _)
          obtain ⟨c0, _⟩ := filesM_at l xf hxl
          have rf := row_at hfw.1 c0
          have hgfl := (hfw.1.lt gf rfl).2
          have hsu : sureD D (bs xn) = (l[xf].1.sure, true) := by
            rw [← TI.out.sureOf]
            unfold sureM
            rw [show (bs xn).data.toList = xn from by unfold bs; simp, hdg]
            dsimp only
            rw [← HL.out, List.getElem?_map, List.getElem?_eq_getElem hxl]; rfl
          have SUz := SU.out wr hbz (bs xn) hzs
          have SUz2 := Lib.hid (fun W hb => SU.out W hb (bs xn) hzs)
          rw [hsu] at SUz2
          have z1 := hcz.cell 1
          simp at z1
          have zl := hcz.lt
          generalize l[xf].1.sure = u at *
          generalize bs xn = z at *
          have q1 : ∀ t : ByteArray, (t.toList == t.toList) = true := fun t => by simp
          have hxi : (xf : Int) < (l.length : Int) := by omega
          have HBJ := Lib.hid hbj
          have HBZ := Lib.hid hbz
          have HCZ := Lib.hid hcz
          have hbA := (Below.refl wr.heap.size wr).alloc (Nat.le_refl _) (.cells #[.string z, .int .i64 xf] 83)
          have HBA := Lib.hid hbA
          have BW := Lib.hid (hbz.trans (hbA.mono hbz.size))
          clear SUz hsu hdg hz p0 p1 c0 hrow hfw hbj hbz hcz hbA hxf
          go_wp2_with fail
          refine (SUz2.out _ BW.out).mono ?_
          rintro e w7' ⟨rfl, rfl⟩
          go_wp2_with fail
          go_roundw
          case rel => exact ⟨j + 1, hlj, by go_num, HBJ.out.trans (HBA.out.mono HBJ.out.size)⟩
          case measure => simp [intOf]; omega
        · obtain rfl : j = M.sure.length := by omega
          have HBZ := Lib.hid hbz
          have HBJ := Lib.hid hbj
          have z8 := hcz.cell 8
          simp at z8
          have zl := hcz.lt
          have HCZ := Lib.hid hcz
          clear hbj hbz hcz
          go_wp2_with fail
          refine (AC.out _ HBZ.out).mono ?_
          clear z8 zl
          rintro e w5 ⟨v5, rfl, hown5, hge5, ⟨ga5, gc5, rfl⟩, hb5⟩
          have H5 := Lib.hid (HBZ.out.trans (hb5.mono HBZ.out.size))
          have C5 := HCZ.out.below hb5 HCZ.out.lt
          have z8 := C5.cell 8
          simp at z8
          have zl := C5.lt
          have C5 := Lib.hid C5
          have HOW5 := Lib.hid hown5
          have HBJ5 := Lib.hid (HBJ.out.trans (hb5.mono HBJ.out.size))
          have hlen2 : ((M.acts.length : Int) != (M.acts.length : Int)) = false := by simp
          clear hown5 hge5 hb5
          obtain ⟨_, _, e9, hg5⟩ := row_shape HOW5.out
          cases e9
          have HG5 := Lib.hid hg5
          obtain ⟨wq, hwq⟩ : ∃ z, z = wr := ⟨_, rfl⟩
          subst hwq
          clear hg5
          go_wp2_with fail
          go_loopw [122, 21] (fun i x W => ∃ k : Nat, k ≤ M.acts.length ∧ i = .int .i64 k ∧ Below w5.heap.size w5 W) (fun i _ _ => M.acts.length - (intOf i).toNat)
          case atStart => exact ⟨0, Nat.zero_le _, rfl, Below.refl _ _⟩
          case round =>
            obtain ⟨k, hk, rfl, hbk⟩ := hrel
            have hbz := H5.out.trans (hbk.mono H5.out.size)
            have hcz := C5.out.below hbk C5.out.lt
            by_cases hlk : k < M.acts.length
            · obtain ⟨g5, rfl, _⟩ := HG5.out (by omega)
              obtain ⟨ga, rfl, _⟩ := HAO.out (by omega)
              obtain ⟨p0, p1, p2, p3, p4⟩ := acts_at M.acts k hlk
              have o1 := row_below HOW5.out hbk (Nat.le_refl _)
              have o2 := row_below REF.out.acts hbz (Nat.le_refl _)
              have r0 := row_at o1 p0; have r1 := row_at o1 p1; have r2 := row_at o1 p2; have r3 := row_at o1 p3; have r4 := row_at o1 p4
              have s0 := row_at o2 p0; have s1' := row_at o2 p1; have s2' := row_at o2 p2; have s3' := row_at o2 p3; have s4 := row_at o2 p4
              have l1 := (o1.lt g5 rfl).2
              have l2 := (o2.lt ga rfl).2
              have z8' := hcz.cell 8
              simp at z8'
              have zl' := hcz.lt
              have AS : ∀ W, (binOp .neq 90 (actW M.acts[k]) (actW M.acts[k])).run Try.prog W = .ok (.bool false) W := actSame _
              unfold actW at AS
              generalize M.acts[k] = x at *
              have hki : (k : Int) < (M.acts.length : Int) := by omega
              have HBK := Lib.hid hbk
              have hbA := Lib.hid ((Below.refl wr.heap.size wr).alloc (Nat.le_refl _) (.cells #[.int .i64 x.kind, .string x.name, .string x.other, .string x.bytes, .int .i64 x.at_] 89))
              clear o1 o2 p0 p1 p2 p3 p4 hbk hbz hcz z8 zl
              go_wp2_with fail
              go_quiet (fail)
              go_wp2_with fail
              go_roundw
              case rel => exact ⟨k + 1, hlk, by go_num, HBK.out.trans ((drewN_belowS hbA.out _).mono HBK.out.size)⟩
              case measure => simp [intOf]; omega
            · obtain rfl : k = M.acts.length := by omega
              have B9 := Lib.hid hbz
              have C9 := Lib.hid hcz
              have CD := Lib.hid (fun (W : World) (hB : Below wr.heap.size wr W) => cells9 (hcz.below hB hcz.lt))
              have SN9 := Lib.hid (SNAMES.out.below (HBJ5.out.trans (hbk.mono HBJ5.out.size)) (Nat.le_refl _))
              obtain ⟨SS, hSS⟩ : ∃ SS : List ByteArray, SS = M.dir.map fun x => bs x.1 := ⟨_, rfl⟩
              rw [← hSS] at SN9
              rw [hdn, ← hSS] at NM
              have hsl9 : SS.length ≤ 1000000 := by rw [hSS, List.length_map]; exact hdl
              have hde : decide (SS = SS) = true := by simp
              have TX := Lib.hid (fun (W : World) (v v' : Value) (h : Sd.Strs W v SS) (h' : Sd.Strs W v' SS) => Sd.texts_any v v' SS SS W h h' hsl9 hsl9)
              rw [hde] at TX
              have hnn : ∀ t : Int, ((t == t) = true) := fun t => by simp
              have hbb : ∀ t : Bool, ((t == t) = true) := fun t => by simp
              clear hbk hbz hcz z8 zl hSS hde
              generalize freeM M = fm at *
              go_wp2_with fail
              go_region_law (first
                | (go_simp; go_at_call 23; refine (NM.out _ B9.out.drew).mono ?_; rintro e w11 ⟨vn, rfl, hsn, hb11⟩; have K11 := Lib.hid ((Below.refl _ wr).drew.trans hb11); have B11 := Lib.hid (B9.out.trans (K11.out.mono B9.out.size)); have HN := Lib.hid hsn; clear hsn hb11)
                | (go_simp; go_at_call 40; refine (TX.out _ _ _ HN.out (SN9.out.below K11.out (Nat.le_refl _))).mono ?_; rintro e w12 ⟨rfl, hb12⟩; have K12 := Lib.hid (K11.out.trans (hb12.mono K11.out.size)); have B12 := Lib.hid (B9.out.trans (K12.out.mono B9.out.size)); obtain ⟨a0, a1', a2', a3', a4, a5, a6, a7, a8⟩ := CD.out w12 K12.out; clear hb12)
                | (go_simp; go_at_call 24; refine (FR1.out _ B12.out).mono ?_; rintro e w13 ⟨rfl, hb13⟩; have K13 := Lib.hid (K12.out.trans (hb13.mono K12.out.size)); have B13 := Lib.hid (B9.out.trans (K13.out.mono B9.out.size)); obtain ⟨c0, c1, c2, c3, c4, c5, c6, c7, c8⟩ := CD.out w13 K13.out; clear hb13)
                | (go_simp; go_at_call 41; refine (FR2.out _ B13.out).mono ?_; rintro e w14 ⟨rfl, hb14⟩; have K14 := Lib.hid (K13.out.trans (hb14.mono K13.out.size)); have B14 := Lib.hid (B9.out.trans (K14.out.mono B9.out.size)); obtain ⟨d0, d1, d2, d3, d4, d5, d6, d7, d8⟩ := CD.out w14 K14.out; clear hb14)
                | (go_simp; go_at_call 25; refine (UN.out _ B14.out).mono ?_; rintro e w15 ⟨rfl, rfl⟩)
                | (go_simp; go_at_call 26; refine (DN.out _ B14.out).mono ?_; rintro e w16 ⟨rfl, rfl⟩))
              all_goals go_wp2_with fail
              all_goals
                go_ret
                exact ⟨rfl, B14.out⟩
end Go.Proofs.Ytembondddgfpcaa

namespace Go.Proofs.Ytembondddgfpcaa
open Go.RowKit Go.Maps
attribute [local go_sem] World.cell?_alloc_some

set_option maxRecDepth 100000 in
set_option maxHeartbeats 8000000 in
theorem do2_sync {L n p : Nat} {w : World} {D : ADisk} {M : RefM} {f s m a : Tri} (hP : Pr L n p w D M f s m a) (hn : n ≤ 80000) (hL : L ≤ w.heap.size) (k : Int) (name text : ByteArray) (ao : Option Addr) (l c : Nat) (hnm : name.size ≤ 100) (htx : text.size ≤ 200) (hk1 : -9223372036854775808 ≤ k) (hk2 : k ≤ 9223372036854775807) :
    Calls Try.prog 9 #[.pointer (some ⟨p, 0, none⟩), slices f s m a M.room M.units M.left M.armed M.gone, opV 4 k name text ao l c] w (DoG L (n + 402) p w (syncD D name).1 (syncM M name).1) := by
  have hl0 := hP.fine.l0
  have FIT := hP.fit (by omega)
  have HMW := hP.manyWaits (by omega)
  obtain ⟨B3, C4, C5, C6⟩ := do_boxes (w := w) (M := M) (f := f) (s := s) (m := m) (a := a) 4 k name text ao l c
  obtain ⟨W1, hW1⟩ : ∃ W, ((w.alloc (.cells (curM M f s m a) 37)).alloc (.cells #[.int .i64 4, .int .i64 k, .string name, .string text, .slice ao l c] 40)).alloc (.cells rows9 37) = W := ⟨_, rfl⟩
  rw [hW1] at B3 C4 C5 C6
  have hP1 := hP.below B3
  have hL1 : L ≤ W1.heap.size := Nat.le_trans hL B3.size
  have PC := Lib.hid (lift_op hP1.disk hL1 (fun T hA _ _ => sync_any hA hP.fine (by omega) name (by omega)))
  have RC := Lib.hid (fun (W : World) (HR : RefAt W M f s m a) => refsync_any FIT name (by omega) W HR)
  obtain ⟨ht, hen⟩ := Ties.sync hP.ties hl0 hP.fine (by omega) name
  have hle : (syncD D name).2 ≤ 12 := by
    unfold syncD; split; exact asked_le hP.fine name []; split <;> exact le12 (by decide)
  have FI := Lib.hid (show Fine (n + 402) (syncD D name).1 from (sync_fine hP.fine name).mono (by omega))
  have TY := Lib.hid (show Tidy (syncD D name).1 from hP.tidy.of (syncD_sure D name))
  have LF := Lib.hid (show InL (syncM M name).1.left from syncM_left hP.left name)
  have HT := Lib.hid ht
  have H1 := Lib.hid hP1.ref
  have HB := Lib.hid B3
  have H4 := Lib.hid C4
  have H5 := Lib.hid C5
  have H6 := Lib.hid C6
  have HL := Lib.hid hL1
  rw [hen] at RC
  clear ht hen FIT HMW hP hP1 hl0 B3 hL1
  generalize (syncD D name) = DD at *
  generalize (syncM M name) = MM at *
  obtain ⟨D', en⟩ := DD
  obtain ⟨M', bad⟩ := MM
  dsimp only at *
  obtain ⟨f1, f2, f3⟩ := f
  obtain ⟨s1, s2, s3⟩ := s
  obtain ⟨m1, m2, m3⟩ := m
  obtain ⟨a1, a2, a3⟩ := a
  unfold opV slices refA
  unfold curM rows9 at hW1
  dsimp only at hW1 ⊢
  obtain ⟨q0, q1, q2, q3, q4⟩ : W1.cell? ⟨w.heap.size + 1, 0, none⟩ = some (.int .i64 4) ∧ W1.cell? ⟨w.heap.size + 1, 1, none⟩ = some (.int .i64 k) ∧ W1.cell? ⟨w.heap.size + 1, 2, none⟩ = some (.string name) ∧ W1.cell? ⟨w.heap.size + 1, 3, none⟩ = some (.string text) ∧ W1.cell? ⟨w.heap.size + 1, 4, none⟩ = some (.slice ao l c) := ⟨C5.cell 0, C5.cell 1, C5.cell 2, C5.cell 3, C5.cell 4⟩
  have q5 := C5.lt
  clear C4 C5 C6
  go_enter Try.func9, Try.ntmps9
  go_wp2_with fail
  refine PC.out.mono ?_
  clear PC q0 q1 q2 q3 q4 q5 hW1
  rintro e w2 ⟨rfl, hd2, hk2'⟩
  have K5 := hk2'.cells H5.out (by decide)
  have K4 := hk2'.cells H4.out (by decide)
  unfold curM at K4
  dsimp only at K4
  obtain ⟨b0, b1, b2, b3, b4, b5, b6, b7, b8⟩ := cells9 K4
  have bl := K4.lt
  obtain ⟨q0, q1, q2, q3, q4⟩ : w2.cell? ⟨w.heap.size + 1, 0, none⟩ = some (.int .i64 4) ∧ w2.cell? ⟨w.heap.size + 1, 1, none⟩ = some (.int .i64 k) ∧ w2.cell? ⟨w.heap.size + 1, 2, none⟩ = some (.string name) ∧ w2.cell? ⟨w.heap.size + 1, 3, none⟩ = some (.string text) ∧ w2.cell? ⟨w.heap.size + 1, 4, none⟩ = some (.slice ao l c) := ⟨K5.cell 0, K5.cell 1, K5.cell 2, K5.cell 3, K5.cell 4⟩
  have q5 := K5.lt
  have D2 := Lib.hid hd2
  have KK := Lib.hid hk2'
  have RC2 := Lib.hid (RC.out w2 (H1.out.keeps hk2'))
  unfold slices refA at RC2
  dsimp only at RC2
  clear K4 K5 hd2 hk2' RC
  go_wp2_with fail
  refine RC2.out.mono ?_
  clear RC2 b0 b1 b2 b3 b4 b5 b6 b7 b8 bl q0 q1 q2 q3 q4 q5
  rintro e w3 ⟨⟨f1', f2', f3'⟩, ⟨s1', s2', s3'⟩, ⟨m1', m2', m3'⟩, ⟨a1', a2', a3'⟩, rfl, hr3, hb3⟩
  unfold slices refA
  dsimp only
  have K4 := (KK.out.cells H4.out (by decide)).below hb3 (KK.out.cells H4.out (by decide)).lt
  have K6 := (KK.out.cells H6.out (by decide)).below hb3 (KK.out.cells H6.out (by decide)).lt
  unfold curM at K4
  dsimp only at K4
  have D3 := Lib.hid (D2.out.below hb3)
  have KB := KK.out.bel.size
  have K3 := Lib.hid ((Keeps.of_below HB.out hL).trans (KK.out.then_ hb3 HL.out))
  have R3 := Lib.hid hr3
  have B6 := Lib.hid K6
  have B4 := Lib.hid K4
  obtain ⟨b0, b1, b2, b3, b4, b5, b6, b7, b8⟩ := cells9 K4
  have bl := K4.lt
  have g0 := K4.frozen 0; have g1 := K4.frozen 1; have g2 := K4.frozen 2; have g3 := K4.frozen 3; have g4 := K4.frozen 4; have g5 := K4.frozen 5; have g6 := K4.frozen 6; have g7 := K4.frozen 7; have g8 := K4.frozen 8
  clear K4 K6 hb3 hr3 D2 KK KB
  go_upto_region 37 with fail
  clear b0 b1 b2 b3 b4 b5 b6 b7 b8 bl g0 g1 g2 g3 g4 g5 g6 g7 g8
  have E4 := setBox_to B4.out (.int .i64 M'.room) (.slice f1' f2' f3') (.slice s1' s2' s3') (.slice m1' m2' m3') (.int .i64 M'.units) (.int .i64 M'.left) (.bool M'.armed) (.bool M'.gone) (.slice a1' a2' a3')
  have E6 := setBox_other B6.out (b := w.heap.size) (by omega) (.int .i64 M'.room) (.slice f1' f2' f3') (.slice s1' s2' s3') (.slice m1' m2' m3') (.int .i64 M'.units) (.int .i64 M'.left) (.bool M'.armed) (.bool M'.gone) (.slice a1' a2' a3')
  obtain ⟨W5, hW5⟩ : ∃ W, setBox w3 w.heap.size (.int .i64 M'.room) (.slice f1' f2' f3') (.slice s1' s2' s3') (.slice m1' m2' m3') (.int .i64 M'.units) (.int .i64 M'.left) (.bool M'.armed) (.bool M'.gone) (.slice a1' a2' a3') = W := ⟨_, rfl⟩
  rw [hW5] at E4 E6
  have HW5 := Lib.hid hW5
  unfold setBox at hW5
  rw [hW5]
  clear hW5
  obtain ⟨b0, b1, b2, b3, b4, b5, b6, b7, b8⟩ := cells9 E4
  have bl := E4.lt
  obtain ⟨x0, x1, x2, x3, x4, x5, x6, x7, x8, xl, y0, y1, y2, y3, y4, y5, y6, y7, y8⟩ := Box9.of E6
  have F6 := Lib.hid E6
  clear E4 E6
  have NU := Lib.hid (fun W => num_still en (by omega) W)
  have hqq : ((en : Int) == (en : Int)) = true := by simp
  go_region_law ((go_simp; go_at_call 28; refine (NU.out _).mono ?_; rintro e w9 ⟨rfl, rfl⟩))
  all_goals go_wp2
  all_goals
    refine bodyPost_ret (ret_box rfl _ _ (w.heap.size + 1 + 1) _ rfl (setBox_to F6.out _ _ _ _ _ _ _ _ _).drew rfl) rfl ?_
    have P5 := Pr.mk (n := n + 402) ((D3.out.box B4.out (by decide) (.int .i64 M'.room) (.slice f1' f2' f3') (.slice s1' s2' s3') (.slice m1' m2' m3') (.int .i64 M'.units) (.int .i64 M'.left) (.bool M'.armed) (.bool M'.gone) (.slice a1' a2' a3'))) (R3.out.box B4.out _ _ _ _ _ _ _ _ _) HT.out FI.out TY.out LF.out
    have K5 := K3.out.box (b := w.heap.size) (Nat.le_refl _) hL (.int .i64 M'.room) (.slice f1' f2' f3') (.slice s1' s2' s3') (.slice m1' m2' m3') (.int .i64 M'.units) (.int .i64 M'.left) (.bool M'.armed) (.bool M'.gone) (.slice a1' a2' a3')
    rw [HW5.out] at P5 K5
    have P6 := Pr.mk (n := n + 402) (P5.disk.box F6.out (by decide) (.int .i64 M'.room) (.slice f1' f2' f3') (.slice s1' s2' s3') (.slice m1' m2' m3') (.int .i64 M'.units) (.int .i64 M'.left) (.bool M'.armed) (.bool M'.gone) (.slice a1' a2' a3')) (P5.ref.box F6.out _ _ _ _ _ _ _ _ _) HT.out FI.out TY.out LF.out
    have K6 := K5.box (b := w.heap.size + 1 + 1) (by omega) hL (.int .i64 M'.room) (.slice f1' f2' f3') (.slice s1' s2' s3') (.slice m1' m2' m3') (.int .i64 M'.units) (.int .i64 M'.left) (.bool M'.armed) (.bool M'.gone) (.slice a1' a2' a3')
    exact ⟨(f1', f2', f3'), (s1', s2', s3'), (m1', m2', m3'), (a1', a2', a3'), rfl, P6.below (Below.refl _ _).drew, K6.then_ (Below.refl _ _).drew hL⟩
set_option maxRecDepth 100000 in
set_option maxHeartbeats 8000000 in
theorem do2_rename {L n p : Nat} {w : World} {D : ADisk} {M : RefM} {f s m a : Tri} (hP : Pr L n p w D M f s m a) (hn : n ≤ 80000) (hL : L ≤ w.heap.size) (k : Int) (name text : ByteArray) (ao : Option Addr) (l c : Nat) (hnm : name.size ≤ 100) (htx : text.size ≤ 200) (hk1 : -9223372036854775808 ≤ k) (hk2 : k ≤ 9223372036854775807) :
    Calls Try.prog 9 #[.pointer (some ⟨p, 0, none⟩), slices f s m a M.room M.units M.left M.armed M.gone, opV 5 k name text ao l c] w (DoG L (n + 402) p w (renameD D name text).1 (renameM M name text).1) := by
  have hl0 := hP.fine.l0
  have FIT := hP.fit (by omega)
  have HMW := hP.manyWaits (by omega)
  obtain ⟨B3, C4, C5, C6⟩ := do_boxes (w := w) (M := M) (f := f) (s := s) (m := m) (a := a) 5 k name text ao l c
  obtain ⟨W1, hW1⟩ : ∃ W, ((w.alloc (.cells (curM M f s m a) 37)).alloc (.cells #[.int .i64 5, .int .i64 k, .string name, .string text, .slice ao l c] 40)).alloc (.cells rows9 37) = W := ⟨_, rfl⟩
  rw [hW1] at B3 C4 C5 C6
  have hP1 := hP.below B3
  have hL1 : L ≤ W1.heap.size := Nat.le_trans hL B3.size
  have PC := Lib.hid (lift_op hP1.disk hL1 (fun T hA _ _ => rename_any hA hP.fine (by omega) name text (by omega) (by omega)))
  have RC := Lib.hid (fun (W : World) (HR : RefAt W M f s m a) => refrename_any FIT name text (by omega) (by omega) W HR)
  obtain ⟨ht, hen⟩ := Ties.rename hP.ties hl0 name text
  have hle : (renameD D name text).2 ≤ 12 := by
    unfold renameD; split; exact asked_le hP.fine name [text]; split; split <;> exact le12 (by decide); exact le12 (by decide)
  have FI := Lib.hid (show Fine (n + 402) (renameD D name text).1 from (rename_fine hP.fine name text (by omega) (by omega)).mono (by omega))
  have TY := Lib.hid (show Tidy (renameD D name text).1 from hP.tidy.of (renameD_sure D name text))
  have LF := Lib.hid (show InL (renameM M name text).1.left from renameM_left hP.left name text)
  have HT := Lib.hid ht
  have H1 := Lib.hid hP1.ref
  have HB := Lib.hid B3
  have H4 := Lib.hid C4
  have H5 := Lib.hid C5
  have H6 := Lib.hid C6
  have HL := Lib.hid hL1
  rw [hen] at RC
  clear ht hen FIT HMW hP hP1 hl0 B3 hL1
  generalize (renameD D name text) = DD at *
  generalize (renameM M name text) = MM at *
  obtain ⟨D', en⟩ := DD
  obtain ⟨M', bad⟩ := MM
  dsimp only at *
  obtain ⟨f1, f2, f3⟩ := f
  obtain ⟨s1, s2, s3⟩ := s
  obtain ⟨m1, m2, m3⟩ := m
  obtain ⟨a1, a2, a3⟩ := a
  unfold opV slices refA
  unfold curM rows9 at hW1
  dsimp only at hW1 ⊢
  obtain ⟨q0, q1, q2, q3, q4⟩ : W1.cell? ⟨w.heap.size + 1, 0, none⟩ = some (.int .i64 5) ∧ W1.cell? ⟨w.heap.size + 1, 1, none⟩ = some (.int .i64 k) ∧ W1.cell? ⟨w.heap.size + 1, 2, none⟩ = some (.string name) ∧ W1.cell? ⟨w.heap.size + 1, 3, none⟩ = some (.string text) ∧ W1.cell? ⟨w.heap.size + 1, 4, none⟩ = some (.slice ao l c) := ⟨C5.cell 0, C5.cell 1, C5.cell 2, C5.cell 3, C5.cell 4⟩
  have q5 := C5.lt
  clear C4 C5 C6
  go_enter Try.func9, Try.ntmps9
  go_wp2_with fail
  refine PC.out.mono ?_
  clear PC q0 q1 q2 q3 q4 q5 hW1
  rintro e w2 ⟨rfl, hd2, hk2'⟩
  have K5 := hk2'.cells H5.out (by decide)
  have K4 := hk2'.cells H4.out (by decide)
  unfold curM at K4
  dsimp only at K4
  obtain ⟨b0, b1, b2, b3, b4, b5, b6, b7, b8⟩ := cells9 K4
  have bl := K4.lt
  obtain ⟨q0, q1, q2, q3, q4⟩ : w2.cell? ⟨w.heap.size + 1, 0, none⟩ = some (.int .i64 5) ∧ w2.cell? ⟨w.heap.size + 1, 1, none⟩ = some (.int .i64 k) ∧ w2.cell? ⟨w.heap.size + 1, 2, none⟩ = some (.string name) ∧ w2.cell? ⟨w.heap.size + 1, 3, none⟩ = some (.string text) ∧ w2.cell? ⟨w.heap.size + 1, 4, none⟩ = some (.slice ao l c) := ⟨K5.cell 0, K5.cell 1, K5.cell 2, K5.cell 3, K5.cell 4⟩
  have q5 := K5.lt
  have D2 := Lib.hid hd2
  have KK := Lib.hid hk2'
  have RC2 := Lib.hid (RC.out w2 (H1.out.keeps hk2'))
  unfold slices refA at RC2
  dsimp only at RC2
  clear K4 K5 hd2 hk2' RC
  go_wp2_with fail
  refine RC2.out.mono ?_
  clear RC2 b0 b1 b2 b3 b4 b5 b6 b7 b8 bl q0 q1 q2 q3 q4 q5
  rintro e w3 ⟨⟨f1', f2', f3'⟩, ⟨s1', s2', s3'⟩, ⟨m1', m2', m3'⟩, ⟨a1', a2', a3'⟩, rfl, hr3, hb3⟩
  unfold slices refA
  dsimp only
  have K4 := (KK.out.cells H4.out (by decide)).below hb3 (KK.out.cells H4.out (by decide)).lt
  have K6 := (KK.out.cells H6.out (by decide)).below hb3 (KK.out.cells H6.out (by decide)).lt
  unfold curM at K4
  dsimp only at K4
  have D3 := Lib.hid (D2.out.below hb3)
  have KB := KK.out.bel.size
  have K3 := Lib.hid ((Keeps.of_below HB.out hL).trans (KK.out.then_ hb3 HL.out))
  have R3 := Lib.hid hr3
  have B6 := Lib.hid K6
  have B4 := Lib.hid K4
  obtain ⟨b0, b1, b2, b3, b4, b5, b6, b7, b8⟩ := cells9 K4
  have bl := K4.lt
  have g0 := K4.frozen 0; have g1 := K4.frozen 1; have g2 := K4.frozen 2; have g3 := K4.frozen 3; have g4 := K4.frozen 4; have g5 := K4.frozen 5; have g6 := K4.frozen 6; have g7 := K4.frozen 7; have g8 := K4.frozen 8
  clear K4 K6 hb3 hr3 D2 KK KB
  go_upto_region 37 with fail
  clear b0 b1 b2 b3 b4 b5 b6 b7 b8 bl g0 g1 g2 g3 g4 g5 g6 g7 g8
  have E4 := setBox_to B4.out (.int .i64 M'.room) (.slice f1' f2' f3') (.slice s1' s2' s3') (.slice m1' m2' m3') (.int .i64 M'.units) (.int .i64 M'.left) (.bool M'.armed) (.bool M'.gone) (.slice a1' a2' a3')
  have E6 := setBox_other B6.out (b := w.heap.size) (by omega) (.int .i64 M'.room) (.slice f1' f2' f3') (.slice s1' s2' s3') (.slice m1' m2' m3') (.int .i64 M'.units) (.int .i64 M'.left) (.bool M'.armed) (.bool M'.gone) (.slice a1' a2' a3')
  obtain ⟨W5, hW5⟩ : ∃ W, setBox w3 w.heap.size (.int .i64 M'.room) (.slice f1' f2' f3') (.slice s1' s2' s3') (.slice m1' m2' m3') (.int .i64 M'.units) (.int .i64 M'.left) (.bool M'.armed) (.bool M'.gone) (.slice a1' a2' a3') = W := ⟨_, rfl⟩
  rw [hW5] at E4 E6
  have HW5 := Lib.hid hW5
  unfold setBox at hW5
  rw [hW5]
  clear hW5
  obtain ⟨b0, b1, b2, b3, b4, b5, b6, b7, b8⟩ := cells9 E4
  have bl := E4.lt
  obtain ⟨x0, x1, x2, x3, x4, x5, x6, x7, x8, xl, y0, y1, y2, y3, y4, y5, y6, y7, y8⟩ := Box9.of E6
  have F6 := Lib.hid E6
  clear E4 E6
  have NU := Lib.hid (fun W => num_still en (by omega) W)
  have hqq : ((en : Int) == (en : Int)) = true := by simp
  go_region_law ((go_simp; go_at_call 28; refine (NU.out _).mono ?_; rintro e w9 ⟨rfl, rfl⟩))
  all_goals go_wp2
  all_goals
    refine bodyPost_ret (ret_box rfl _ _ (w.heap.size + 1 + 1) _ rfl (setBox_to F6.out _ _ _ _ _ _ _ _ _).drew rfl) rfl ?_
    have P5 := Pr.mk (n := n + 402) ((D3.out.box B4.out (by decide) (.int .i64 M'.room) (.slice f1' f2' f3') (.slice s1' s2' s3') (.slice m1' m2' m3') (.int .i64 M'.units) (.int .i64 M'.left) (.bool M'.armed) (.bool M'.gone) (.slice a1' a2' a3'))) (R3.out.box B4.out _ _ _ _ _ _ _ _ _) HT.out FI.out TY.out LF.out
    have K5 := K3.out.box (b := w.heap.size) (Nat.le_refl _) hL (.int .i64 M'.room) (.slice f1' f2' f3') (.slice s1' s2' s3') (.slice m1' m2' m3') (.int .i64 M'.units) (.int .i64 M'.left) (.bool M'.armed) (.bool M'.gone) (.slice a1' a2' a3')
    rw [HW5.out] at P5 K5
    have P6 := Pr.mk (n := n + 402) (P5.disk.box F6.out (by decide) (.int .i64 M'.room) (.slice f1' f2' f3') (.slice s1' s2' s3') (.slice m1' m2' m3') (.int .i64 M'.units) (.int .i64 M'.left) (.bool M'.armed) (.bool M'.gone) (.slice a1' a2' a3')) (P5.ref.box F6.out _ _ _ _ _ _ _ _ _) HT.out FI.out TY.out LF.out
    have K6 := K5.box (b := w.heap.size + 1 + 1) (by omega) hL (.int .i64 M'.room) (.slice f1' f2' f3') (.slice s1' s2' s3') (.slice m1' m2' m3') (.int .i64 M'.units) (.int .i64 M'.left) (.bool M'.armed) (.bool M'.gone) (.slice a1' a2' a3')
    exact ⟨(f1', f2', f3'), (s1', s2', s3'), (m1', m2', m3'), (a1', a2', a3'), rfl, P6.below (Below.refl _ _).drew, K6.then_ (Below.refl _ _).drew hL⟩
set_option maxRecDepth 100000 in
set_option maxHeartbeats 8000000 in
theorem do2_remove {L n p : Nat} {w : World} {D : ADisk} {M : RefM} {f s m a : Tri} (hP : Pr L n p w D M f s m a) (hn : n ≤ 80000) (hL : L ≤ w.heap.size) (k : Int) (name text : ByteArray) (ao : Option Addr) (l c : Nat) (hnm : name.size ≤ 100) (htx : text.size ≤ 200) (hk1 : -9223372036854775808 ≤ k) (hk2 : k ≤ 9223372036854775807) :
    Calls Try.prog 9 #[.pointer (some ⟨p, 0, none⟩), slices f s m a M.room M.units M.left M.armed M.gone, opV 6 k name text ao l c] w (DoG L (n + 402) p w (removeD D name).1 (removeM M name).1) := by
  have hl0 := hP.fine.l0
  have FIT := hP.fit (by omega)
  have HMW := hP.manyWaits (by omega)
  obtain ⟨B3, C4, C5, C6⟩ := do_boxes (w := w) (M := M) (f := f) (s := s) (m := m) (a := a) 6 k name text ao l c
  obtain ⟨W1, hW1⟩ : ∃ W, ((w.alloc (.cells (curM M f s m a) 37)).alloc (.cells #[.int .i64 6, .int .i64 k, .string name, .string text, .slice ao l c] 40)).alloc (.cells rows9 37) = W := ⟨_, rfl⟩
  rw [hW1] at B3 C4 C5 C6
  have hP1 := hP.below B3
  have hL1 : L ≤ W1.heap.size := Nat.le_trans hL B3.size
  have PC := Lib.hid (lift_op hP1.disk hL1 (fun T hA _ _ => remove_any hA hP.fine (by omega) name (by omega)))
  have RC := Lib.hid (fun (W : World) (HR : RefAt W M f s m a) => refremove_any FIT name (by omega) W HR)
  obtain ⟨ht, hen⟩ := Ties.remove hP.ties hl0 name
  have hle : (removeD D name).2 ≤ 12 := by
    unfold removeD; split; exact asked_le hP.fine name []; split <;> exact le12 (by decide)
  have FI := Lib.hid (show Fine (n + 402) (removeD D name).1 from (remove_fine hP.fine name (by omega) (fun h => by have := asked_lt hP.fine name [] h; omega)).mono (by omega))
  have TY := Lib.hid (show Tidy (removeD D name).1 from hP.tidy.of (removeD_sure D name))
  have LF := Lib.hid (show InL (removeM M name).1.left from removeM_left hP.left name)
  have HT := Lib.hid ht
  have H1 := Lib.hid hP1.ref
  have HB := Lib.hid B3
  have H4 := Lib.hid C4
  have H5 := Lib.hid C5
  have H6 := Lib.hid C6
  have HL := Lib.hid hL1
  rw [hen] at RC
  clear ht hen FIT HMW hP hP1 hl0 B3 hL1
  generalize (removeD D name) = DD at *
  generalize (removeM M name) = MM at *
  obtain ⟨D', en⟩ := DD
  obtain ⟨M', bad⟩ := MM
  dsimp only at *
  obtain ⟨f1, f2, f3⟩ := f
  obtain ⟨s1, s2, s3⟩ := s
  obtain ⟨m1, m2, m3⟩ := m
  obtain ⟨a1, a2, a3⟩ := a
  unfold opV slices refA
  unfold curM rows9 at hW1
  dsimp only at hW1 ⊢
  obtain ⟨q0, q1, q2, q3, q4⟩ : W1.cell? ⟨w.heap.size + 1, 0, none⟩ = some (.int .i64 6) ∧ W1.cell? ⟨w.heap.size + 1, 1, none⟩ = some (.int .i64 k) ∧ W1.cell? ⟨w.heap.size + 1, 2, none⟩ = some (.string name) ∧ W1.cell? ⟨w.heap.size + 1, 3, none⟩ = some (.string text) ∧ W1.cell? ⟨w.heap.size + 1, 4, none⟩ = some (.slice ao l c) := ⟨C5.cell 0, C5.cell 1, C5.cell 2, C5.cell 3, C5.cell 4⟩
  have q5 := C5.lt
  clear C4 C5 C6
  go_enter Try.func9, Try.ntmps9
  go_wp2_with fail
  refine PC.out.mono ?_
  clear PC q0 q1 q2 q3 q4 q5 hW1
  rintro e w2 ⟨rfl, hd2, hk2'⟩
  have K5 := hk2'.cells H5.out (by decide)
  have K4 := hk2'.cells H4.out (by decide)
  unfold curM at K4
  dsimp only at K4
  obtain ⟨b0, b1, b2, b3, b4, b5, b6, b7, b8⟩ := cells9 K4
  have bl := K4.lt
  obtain ⟨q0, q1, q2, q3, q4⟩ : w2.cell? ⟨w.heap.size + 1, 0, none⟩ = some (.int .i64 6) ∧ w2.cell? ⟨w.heap.size + 1, 1, none⟩ = some (.int .i64 k) ∧ w2.cell? ⟨w.heap.size + 1, 2, none⟩ = some (.string name) ∧ w2.cell? ⟨w.heap.size + 1, 3, none⟩ = some (.string text) ∧ w2.cell? ⟨w.heap.size + 1, 4, none⟩ = some (.slice ao l c) := ⟨K5.cell 0, K5.cell 1, K5.cell 2, K5.cell 3, K5.cell 4⟩
  have q5 := K5.lt
  have D2 := Lib.hid hd2
  have KK := Lib.hid hk2'
  have RC2 := Lib.hid (RC.out w2 (H1.out.keeps hk2'))
  unfold slices refA at RC2
  dsimp only at RC2
  clear K4 K5 hd2 hk2' RC
  go_wp2_with fail
  refine RC2.out.mono ?_
  clear RC2 b0 b1 b2 b3 b4 b5 b6 b7 b8 bl q0 q1 q2 q3 q4 q5
  rintro e w3 ⟨⟨f1', f2', f3'⟩, ⟨s1', s2', s3'⟩, ⟨m1', m2', m3'⟩, ⟨a1', a2', a3'⟩, rfl, hr3, hb3⟩
  unfold slices refA
  dsimp only
  have K4 := (KK.out.cells H4.out (by decide)).below hb3 (KK.out.cells H4.out (by decide)).lt
  have K6 := (KK.out.cells H6.out (by decide)).below hb3 (KK.out.cells H6.out (by decide)).lt
  unfold curM at K4
  dsimp only at K4
  have D3 := Lib.hid (D2.out.below hb3)
  have KB := KK.out.bel.size
  have K3 := Lib.hid ((Keeps.of_below HB.out hL).trans (KK.out.then_ hb3 HL.out))
  have R3 := Lib.hid hr3
  have B6 := Lib.hid K6
  have B4 := Lib.hid K4
  obtain ⟨b0, b1, b2, b3, b4, b5, b6, b7, b8⟩ := cells9 K4
  have bl := K4.lt
  have g0 := K4.frozen 0; have g1 := K4.frozen 1; have g2 := K4.frozen 2; have g3 := K4.frozen 3; have g4 := K4.frozen 4; have g5 := K4.frozen 5; have g6 := K4.frozen 6; have g7 := K4.frozen 7; have g8 := K4.frozen 8
  clear K4 K6 hb3 hr3 D2 KK KB
  go_upto_region 37 with fail
  clear b0 b1 b2 b3 b4 b5 b6 b7 b8 bl g0 g1 g2 g3 g4 g5 g6 g7 g8
  have E4 := setBox_to B4.out (.int .i64 M'.room) (.slice f1' f2' f3') (.slice s1' s2' s3') (.slice m1' m2' m3') (.int .i64 M'.units) (.int .i64 M'.left) (.bool M'.armed) (.bool M'.gone) (.slice a1' a2' a3')
  have E6 := setBox_other B6.out (b := w.heap.size) (by omega) (.int .i64 M'.room) (.slice f1' f2' f3') (.slice s1' s2' s3') (.slice m1' m2' m3') (.int .i64 M'.units) (.int .i64 M'.left) (.bool M'.armed) (.bool M'.gone) (.slice a1' a2' a3')
  obtain ⟨W5, hW5⟩ : ∃ W, setBox w3 w.heap.size (.int .i64 M'.room) (.slice f1' f2' f3') (.slice s1' s2' s3') (.slice m1' m2' m3') (.int .i64 M'.units) (.int .i64 M'.left) (.bool M'.armed) (.bool M'.gone) (.slice a1' a2' a3') = W := ⟨_, rfl⟩
  rw [hW5] at E4 E6
  have HW5 := Lib.hid hW5
  unfold setBox at hW5
  rw [hW5]
  clear hW5
  obtain ⟨b0, b1, b2, b3, b4, b5, b6, b7, b8⟩ := cells9 E4
  have bl := E4.lt
  obtain ⟨x0, x1, x2, x3, x4, x5, x6, x7, x8, xl, y0, y1, y2, y3, y4, y5, y6, y7, y8⟩ := Box9.of E6
  have F6 := Lib.hid E6
  clear E4 E6
  have NU := Lib.hid (fun W => num_still en (by omega) W)
  have hqq : ((en : Int) == (en : Int)) = true := by simp
  go_region_law ((go_simp; go_at_call 28; refine (NU.out _).mono ?_; rintro e w9 ⟨rfl, rfl⟩))
  all_goals go_wp2
  all_goals
    refine bodyPost_ret (ret_box rfl _ _ (w.heap.size + 1 + 1) _ rfl (setBox_to F6.out _ _ _ _ _ _ _ _ _).drew rfl) rfl ?_
    have P5 := Pr.mk (n := n + 402) ((D3.out.box B4.out (by decide) (.int .i64 M'.room) (.slice f1' f2' f3') (.slice s1' s2' s3') (.slice m1' m2' m3') (.int .i64 M'.units) (.int .i64 M'.left) (.bool M'.armed) (.bool M'.gone) (.slice a1' a2' a3'))) (R3.out.box B4.out _ _ _ _ _ _ _ _ _) HT.out FI.out TY.out LF.out
    have K5 := K3.out.box (b := w.heap.size) (Nat.le_refl _) hL (.int .i64 M'.room) (.slice f1' f2' f3') (.slice s1' s2' s3') (.slice m1' m2' m3') (.int .i64 M'.units) (.int .i64 M'.left) (.bool M'.armed) (.bool M'.gone) (.slice a1' a2' a3')
    rw [HW5.out] at P5 K5
    have P6 := Pr.mk (n := n + 402) (P5.disk.box F6.out (by decide) (.int .i64 M'.room) (.slice f1' f2' f3') (.slice s1' s2' s3') (.slice m1' m2' m3') (.int .i64 M'.units) (.int .i64 M'.left) (.bool M'.armed) (.bool M'.gone) (.slice a1' a2' a3')) (P5.ref.box F6.out _ _ _ _ _ _ _ _ _) HT.out FI.out TY.out LF.out
    have K6 := K5.box (b := w.heap.size + 1 + 1) (by omega) hL (.int .i64 M'.room) (.slice f1' f2' f3') (.slice s1' s2' s3') (.slice m1' m2' m3') (.int .i64 M'.units) (.int .i64 M'.left) (.bool M'.armed) (.bool M'.gone) (.slice a1' a2' a3')
    exact ⟨(f1', f2', f3'), (s1', s2', s3'), (m1', m2', m3'), (a1', a2', a3'), rfl, P6.below (Below.refl _ _).drew, K6.then_ (Below.refl _ _).drew hL⟩
set_option maxRecDepth 100000 in
set_option maxHeartbeats 8000000 in
theorem do2_syncdir {L n p : Nat} {w : World} {D : ADisk} {M : RefM} {f s m a : Tri} (hP : Pr L n p w D M f s m a) (hn : n ≤ 80000) (hL : L ≤ w.heap.size) (k : Int) (name text : ByteArray) (ao : Option Addr) (l c : Nat) (hnm : name.size ≤ 100) (htx : text.size ≤ 200) (hk1 : -9223372036854775808 ≤ k) (hk2 : k ≤ 9223372036854775807) :
    Calls Try.prog 9 #[.pointer (some ⟨p, 0, none⟩), slices f s m a M.room M.units M.left M.armed M.gone, opV 7 k name text ao l c] w (DoG L (n + 402) p w (syncdirD D).1 (syncdirM M).1) := by
  have hl0 := hP.fine.l0
  have FIT := hP.fit (by omega)
  have HMW := hP.manyWaits (by omega)
  obtain ⟨B3, C4, C5, C6⟩ := do_boxes (w := w) (M := M) (f := f) (s := s) (m := m) (a := a) 7 k name text ao l c
  obtain ⟨W1, hW1⟩ : ∃ W, ((w.alloc (.cells (curM M f s m a) 37)).alloc (.cells #[.int .i64 7, .int .i64 k, .string name, .string text, .slice ao l c] 40)).alloc (.cells rows9 37) = W := ⟨_, rfl⟩
  rw [hW1] at B3 C4 C5 C6
  have hP1 := hP.below B3
  have hL1 : L ≤ W1.heap.size := Nat.le_trans hL B3.size
  have PC := Lib.hid (lift_op hP1.disk hL1 (fun T hA _ _ => syncdir_any hA hP.fine (by omega)))
  have RC := Lib.hid (fun (W : World) (HR : RefAt W M f s m a) => refsyncdir_any FIT W HR)
  obtain ⟨ht, hen⟩ := Ties.syncdir hP.ties hl0
  have hle : (syncdirD D).2 ≤ 12 := by
    unfold syncdirD; split; exact le12 (by decide); split <;> exact le12 (by decide)
  have FI := Lib.hid (show Fine (n + 402) (syncdirD D).1 from (syncdir_fine hP.fine).mono (by omega))
  have TY := Lib.hid (show Tidy (syncdirD D).1 from hP.tidy.syncdir hP.fine (by omega))
  have LF := Lib.hid (show InL (syncdirM M).1.left from syncdirM_left hP.left)
  have HT := Lib.hid ht
  have H1 := Lib.hid hP1.ref
  have HB := Lib.hid B3
  have H4 := Lib.hid C4
  have H5 := Lib.hid C5
  have H6 := Lib.hid C6
  have HL := Lib.hid hL1
  rw [hen] at RC
  clear ht hen FIT HMW hP hP1 hl0 B3 hL1
  generalize (syncdirD D) = DD at *
  generalize (syncdirM M) = MM at *
  obtain ⟨D', en⟩ := DD
  obtain ⟨M', bad⟩ := MM
  dsimp only at *
  obtain ⟨f1, f2, f3⟩ := f
  obtain ⟨s1, s2, s3⟩ := s
  obtain ⟨m1, m2, m3⟩ := m
  obtain ⟨a1, a2, a3⟩ := a
  unfold opV slices refA
  unfold curM rows9 at hW1
  dsimp only at hW1 ⊢
  obtain ⟨q0, q1, q2, q3, q4⟩ : W1.cell? ⟨w.heap.size + 1, 0, none⟩ = some (.int .i64 7) ∧ W1.cell? ⟨w.heap.size + 1, 1, none⟩ = some (.int .i64 k) ∧ W1.cell? ⟨w.heap.size + 1, 2, none⟩ = some (.string name) ∧ W1.cell? ⟨w.heap.size + 1, 3, none⟩ = some (.string text) ∧ W1.cell? ⟨w.heap.size + 1, 4, none⟩ = some (.slice ao l c) := ⟨C5.cell 0, C5.cell 1, C5.cell 2, C5.cell 3, C5.cell 4⟩
  have q5 := C5.lt
  clear C4 C5 C6
  go_enter Try.func9, Try.ntmps9
  go_wp2_with fail
  refine PC.out.mono ?_
  clear PC q0 q1 q2 q3 q4 q5 hW1
  rintro e w2 ⟨rfl, hd2, hk2'⟩
  have K5 := hk2'.cells H5.out (by decide)
  have K4 := hk2'.cells H4.out (by decide)
  unfold curM at K4
  dsimp only at K4
  obtain ⟨b0, b1, b2, b3, b4, b5, b6, b7, b8⟩ := cells9 K4
  have bl := K4.lt
  obtain ⟨q0, q1, q2, q3, q4⟩ : w2.cell? ⟨w.heap.size + 1, 0, none⟩ = some (.int .i64 7) ∧ w2.cell? ⟨w.heap.size + 1, 1, none⟩ = some (.int .i64 k) ∧ w2.cell? ⟨w.heap.size + 1, 2, none⟩ = some (.string name) ∧ w2.cell? ⟨w.heap.size + 1, 3, none⟩ = some (.string text) ∧ w2.cell? ⟨w.heap.size + 1, 4, none⟩ = some (.slice ao l c) := ⟨K5.cell 0, K5.cell 1, K5.cell 2, K5.cell 3, K5.cell 4⟩
  have q5 := K5.lt
  have D2 := Lib.hid hd2
  have KK := Lib.hid hk2'
  have RC2 := Lib.hid (RC.out w2 (H1.out.keeps hk2'))
  unfold slices refA at RC2
  dsimp only at RC2
  clear K4 K5 hd2 hk2' RC
  go_wp2_with fail
  refine RC2.out.mono ?_
  clear RC2 b0 b1 b2 b3 b4 b5 b6 b7 b8 bl q0 q1 q2 q3 q4 q5
  rintro e w3 ⟨⟨f1', f2', f3'⟩, ⟨s1', s2', s3'⟩, ⟨m1', m2', m3'⟩, ⟨a1', a2', a3'⟩, rfl, hr3, hb3⟩
  unfold slices refA
  dsimp only
  have K4 := (KK.out.cells H4.out (by decide)).below hb3 (KK.out.cells H4.out (by decide)).lt
  have K6 := (KK.out.cells H6.out (by decide)).below hb3 (KK.out.cells H6.out (by decide)).lt
  unfold curM at K4
  dsimp only at K4
  have D3 := Lib.hid (D2.out.below hb3)
  have KB := KK.out.bel.size
  have K3 := Lib.hid ((Keeps.of_below HB.out hL).trans (KK.out.then_ hb3 HL.out))
  have R3 := Lib.hid hr3
  have B6 := Lib.hid K6
  have B4 := Lib.hid K4
  obtain ⟨b0, b1, b2, b3, b4, b5, b6, b7, b8⟩ := cells9 K4
  have bl := K4.lt
  have g0 := K4.frozen 0; have g1 := K4.frozen 1; have g2 := K4.frozen 2; have g3 := K4.frozen 3; have g4 := K4.frozen 4; have g5 := K4.frozen 5; have g6 := K4.frozen 6; have g7 := K4.frozen 7; have g8 := K4.frozen 8
  clear K4 K6 hb3 hr3 D2 KK KB
  go_upto_region 37 with fail
  clear b0 b1 b2 b3 b4 b5 b6 b7 b8 bl g0 g1 g2 g3 g4 g5 g6 g7 g8
  have E4 := setBox_to B4.out (.int .i64 M'.room) (.slice f1' f2' f3') (.slice s1' s2' s3') (.slice m1' m2' m3') (.int .i64 M'.units) (.int .i64 M'.left) (.bool M'.armed) (.bool M'.gone) (.slice a1' a2' a3')
  have E6 := setBox_other B6.out (b := w.heap.size) (by omega) (.int .i64 M'.room) (.slice f1' f2' f3') (.slice s1' s2' s3') (.slice m1' m2' m3') (.int .i64 M'.units) (.int .i64 M'.left) (.bool M'.armed) (.bool M'.gone) (.slice a1' a2' a3')
  obtain ⟨W5, hW5⟩ : ∃ W, setBox w3 w.heap.size (.int .i64 M'.room) (.slice f1' f2' f3') (.slice s1' s2' s3') (.slice m1' m2' m3') (.int .i64 M'.units) (.int .i64 M'.left) (.bool M'.armed) (.bool M'.gone) (.slice a1' a2' a3') = W := ⟨_, rfl⟩
  rw [hW5] at E4 E6
  have HW5 := Lib.hid hW5
  unfold setBox at hW5
  rw [hW5]
  clear hW5
  obtain ⟨b0, b1, b2, b3, b4, b5, b6, b7, b8⟩ := cells9 E4
  have bl := E4.lt
  obtain ⟨x0, x1, x2, x3, x4, x5, x6, x7, x8, xl, y0, y1, y2, y3, y4, y5, y6, y7, y8⟩ := Box9.of E6
  have F6 := Lib.hid E6
  clear E4 E6
  have NU := Lib.hid (fun W => num_still en (by omega) W)
  have hqq : ((en : Int) == (en : Int)) = true := by simp
  go_region_law ((go_simp; go_at_call 28; refine (NU.out _).mono ?_; rintro e w9 ⟨rfl, rfl⟩))
  all_goals go_wp2
  all_goals
    refine bodyPost_ret (ret_box rfl _ _ (w.heap.size + 1 + 1) _ rfl (setBox_to F6.out _ _ _ _ _ _ _ _ _).drew rfl) rfl ?_
    have P5 := Pr.mk (n := n + 402) ((D3.out.box B4.out (by decide) (.int .i64 M'.room) (.slice f1' f2' f3') (.slice s1' s2' s3') (.slice m1' m2' m3') (.int .i64 M'.units) (.int .i64 M'.left) (.bool M'.armed) (.bool M'.gone) (.slice a1' a2' a3'))) (R3.out.box B4.out _ _ _ _ _ _ _ _ _) HT.out FI.out TY.out LF.out
    have K5 := K3.out.box (b := w.heap.size) (Nat.le_refl _) hL (.int .i64 M'.room) (.slice f1' f2' f3') (.slice s1' s2' s3') (.slice m1' m2' m3') (.int .i64 M'.units) (.int .i64 M'.left) (.bool M'.armed) (.bool M'.gone) (.slice a1' a2' a3')
    rw [HW5.out] at P5 K5
    have P6 := Pr.mk (n := n + 402) (P5.disk.box F6.out (by decide) (.int .i64 M'.room) (.slice f1' f2' f3') (.slice s1' s2' s3') (.slice m1' m2' m3') (.int .i64 M'.units) (.int .i64 M'.left) (.bool M'.armed) (.bool M'.gone) (.slice a1' a2' a3')) (P5.ref.box F6.out _ _ _ _ _ _ _ _ _) HT.out FI.out TY.out LF.out
    have K6 := K5.box (b := w.heap.size + 1 + 1) (by omega) hL (.int .i64 M'.room) (.slice f1' f2' f3') (.slice s1' s2' s3') (.slice m1' m2' m3') (.int .i64 M'.units) (.int .i64 M'.left) (.bool M'.armed) (.bool M'.gone) (.slice a1' a2' a3')
    exact ⟨(f1', f2', f3'), (s1', s2', s3'), (m1', m2', m3'), (a1', a2', a3'), rfl, P6.below (Below.refl _ _).drew, K6.then_ (Below.refl _ _).drew hL⟩
end Go.Proofs.Ytembondddgfpcaa

