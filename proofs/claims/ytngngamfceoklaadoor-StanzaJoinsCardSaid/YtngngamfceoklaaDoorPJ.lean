/- Parse. -/
import Derived.Test.YtngngamfceoklaaDoorPI
namespace Go.Proofs.YtngngamfceoklaaDoor
open Go.RowKit Go.Shelf
attribute [local go_sem] Oper.semAt_some errV_0

/-- A slice of items, readable. -/
def Its (w : World) (v : Value) (its : List It) : Prop :=
  ∃ A cap, v = .slice A its.length cap ∧ its.length ≤ cap ∧ ∀ (i : Nat) (it : It), its[i]? = some it → ∃ b off fv, A = some ⟨b, off, none⟩ ∧ b < w.heap.size ∧
    w.cell? ⟨b, off + i * 3, none⟩ = some (.int .i64 it.kind) ∧ w.cell? ⟨b, off + i * 3 + 1, none⟩ = some (.string (B it.raw)) ∧ w.cell? ⟨b, off + i * 3 + 1 + 1, none⟩ = some fv ∧ Flds w fv it.fields
theorem Its.below {w w' : World} {v : Value} {its : List It} {n : Nat} (h : Its w v its) (hb : Below n w w') (hn : w.heap.size ≤ n) : Its w' v its := by
  obtain ⟨A, cap, hv, hle, hc⟩ := h
  refine ⟨A, cap, hv, hle, fun i it hi => ?_⟩
  obtain ⟨b, off, fv, hA, hlt, c0, c1, c2, hf⟩ := hc i it hi
  have hlt' := Nat.lt_of_lt_of_le hlt hn
  exact ⟨b, off, fv, hA, Nat.lt_of_lt_of_le hlt hb.size, (hb.cell (p := ⟨b, off + i * 3, none⟩) hlt').trans c0, (hb.cell (p := ⟨b, off + i * 3 + 1, none⟩) hlt').trans c1, (hb.cell (p := ⟨b, off + i * 3 + 1 + 1, none⟩) hlt').trans c2, hf.below hb hn⟩
theorem ParserV.its {w : World} {T : Nat → Nat} {R b : Nat} {text : ByteArray} {p : PS} {V : PV} (h : ParserV w T R b text p V) : Its w V.v3 p.items := by
  rcases Joins.ownsRow_forms h.r3 with ⟨e, hn⟩ | ⟨g, cap, e⟩
  · have : p.items = [] := List.length_eq_zero_iff.1 hn
    rw [e, this]
    exact ⟨none, 0, rfl, Nat.le_refl _, fun i it hi => by simp at hi⟩
  · refine ⟨some ⟨g, 0, none⟩, cap, e, (by rcases h.r3.2 with ⟨q, _⟩ | ⟨g', cap', cur, q, _, _, q2, _⟩; · rw [e] at q; cases q
                                           · rw [e] at q; cases q; exact q2), fun i it hi => ?_⟩
    have hlt : i < p.items.length := by
      rcases Nat.lt_or_ge i p.items.length with q | q
      · exact q
      · rw [List.getElem?_eq_none q] at hi; cases hi
    obtain ⟨fv, hfv⟩ : ∃ fv, V.fvs[i]? = some fv := ⟨_, List.getElem?_eq_getElem (by rw [h.nf]; exact hlt)⟩
    obtain ⟨a0, a1, a2⟩ := itemsCells_at _ _ i it fv hi hfv
    have hr := h.r3
    rw [e] at hr
    refine ⟨g, 0, fv, rfl, (World.ownsRow.lt hr g rfl).2, ?_, ?_, ?_, flds_of_own (h.rf i it fv hi hfv).1⟩
    · rw [Nat.zero_add, World.ownsRow.cellAt hr (i * 3) (by omega)]; exact a0
    · rw [Nat.zero_add, World.ownsRow.cellAt hr (i * 3 + 1) (by omega)]; exact a1
    · rw [Nat.zero_add, World.ownsRow.cellAt hr (i * 3 + 1 + 1) (by omega)]; exact a2
/-- What Parse comes to, of a text that isn't too long. -/
def Parsed (w : World) (text : List UInt8) (e : Ending) (w' : World) : Prop :=
  Below w.heap.size w w' ∧ match parseL text with
    | .error (a, n) => ∃ v, e = .returned (.tuple #[.slice none 0 0, v]) ∧ FaultAt w.heap.size w' v a n
    | .ok its => ∃ v, e = .returned (.tuple #[v, .nilIface]) ∧ Its w' v its
theorem Parsed.no {w w' : World} {text : List UInt8} {v : Value} {a n : Nat} (h : parseL text = .error (a, n)) (hb : Below w.heap.size w w') (hf : FaultAt w.heap.size w' v a n) : Parsed w text (.returned (.tuple #[.slice none 0 0, v])) w' :=
  ⟨hb, by rw [h]; exact ⟨v, rfl, hf⟩⟩
theorem Parsed.yes {w w' : World} {text : List UInt8} {v : Value} {its : List It} (h : parseL text = .ok its) (hb : Below w.heap.size w w') (hf : Its w' v its) : Parsed w text (.returned (.tuple #[v, .nilIface])) w' :=
  ⟨hb, by rw [h]; exact ⟨v, rfl, hf⟩⟩

/-- The way out: the mark is taken, the results are read from their boxes. -/
theorem parseOut {Q : Ending → World → Prop} (w W : World) (v e : Value) (tmps : Array Value) (hO : Out w W v e) (hv1 : v.oneCell' = true) (he1 : e.oneCell' = true) (hK : W.heap[w.heap.size + 4]? = some (.deferred (some []))) (t2 : tmps[2]? = some (.pointer (some ⟨w.heap.size, 0, none⟩))) (t3 : tmps[3]? = some (.pointer (some ⟨w.heap.size + 1, 0, none⟩)))
    (hQ : Below w.heap.size w (W.putObj (w.heap.size + 4) (.deferred none)) → Q (.returned (.tuple #[v, e])) (W.putObj (w.heap.size + 4) (.deferred none))) :
    bodyPostM Fence.wide 9 Tryd.prog Tryd.f9 Q .ret { tmps := tmps, defers := [{ target := .collected (w.heap.size + 4), args := #[] }] } W := by
  obtain ⟨h4, h5, hB⟩ := hO
  have p1 := grownBy_putObj' W (w.heap.size + 4) (.deferred none)
  have r4 : Cells (W.putObj (w.heap.size + 4) (.deferred none)) w.heap.size 23 #[v] := (p1.block _ h4.lt (fun e => by have := Option.some.inj e; omega)).trans h4
  have r5 : Cells (W.putObj (w.heap.size + 4) (.deferred none)) (w.heap.size + 1) 25 #[e] := (p1.block _ h5.lt (fun e => by have := Option.some.inj e; omega)).trans h5
  have c4 : (W.putObj (w.heap.size + 4) (.deferred none)).cell? ⟨w.heap.size, 0, none⟩ = some v := r4.cell 0
  have c5 : (W.putObj (w.heap.size + 4) (.deferred none)).cell? ⟨w.heap.size + 1, 0, none⟩ = some e := r5.cell 0
  refine ⟨by simp, .inl ⟨_, _, rfl, run_takeDeferred hK, ?_⟩⟩
  exact ⟨.tuple #[v, e], by simp [results, Tryd.f9, go_sem, t2, t3, c4, c5], hQ (hB.trans (belowK_b (w := w) (Nat.le_refl _) W _ _ _ (by omega) hK rfl rfl))⟩

theorem linesOn_pos : ∀ (n no at_ : Nat) (l : List UInt8), l.length ≤ n → ∀ x ∈ linesOn no at_ l, 1 ≤ x.bytes.length
  | 0, _, _, l, h, x, hx => by
    have : l = [] := List.length_eq_zero_iff.1 (by omega)
    subst this
    rw [linesOn_nil] at hx; cases hx
  | n + 1, no, at_, l, h, x, hx => by
    by_cases hl : l = []
    · subst hl; rw [linesOn_nil] at hx; cases hx
    · have hp := used_pos l hl
      rw [linesOn_cons _ _ _ hl] at hx
      rcases List.mem_cons.1 hx with rfl | hx
      · have : (Ln.bytes ⟨no, at_, head l, nl l⟩).length = used l := by
          unfold Ln.bytes used; simp only [List.length_append]; split <;> rfl
        omega
      · exact linesOn_pos n _ _ _ (by simp only [List.length_drop]; omega) x hx
theorem bytes_ge : ∀ (pre : List Ln), (∀ x ∈ pre, 1 ≤ x.bytes.length) → pre.length ≤ (pre.flatMap Ln.bytes).length
  | [], _ => Nat.le_refl _
  | x :: pre, h => by
    have ih := bytes_ge pre (fun y hy => h y (List.mem_cons_of_mem _ hy))
    have := h x List.mem_cons_self
    rw [List.flatMap_cons, List.length_append, List.length_cons]; omega

set_option maxRecDepth 100000 in
set_option maxHeartbeats 4000000 in
theorem parse_any (s : ByteArray) (hs : s.size ≤ 60000) (w : World) :
    Calls Tryd.prog 9 #[.string s] w fun e w' => Parsed w s.data.toList e w' := by
  obtain ⟨xs, hxs⟩ : ∃ xs, linesOf s.data.toList = xs := ⟨_, rfl⟩
  have HXS := Lib.hid hxs
  have hat := fun pre x post (e : xs = pre ++ x :: post) => linesOf_at s.data.toList pre x post (hxs.trans e)
  have HAT := Lib.hid hat
  have hj : (xs.flatMap Ln.bytes) = s.data.toList := by rw [← hxs]; exact linesOf_join _
  have hjl : (xs.flatMap Ln.bytes).length = s.size := by rw [hj, ← Lib.size_eq]
  have HJL := Lib.hid hjl
  have hpos : ∀ x ∈ xs, 1 ≤ x.bytes.length := by rw [← hxs]; exact linesOn_pos _ 0 0 _ (Nat.le_refl _)
  have HPOS := Lib.hid hpos
  clear hxs hat hjl hj hpos
  refine callsIn_wide (n := 9).1 ?_
  refine callsIn_of_wp_marks Tryd.func9 rfl trivial ?_ rfl
  simp only [Tryd.ntmps9, List.size_toArray, List.length_cons, List.length_nil, Nat.reduceAdd, Nat.reduceSub, Array.replicate_succ, Array.replicate_zero, List.push_toArray, List.append_toArray, List.nil_append, List.cons_append]
  gi_wp2_with fail
  refine ⟨trivial, (callsIn_wide.2 (split_any s _)).mono ?_⟩
  rintro e w3 ⟨rfl, rfl⟩
  gi_wp2_with fail
  have k7 := boxNew4 w (.cells #[.slice none 0 0] 23) (.cells #[.nilIface] 25) (.cells #[.int .i64 0, .slice none 0 0, .string s, .slice none 0 0, .int .i64 0, .int .i64 0, .slice none 0 0] 57) 9 (.string s)
  have HH := split_hands s (w.heap.size + 3) _ k7 (by omega)
  rw [HXS.out] at HH
  have n0 := ParserV.new ((w.alloc (.cells #[.slice none 0 0] 23)).alloc (.cells #[.nilIface] 25)) s (w.heap.size + 2) (by simp)
  rw [World.size_alloc, World.size_alloc] at n0
  change ParserV _ (fun k => if k = w.heap.size + 2 then 1 else 0) _ (w.heap.size + 2) _ _ _ at n0
  have o0 : Out w ((((w.alloc (.cells #[.slice none 0 0] 23)).alloc (.cells #[.nilIface] 25)).alloc (.cells #[.int .i64 0, .slice none 0 0, .string s, .slice none 0 0, .int .i64 0, .int .i64 0, .slice none 0 0] 57)).alloc (.cells #[.string s] 9)) (.slice none 0 0) .nilIface := by
    have h1 := Cells.new (w.alloc (.cells #[.slice none 0 0] 23)) 25 #[.nilIface]
    rw [World.size_alloc] at h1
    exact ⟨(((Cells.new w _ _).alloc _).alloc _).alloc _, (h1.alloc _).alloc _, ((((Below.refl _ w).alloc (Nat.le_refl _) _).alloc (by simp) _).alloc (by simp; omega) _).alloc (by simp; omega) _⟩
  have init : InvP w s [] ((((w.alloc (.cells #[.slice none 0 0] 23)).alloc (.cells #[.nilIface] 25)).alloc (.cells #[.int .i64 0, .slice none 0 0, .string s, .slice none 0 0, .int .i64 0, .int .i64 0, .slice none 0 0] 57)).alloc (.cells #[.string s] 9)) :=
    ⟨o0, _, PS.new, rfl, Inv.new, ParserAt.below ⟨_, n0⟩ ((Below.refl _ _).alloc (Nat.le_refl _) _), fun k h1 h2 => if_neg (by omega)⟩
  have hz : ((((w.alloc (.cells #[.slice none 0 0] 23)).alloc (.cells #[.nilIface] 25)).alloc (.cells #[.int .i64 0, .slice none 0 0, .string s, .slice none 0 0, .int .i64 0, .int .i64 0, .slice none 0 0] 57)).alloc (.cells #[.string s] 9)).heap.size = w.heap.size + 4 := by simp
  refine wp_rangedA (gf := 39) (lb := #[.pointer (some ⟨w.heap.size + 3, 0, none⟩)]) rfl (enters_of Tryd.func39 (by kernel_rfl) rfl) HH (fun _ => rfl)
    (InvP w s) (OutP w s) (by rw [hz]; exact fun pre W W' h ht => h.turned ht (by omega) (by omega)) (fun c pre W W' h ht => h.turned ht (by rw [hz]; omega) (by rw [hz]; omega)) init
    (fun a pre x a' W => ∃ Bx, w.heap.size + 9 ≤ Bx ∧ a' = { tmps := (a.tmps.setIfInBounds 16 (.agg (lineV x))).setIfInBounds 5 (.pointer (some ⟨Bx, 0, none⟩)), defers := [] } ∧ Cells W Bx 62 (lineV x) ∧ InvP w s pre W)
    ?hM ?assign ?body ?done ?stop
  case hM =>
    rw [hz]
    rintro a pre x a' _ W W' ⟨Bx, h1, h2, h3, h4⟩ ht
    exact ⟨Bx, h1, h2, (ht.same Bx h3.lt (.inr (by omega))).trans h3, h4.turned ht (by omega) (by omega)⟩
  case assign =>
    rw [hz]
    intro l pre x post W hx hsz hi
    clear hx
    dsimp only [lineV]
    gi_wp2
    exact ⟨(Stay.refl _ _ W).alloc hsz _, W.heap.size, by omega, rfl, Cells.new _ _ _, hi.alloc _⟩
  case body =>
    rw [hz]
    rintro l pre x post a' W hx hsz ⟨Bx, hB, rfl, hc, hO, T, p, hr, hi, hp, hT⟩
    obtain ⟨hno, hat⟩ := HAT.out pre x post hx
    rw [← hat] at hi
    have hsum := HJL.out
    rw [hx, List.flatMap_append, List.flatMap_cons, List.length_append, List.length_append, ← hat] at hsum
    have hge := bytes_ge pre (fun y hy => HPOS.out y (by rw [hx]; exact List.mem_append_left _ hy))
    rw [← hno, ← hat] at hge
    have hR : w.heap.size + 2 ≤ W.heap.size := by omega
    have TK := take_any hp hR x hi (by omega) hs hge
    have HR := Lib.hid hr
    have HI := Lib.hid hi
    have HX := Lib.hid (show x.at_ = (pre.flatMap Ln.bytes).length from hat)
    clear hx hr hi hat hsum hno
    simp only [List.setIfInBounds_toArray, List.set_cons_zero, List.set_cons_succ, lineV] at hc ⊢
    have q0 : W.cell? ⟨Bx, 0, none⟩ = some (.int .i64 x.no) := hc.cell 0
    have q1 : W.cell? ⟨Bx, 1, none⟩ = some (.int .i64 x.at_) := hc.cell 1
    have q2 : W.cell? ⟨Bx, 2, none⟩ = some (.string ⟨x.text.toArray⟩) := hc.cell 2
    have q3 : W.cell? ⟨Bx, 3, none⟩ = some (.bool x.ended) := hc.cell 3
    have stay : ∀ W1, Only (fun r => T r ≠ 0) W W1 → Stay (w.heap.size + 4) 5 W W1 := fun W1 ho => ⟨ho.size, fun r h1 h2 => ho.same r (by omega) (fun hn => hn (hT r (by omega) (by omega)))⟩
    have hTR : ∀ r, T r ≠ 0 → w.heap.size + 2 ≤ r := fun r hr => by obtain ⟨V, hv⟩ := hp; exact (hv.low r hr).1
    gi_wp2_with fail
    refine ⟨trivial, ((callsIn_wide.2 TK).inRound l).mono ?_⟩
    rintro e W1 ht
    unfold Taken at ht
    cases htk : takeP s.data.toList p x with
    | error an =>
      obtain ⟨a, n⟩ := an
      rw [htk] at ht
      obtain ⟨v, rfl, hf, ho⟩ := ht
      have hrn := runP_snoc_no HR.out htk
      obtain ⟨q, hq, rfl, hqc⟩ := hf
      have hO1 := hO.only ho hTR
      have c2 : W1.cell? ⟨w.heap.size, 0, none⟩ = some (.slice none 0 0) := hO1.1.cell 0
      have f2 := hO1.1.frozen 0
      have c3 : W1.cell? ⟨w.heap.size + 1, 0, none⟩ = some .nilIface := hO1.2.1.cell 0
      have f3 := hO1.2.1.frozen 0
      have hst := stay W1 ho
      clear TK hO hc
      gi_wp2
      refine ⟨(hst.setCell (.inl (by show w.heap.size < _; omega)) _).setCell (.inl (by show w.heap.size + 1 < _; omega)) _, rfl, a, n, _, hrn, hO1.set _ _, q, by omega, rfl, ?_⟩
      exact Cells.other (Cells.other hqc (by show q ≠ w.heap.size; omega) _) (by show q ≠ w.heap.size + 1; omega) _
    | ok p' =>
      rw [htk] at ht
      obtain ⟨rfl, T', hp', hst⟩ := ht
      have hrn := runP_snoc HR.out htk
      obtain ⟨hi', _⟩ := Inv.take HI.out hge htk
      clear TK hc
      gi_wp2
      refine ⟨stay W1 hst.only, hO.only hst.only hTR, T', p', hrn, ?_, hp', fun r h1 h2 => (hst.old r (by omega)).2 (hT r h1 h2)⟩
      rw [List.flatMap_append, List.length_append, ← HX.out]
      simpa using hi'
  case done =>
    rw [hz]
    rintro W ⟨hO, T, p, hr, hi, hp, hT⟩ hmark
    have zW : w.heap.size + 4 < W.heap.size := (Array.getElem?_eq_some_iff.1 hmark).1
    rw [HJL.out] at hi
    have hTR : ∀ r, T r ≠ 0 → w.heap.size + 2 ≤ r := fun r hr => by obtain ⟨V, hv⟩ := hp; exact (hv.low r hr).1
    have EF := endField_any hp (by omega) (by have := hi.said; omega) (by have := hi.fields; omega)
    have PL : Hid (parseL s.data.toList = lastP s.data.toList p) := by
      show _ = _
      unfold parseL; rw [HXS.out, hr]
    have HI := Lib.hid hi.endField
    have h4 : T (w.heap.size + 4) = 0 := hT _ (by omega) (by omega)
    have l0 := hp.lt
    clear hr hi hp
    gi_wp2_with fail
    refine ⟨trivial, (callsIn_wide.2 EF).mono ?_⟩
    rintro e W1 hE
    unfold EndField at hE
    by_cases h0 : endFieldN p = 0
    · rw [if_pos h0] at hE
      obtain ⟨rfl, T1, g1, s1⟩ := hE
      have hO1 := hO.only s1.only hTR
      have hm1 := (s1.only.same _ zW (fun e => e h4)).trans hmark
      have h41 := (s1.old _ zW).2 h4
      have hTR1 : ∀ r, T1 r ≠ 0 → w.heap.size + 2 ≤ r := fun r hr => by obtain ⟨V, hv⟩ := g1; exact (hv.low r hr).1
      have zW1 := s1.only.size
      have e0 := endField_at p
      have hat := HI.out.at_
      have EB := endBlock_any g1 (by omega) s.size hat (Nat.le_refl _) (by omega) (by have := HI.out.items; omega) (by have := HI.out.stanzas; omega)
      have l1 := g1.lt
      have PY : Hid (parseL s.data.toList = .ok (endBlockP s.data.toList (endFieldP p) s.size).items) := by
        show _ = _
        rw [PL.out]; unfold lastP; rw [if_neg (by simpa using h0), ← Lib.size_eq]
      clear EF hO hmark HI PL g1
      gi_wp2_with fail
      refine ⟨trivial, (callsIn_wide.2 EB).mono ?_⟩
      rintro e W2 ⟨rfl, T2, ⟨V2, g2⟩, s2⟩
      have hO2 := hO1.only s2.only hTR1
      have hm2 := (s2.only.same _ (by omega) (fun e => e h41)).trans hm1
      obtain ⟨a3, c3, e3, _⟩ := own_slice g2.r3
      have hits := g2.its
      have q3 : W2.cell? ⟨w.heap.size + 1 + 1, 3, none⟩ = some (.slice a3 (endBlockP s.data.toList (endFieldP p) s.size).items.length c3) := by rw [← e3]; exact g2.cells.cell 3
      have l2 := g2.lt
      have c2 : W2.cell? ⟨w.heap.size, 0, none⟩ = some (.slice none 0 0) := hO2.1.cell 0
      have f2 := hO2.1.frozen 0
      have c3' : W2.cell? ⟨w.heap.size + 1, 0, none⟩ = some .nilIface := hO2.2.1.cell 0
      have f3 := hO2.2.1.frozen 0
      rw [e3] at hits
      have HITS := Lib.hid hits
      have hT2 : T2 (w.heap.size + 4) = 0 := (s2.old _ (by omega)).2 h41
      have HG := Lib.hid (fun W' (hs : ∀ k, T2 k ≠ 0 → W'.heap[k]? = W2.heap[k]?) hz => (g2.same (w' := W') hs hz).its)
      have hlow2 : ∀ r, T2 r ≠ 0 → w.heap.size + 2 ≤ r := fun r hr => (g2.low r hr).1
      rw [e3] at HG
      clear EB hits g2
      gi_wp2
      refine parseOut w _ (.slice a3 (endBlockP s.data.toList (endFieldP p) s.size).items.length c3) .nilIface _ (hO2.set _ _) rfl rfl ?_ rfl rfl fun hb => .yes PY.out hb (HG.out _ ?_ ?_)
      · exact (Below.heap_setCell _ _ _ _ (by show w.heap.size + 4 ≠ w.heap.size + 1; omega)).trans ((Below.heap_setCell _ _ _ _ (by show w.heap.size + 4 ≠ w.heap.size; omega)).trans hm2)
      · intro k hk
        have h1 := hlow2 k hk
        rw [World.putObj_heap_other (by rintro rfl; exact hk hT2)]
        exact (Below.heap_setCell _ _ _ _ (by show k ≠ w.heap.size + 1; omega)).trans (Below.heap_setCell _ _ _ _ (by show k ≠ w.heap.size; omega))
      · simp [World.setCell]
    · rw [if_neg h0] at hE
      obtain ⟨v, rfl, ⟨q, hq, rfl, hqc⟩, hb1⟩ := hE
      have hO1 : Out w W1 (.slice none 0 0) .nilIface := ⟨hO.1.below hb1 hO.1.lt, hO.2.1.below hb1 hO.2.1.lt, hO.2.2.trans (hb1.mono hO.2.2.size)⟩
      have hm1 := (hb1.block _ zW).trans hmark
      have c2 : W1.cell? ⟨w.heap.size, 0, none⟩ = some (.slice none 0 0) := hO1.1.cell 0
      have f2 := hO1.1.frozen 0
      have c3' : W1.cell? ⟨w.heap.size + 1, 0, none⟩ = some .nilIface := hO1.2.1.cell 0
      have f3 := hO1.2.1.frozen 0
      have PN : Hid (parseL s.data.toList = .error (p.begin_, endFieldN p)) := by
        show _ = _
        rw [PL.out]; unfold lastP; rw [if_pos h0]
      clear EF hO hmark HI PL
      gi_wp2
      refine parseOut w _ (.slice none 0 0) (.iface 78 (.pointer (some ⟨q, 0, none⟩))) _ (hO1.set _ _) rfl rfl ?_ rfl rfl fun hb => .no PN.out hb ⟨q, by omega, rfl, ?_⟩
      · exact (Below.heap_setCell _ _ _ _ (by show w.heap.size + 4 ≠ w.heap.size + 1; omega)).trans ((Below.heap_setCell _ _ _ _ (by show w.heap.size + 4 ≠ w.heap.size; omega)).trans hm1)
      · exact (World.putObj_heap_other (by omega)).trans (Cells.other (Cells.other hqc (by show q ≠ w.heap.size; omega) _) (by show q ≠ w.heap.size + 1; omega) _)
  case stop =>
    rw [hz]
    rintro c pre W hpre ⟨rfl, a, n, v, hr, hO, ⟨q, hq, rfl, hqc⟩⟩ hmark
    have PN : Hid (parseL s.data.toList = .error (a, n)) := by
      show _ = _
      unfold parseL; rw [HXS.out, runP_stop hr hpre]
    gi_wp2
    refine parseOut w _ (.slice none 0 0) (.iface 78 (.pointer (some ⟨q, 0, none⟩))) _ hO rfl rfl hmark rfl rfl fun hb => .no PN.out hb ⟨q, by omega, rfl, ?_⟩
    exact (World.putObj_heap_other (by omega)).trans hqc
end Go.Proofs.YtngngamfceoklaaDoor
