/- Texts put together: PJ, PK, FK, BU, FN, GB, PN, PW, PX, PY, GD. -/
import Derived.Shelf.Strings.BuilderK
import Derived.Lib.FrozenHead
import Derived.Laws.AppendOwnNone
import Derived.Test.YtbkeoiefolkjfaaGreatDoorBxa3
import Derived.Test.YtbkeoiefolkjfaaGreatDoorBxa5
import Derived.Test.YtbkeoiefolkjfaaGreatDoorBxa9
import Derived.Test.YtbkeoiefolkjfaaGreatDoorBxa10
import Derived.Test.YtbkeoiefolkjfaaGreatDoorBxa12
set_option linter.unusedVariables false
set_option maxRecDepth 100000
set_option maxHeartbeats 16000000
namespace Go.Proofs.YtbkeoiefolkjfaaGreatDoor
open Go.RowKit Go.Shelf
attribute [local go_sem] Oper.semAt_some errV_0
def Its (w : World) (v : Value) (its : List It) : Prop :=
 ∃ A cap, v = .slice A its.length cap /\ its.length <= cap /\ ∀ (i : Nat) (it : It), its[i]? = some it -> ∃ b off fv, A = some ⟨b, off, none⟩ /\ b < w.heap.size /\
  w.cell? ⟨b, off + i * 3, none⟩ = some (.int .i64 it.kind) /\ w.cell? ⟨b, off + i * 3 + 1, none⟩ = some (.string (B it.raw)) /\ w.cell? ⟨b, off + i * 3 + 1 + 1, none⟩ = some fv /\ Flds w fv it.fields
theorem ParserV.its {w : World} {T : Nat -> Nat} {R b : Nat} {text : ByteArray} {p : PS} {V : PV} (h : ParserV w T R b text p V) : Its w V.v3 p.items := by
  rcases Joins.ownsRow_forms h.r3 with ⟨e, hn⟩ | ⟨g, cap, e⟩
  . have : p.items = [] := List.length_eq_zero_iff.1 hn
    rw [e, this]
    exact ⟨none, 0, rfl, Nat.le_refl _, fun i it hi => by simp at hi⟩
  refine ⟨some ⟨g, 0, none⟩, cap, e, (by rcases h.r3.2 with ⟨q, _⟩ | ⟨g', cap', cur, q, _, _, q2, _⟩; · rw [e] at q; cases q
                                         rw [e] at q; cases q; exact q2), fun i it hi => ?_⟩
  have hlt : i < p.items.length := by
    rcases Nat.lt_or_ge i p.items.length with q | q
    . exact q
    rw [List.getElem?_eq_none q] at hi; cases hi
  obtain ⟨fv, hfv⟩ : ∃ fv, V.fvs[i]? = some fv := ⟨_, List.getElem?_eq_getElem (by rw [h.nf]; exact hlt)⟩
  obtain ⟨a0, a1, a2⟩ := itemsCells_at _ _ i it fv hi hfv
  have hr := h.r3
  rw [e] at hr
  refine ⟨g, 0, fv, rfl, (World.ownsRow.lt hr g rfl).2, ?_, ?_, ?_, flds_of_own (h.rf i it fv hi hfv).1⟩
  . rw [Nat.zero_add, World.ownsRow.cellAt hr (i * 3) (by omega)]; exact a0
  . rw [Nat.zero_add, World.ownsRow.cellAt hr (i * 3 + 1) (by omega)]; exact a1
  rw [Nat.zero_add, World.ownsRow.cellAt hr (i * 3 + 1 + 1) (by omega)]; exact a2
def NilI (w : World) (v : Value) (its : List It) : Prop := ∀ (i : Nat) (b off : Nat) (n cap m c : Nat), v = .slice (some ⟨b, off, none⟩) n cap -> i < its.length -> w.cell? ⟨b, off + i * 3 + 1 + 1, none⟩ = some (.slice none m c) -> c = 0
theorem ParserV.nil {w : World} {T : Nat -> Nat} {R b : Nat} {text : ByteArray} {p : PS} {V : PV} (h : ParserV w T R b text p V) : NilI w V.v3 p.items := by
 intro i b off n cap m c e hlt hcell
 obtain ⟨it, hi⟩ : ∃ it, p.items[i]? = some it := ⟨_, List.getElem?_eq_getElem hlt⟩
 obtain ⟨fv, hfv⟩ : ∃ fv, V.fvs[i]? = some fv := ⟨_, List.getElem?_eq_getElem (by rw [h.nf]; exact hlt)⟩
 obtain ⟨_, _, a2⟩ := itemsCells_at _ _ i it fv hi hfv
 have hr := h.r3
 rcases Joins.ownsRow_forms hr with ⟨e', hn⟩ | ⟨g, cap', e'⟩
 ·omega
 rw [e'] at e hr
 cases e
 rw [Nat.zero_add, World.ownsRow.cellAt hr (i * 3 + 1 + 1) (by omega), a2] at hcell
 cases hcell
 rcases (h.rf i it _ hi hfv).1.2 with ⟨q, _⟩ | ⟨g', cap', cur, q, _⟩
 ·cases q; rfl
 cases q
def Parsed (w : World) (text : List UInt8) (e : Ending) (w' : World) : Prop :=
 Below w.heap.size w w' /\ match parseL text with
  | .error (a, n) => ∃ v, e = .returned (.tuple #[.slice none 0 0, v]) /\ FaultAt w.heap.size w' v a n
  | .ok its => ∃ v, e = .returned (.tuple #[v, .nilIface]) /\ Its w' v its /\ NilI w' v its
theorem Parsed.no {w w' : World} {text : List UInt8} {v : Value} {a n : Nat} (h : parseL text = .error (a, n)) (hb : Below w.heap.size w w') (hf : FaultAt w.heap.size w' v a n) : Parsed w text (.returned (.tuple #[.slice none 0 0, v])) w' :=
 ⟨hb, by rw [h]; exact ⟨v, rfl, hf⟩⟩
theorem Parsed.yes {w w' : World} {text : List UInt8} {v : Value} {its : List It} (h : parseL text = .ok its) (hb : Below w.heap.size w w') (hf : Its w' v its /\ NilI w' v its) : Parsed w text (.returned (.tuple #[v, .nilIface])) w' :=
 ⟨hb, by rw [h]; exact ⟨v, rfl, hf⟩⟩
theorem parseOut {Q : Ending -> World -> Prop} (w W : World) (v e : Value) (tmps : Array Value) (hO : Out w W v e) (hv1 : v.oneCell' = true) (he1 : e.oneCell' = true) (hK : W.heap[w.heap.size + 4]? = some (.deferred (some []))) (t2 : tmps[2]? = some (.pointer (some ⟨w.heap.size, 0, none⟩))) (t3 : tmps[3]? = some (.pointer (some ⟨w.heap.size + 1, 0, none⟩)))
  (hQ : Below w.heap.size w (W.putObj (w.heap.size + 4) (.deferred none)) -> Q (.returned (.tuple #[v, e])) (W.putObj (w.heap.size + 4) (.deferred none))) :
  bodyPostM Fence.wide 9 Tryz.prog Tryz.f27 Q .ret { tmps := tmps, defers := [{ target := .collected (w.heap.size + 4), args := #[] }] } W := by
 obtain ⟨h4, h5, hB⟩ := hO
 have p1 := grownBy_putObj' W (w.heap.size + 4) (.deferred none)
 have r4 : Cells (W.putObj (w.heap.size + 4) (.deferred none)) w.heap.size 61 #[v] := (p1.block _ h4.lt (fun e => by have := Option.some.inj e; omega)).trans h4
 have r5 : Cells (W.putObj (w.heap.size + 4) (.deferred none)) (w.heap.size + 1) 28 #[e] := (p1.block _ h5.lt (fun e => by have := Option.some.inj e; omega)).trans h5
 have c4 : (W.putObj (w.heap.size + 4) (.deferred none)).cell? ⟨w.heap.size, 0, none⟩ = some v := r4.cell 0
 have c5 : (W.putObj (w.heap.size + 4) (.deferred none)).cell? ⟨w.heap.size + 1, 0, none⟩ = some e := r5.cell 0
 refine ⟨by simp, .inl ⟨_, _, rfl, run_takeDeferred hK, ?_⟩⟩
 exact ⟨.tuple #[v, e], by simp [results, Tryz.f27, go_sem, t2, t3, c4, c5], hQ (hB.trans (belowK_b (w := w) (Nat.le_refl _) W _ _ _ (by omega) hK rfl rfl))⟩
theorem linesOn_pos : ∀ (n no at_ : Nat) (l : List UInt8), l.length <= n -> ∀ x ∈ linesOn no at_ l, 1 <= x.bytes.length
 | 0, _, _, l, h, x, hx => by
  have : l = [] := List.length_eq_zero_iff.1 (by omega)
  subst this
  rw [linesOn_nil] at hx; cases hx
 | n + 1, no, at_, l, h, x, hx => by
  by_cases hl : l = []
  ·subst hl; rw [linesOn_nil] at hx; cases hx
  have hp := used_pos l hl
  rw [linesOn_cons _ _ _ hl] at hx
  rcases List.mem_cons.1 hx with rfl | hx
  ·have : (Ln.bytes ⟨no, at_, head l, nl l⟩).length = used l := by
    unfold Ln.bytes used; simp only [List.length_append]; split <;> rfl
   omega
  exact linesOn_pos n _ _ _ (by simp only [List.length_drop]; omega) x hx
theorem bytes_ge : ∀ (pre : List Ln), (∀ x ∈ pre, 1 <= x.bytes.length) -> pre.length <= (pre.flatMap Ln.bytes).length
 | [], _ => Nat.le_refl _
 | x :: pre, h => by
  have ih := bytes_ge pre (fun y hy => h y (List.mem_cons_of_mem _ hy))
  have := h x List.mem_cons_self
  rw [List.flatMap_cons, List.length_append, List.length_cons]; omega
theorem parse_any (s : ByteArray) (hs : s.size <= 60000) (w : World) :
  Calls Tryz.prog 27 #[.string s] w fun e w' => Parsed w s.data.toList e w' := by
 obtain ⟨xs, hxs⟩ : ∃ xs, linesOf s.data.toList = xs := ⟨_, rfl⟩
 have HXS := Lib.hid hxs
 have hat := fun pre x post (e : xs = pre ++ x :: post) => linesOf_at s.data.toList pre x post (hxs.trans e)
 have HAT := Lib.hid hat
 have hj : (xs.flatMap Ln.bytes) = s.data.toList := by rw [<- hxs]; exact linesOf_join _
 have hjl : (xs.flatMap Ln.bytes).length = s.size := by rw [hj, <- Lib.size_eq]
 have HJL := Lib.hid hjl
 have hpos : ∀ x ∈ xs, 1 <= x.bytes.length := by rw [<- hxs]; exact linesOn_pos _ 0 0 _ (Nat.le_refl _)
 have HPOS := Lib.hid hpos
 clear hxs hat hjl hj hpos
 refine callsIn_wide (n := 9).1 ?_
 refine callsIn_of_wp_marks Tryz.func27 rfl trivial ?_ rfl
 simp only [Tryz.ntmps27, List.size_toArray, List.length_cons, List.length_nil, Nat.reduceAdd, Nat.reduceSub, Array.replicate_succ, Array.replicate_zero, List.push_toArray, List.append_toArray, List.nil_append, List.cons_append]
 gi_wp2_with fail
 refine ⟨trivial, (callsIn_wide.2 (split_any s _)).mono ?_⟩
 rintro e w3 ⟨rfl, rfl⟩
 gi_wp2_with fail
 have k7 := boxNew4 w (.cells #[.slice none 0 0] 61) (.cells #[.nilIface] 28) (.cells #[.int .i64 0, .slice none 0 0, .string s, .slice none 0 0, .int .i64 0, .int .i64 0, .slice none 0 0] 104) 9 (.string s)
 have HH := split_hands s (w.heap.size + 3) _ k7 (by omega)
 rw [HXS.out] at HH
 have n0 := ParserV.new ((w.alloc (.cells #[.slice none 0 0] 61)).alloc (.cells #[.nilIface] 28)) s (w.heap.size + 2) (by simp)
 rw [World.size_alloc, World.size_alloc] at n0
 change ParserV _ (fun k => if k = w.heap.size + 2 then 1 else 0) _ (w.heap.size + 2) _ _ _ at n0
 have o0 : Out w ((((w.alloc (.cells #[.slice none 0 0] 61)).alloc (.cells #[.nilIface] 28)).alloc (.cells #[.int .i64 0, .slice none 0 0, .string s, .slice none 0 0, .int .i64 0, .int .i64 0, .slice none 0 0] 104)).alloc (.cells #[.string s] 9)) (.slice none 0 0) .nilIface := by
  have h1 := Cells.new (w.alloc (.cells #[.slice none 0 0] 61)) 28 #[.nilIface]
  rw [World.size_alloc] at h1
  exact ⟨(((Cells.new w _ _).alloc _).alloc _).alloc _, (h1.alloc _).alloc _, ((((Below.refl _ w).alloc (Nat.le_refl _) _).alloc (by simp) _).alloc (by simp; omega) _).alloc (by simp; omega) _⟩
 have init : InvP w s [] ((((w.alloc (.cells #[.slice none 0 0] 61)).alloc (.cells #[.nilIface] 28)).alloc (.cells #[.int .i64 0, .slice none 0 0, .string s, .slice none 0 0, .int .i64 0, .int .i64 0, .slice none 0 0] 104)).alloc (.cells #[.string s] 9)) :=
  ⟨o0, _, PS.new, rfl, Inv.new, ParserAt.below ⟨_, n0⟩ ((Below.refl _ _).alloc (Nat.le_refl _) _), fun k h1 h2 => if_neg (by omega)⟩
 have hz : ((((w.alloc (.cells #[.slice none 0 0] 61)).alloc (.cells #[.nilIface] 28)).alloc (.cells #[.int .i64 0, .slice none 0 0, .string s, .slice none 0 0, .int .i64 0, .int .i64 0, .slice none 0 0] 104)).alloc (.cells #[.string s] 9)).heap.size = w.heap.size + 4 := by simp
 refine wp_rangedA (gf := 98) (lb := #[.pointer (some ⟨w.heap.size + 3, 0, none⟩)]) rfl (enters_of Tryz.func98 (by kernel_rfl) rfl) HH (fun _ => rfl)
  (InvP w s) (OutP w s) (by rw [hz]; exact fun pre W W' h ht => h.turned ht (by omega) (by omega)) (fun c pre W W' h ht => h.turned ht (by rw [hz]; omega) (by rw [hz]; omega)) init
  (fun a pre x a' W => ∃ Bx, w.heap.size + 9 <= Bx /\ a' = { tmps := (a.tmps.setIfInBounds 16 (.agg (lineV x))).setIfInBounds 5 (.pointer (some ⟨Bx, 0, none⟩)), defers := [] } /\ Cells W Bx 99 (lineV x) /\ InvP w s pre W)
  ?hM ?assign ?body ?done ?stop
 case hM =>
  rw [hz]
  rintro a pre x a' _ W W' ⟨Bx, h1, h2, h3, h4⟩ ht
  exact ⟨Bx, h1, h2, (ht.same Bx h3.lt (.inr (by omega))).trans h3, h4.turned ht (by omega) (by omega)⟩
 case assign =>
  rw [hz]
  intro l pre x post W hx hsz hi
  clear hx
  dsimp only [lineV]
  gi_wp2
  exact ⟨(Stay.refl _ _ W).alloc hsz _, W.heap.size, by omega, rfl, Cells.new _ _ _, hi.alloc _⟩
 case body =>
  rw [hz]
  rintro l pre x post a' W hx hsz ⟨Bx, hB, rfl, hc, hO, T, p, hr, hi, hp, hT⟩
  obtain ⟨hno, hat⟩ := HAT.out pre x post hx
  rw [<- hat] at hi
  have hsum := HJL.out
  rw [hx, List.flatMap_append, List.flatMap_cons, List.length_append, List.length_append, <- hat] at hsum
  have hge := bytes_ge pre (fun y hy => HPOS.out y (by rw [hx]; exact List.mem_append_left _ hy))
  rw [<- hno, <- hat] at hge
  have hR : w.heap.size + 2 <= W.heap.size := by omega
  have TK := take_any hp hR x hi (by omega) hs hge
  have HR := Lib.hid hr
  have HI := Lib.hid hi
  have HX := Lib.hid (show x.at_ = (pre.flatMap Ln.bytes).length from hat)
  clear hx hr hi hat hsum hno
  simp only [List.setIfInBounds_toArray, List.set_cons_zero, List.set_cons_succ, lineV] at hc ⊢
  have q0 : W.cell? ⟨Bx, 0, none⟩ = some (.int .i64 x.no) := hc.cell 0
  have q1 : W.cell? ⟨Bx, 1, none⟩ = some (.int .i64 x.at_) := hc.cell 1
  have q2 : W.cell? ⟨Bx, 2, none⟩ = some (.string ⟨x.text.toArray⟩) := hc.cell 2
  have q3 : W.cell? ⟨Bx, 3, none⟩ = some (.bool x.ended) := hc.cell 3
  have stay : ∀ W1, Only (fun r => T r ≠ 0) W W1 -> Stay (w.heap.size + 4) 5 W W1 := fun W1 ho => ⟨ho.size, fun r h1 h2 => ho.same r (by omega) (fun hn => hn (hT r (by omega) (by omega)))⟩
  have hTR : ∀ r, T r ≠ 0 -> w.heap.size + 2 <= r := fun r hr => by obtain ⟨V, hv⟩ := hp; exact (hv.low r hr).1
  gi_wp2_with fail
  refine ⟨trivial, ((callsIn_wide.2 TK).inRound l).mono ?_⟩
  rintro e W1 ht
  unfold Taken at ht
  cases htk : takeP s.data.toList p x with
  | error an =>
   obtain ⟨a, n⟩ := an
   rw [htk] at ht
   obtain ⟨v, rfl, hf, ho⟩ := ht
   have hrn := runP_snoc_no HR.out htk
   obtain ⟨q, hq, rfl, hqc⟩ := hf
   have hO1 := hO.only ho hTR
   have c2 : W1.cell? ⟨w.heap.size, 0, none⟩ = some (.slice none 0 0) := hO1.1.cell 0
   have f2 := hO1.1.frozen 0
   have c3 : W1.cell? ⟨w.heap.size + 1, 0, none⟩ = some .nilIface := hO1.2.1.cell 0
   have f3 := hO1.2.1.frozen 0
   have hst := stay W1 ho
   clear TK hO hc
   gi_wp2
   refine ⟨(hst.setCell (.inl (by show w.heap.size < _; omega)) _).setCell (.inl (by show w.heap.size + 1 < _; omega)) _, rfl, a, n, _, hrn, hO1.set _ _, q, by omega, rfl, ?_⟩
   exact Cells.other (Cells.other hqc (by show q ≠ w.heap.size; omega) _) (by show q ≠ w.heap.size + 1; omega) _
  | ok p' =>
  rw [htk] at ht
  obtain ⟨rfl, T', hp', hst⟩ := ht
  have hrn := runP_snoc HR.out htk
  obtain ⟨hi', _⟩ := Inv.take HI.out hge htk
  clear TK hc
  gi_wp2
  refine ⟨stay W1 hst.only, hO.only hst.only hTR, T', p', hrn, ?_, hp', fun r h1 h2 => (hst.old r (by omega)).2 (hT r h1 h2)⟩
  rw [List.flatMap_append, List.length_append, <- HX.out]
  simpa using hi'
 case done =>
  rw [hz]
  rintro W ⟨hO, T, p, hr, hi, hp, hT⟩ hmark
  have zW : w.heap.size + 4 < W.heap.size := (Array.getElem?_eq_some_iff.1 hmark).1
  rw [HJL.out] at hi
  have hTR : ∀ r, T r ≠ 0 -> w.heap.size + 2 <= r := fun r hr => by obtain ⟨V, hv⟩ := hp; exact (hv.low r hr).1
  have EF := endField_any hp (by omega) (by have := hi.said; omega) (by have := hi.fields; omega)
  have PL : Hid (parseL s.data.toList = lastP s.data.toList p) := by
   show _ = _
   unfold parseL; rw [HXS.out, hr]
  have HI := Lib.hid hi.endField
  have h4 : T (w.heap.size + 4) = 0 := hT _ (by omega) (by omega)
  have l0 := hp.lt
  clear hr hi hp
  gi_wp2_with fail
  refine ⟨trivial, (callsIn_wide.2 EF).mono ?_⟩
  rintro e W1 hE
  unfold EndField at hE
  by_cases h0 : endFieldN p = 0
  ·rw [if_pos h0] at hE
   obtain ⟨rfl, T1, g1, s1⟩ := hE
   have hO1 := hO.only s1.only hTR
   have hm1 := (s1.only.same _ zW (fun e => e h4)).trans hmark
   have h41 := (s1.old _ zW).2 h4
   have hTR1 : ∀ r, T1 r ≠ 0 -> w.heap.size + 2 <= r := fun r hr => by obtain ⟨V, hv⟩ := g1; exact (hv.low r hr).1
   have zW1 := s1.only.size
   have e0 := endField_at p
   have hat := HI.out.at_
   have EB := endBlock_any g1 (by omega) s.size hat (Nat.le_refl _) (by omega) (by have := HI.out.items; omega) (by have := HI.out.stanzas; omega)
   have l1 := g1.lt
   have PY : Hid (parseL s.data.toList = .ok (endBlockP s.data.toList (endFieldP p) s.size).items) := by
    show _ = _
    rw [PL.out]; unfold lastP; rw [if_neg (by simpa using h0), <- Lib.size_eq]
   clear EF hO hmark HI PL g1
   gi_wp2_with fail
   refine ⟨trivial, (callsIn_wide.2 EB).mono ?_⟩
   rintro e W2 ⟨rfl, T2, ⟨V2, g2⟩, s2⟩
   have hO2 := hO1.only s2.only hTR1
   have hm2 := (s2.only.same _ (by omega) (fun e => e h41)).trans hm1
   obtain ⟨a3, c3, e3, _⟩ := own_slice g2.r3
   have hits := g2.its
   have q3 : W2.cell? ⟨w.heap.size + 1 + 1, 3, none⟩ = some (.slice a3 (endBlockP s.data.toList (endFieldP p) s.size).items.length c3) := by rw [<- e3]; exact g2.cells.cell 3
   have l2 := g2.lt
   have c2 : W2.cell? ⟨w.heap.size, 0, none⟩ = some (.slice none 0 0) := hO2.1.cell 0
   have f2 := hO2.1.frozen 0
   have c3' : W2.cell? ⟨w.heap.size + 1, 0, none⟩ = some .nilIface := hO2.2.1.cell 0
   have f3 := hO2.2.1.frozen 0
   rw [e3] at hits
   have HITS := Lib.hid hits
   have hT2 : T2 (w.heap.size + 4) = 0 := (s2.old _ (by omega)).2 h41
   have HG := Lib.hid (fun W' (hs : ∀ k, T2 k ≠ 0 -> W'.heap[k]? = W2.heap[k]?) hz => And.intro (g2.same (w' := W') hs hz).its (g2.same (w' := W') hs hz).nil)
   have hlow2 : ∀ r, T2 r ≠ 0 -> w.heap.size + 2 <= r := fun r hr => (g2.low r hr).1
   rw [e3] at HG
   clear EB hits g2
   gi_wp2
   refine parseOut w _ (.slice a3 (endBlockP s.data.toList (endFieldP p) s.size).items.length c3) .nilIface _ (hO2.set _ _) rfl rfl ?_ rfl rfl fun hb => .yes PY.out hb (HG.out _ ?_ ?_)
   ·exact (Below.heap_setCell _ _ _ _ (by show w.heap.size + 4 ≠ w.heap.size + 1; omega)).trans ((Below.heap_setCell _ _ _ _ (by show w.heap.size + 4 ≠ w.heap.size; omega)).trans hm2)
   ·intro k hk
    have h1 := hlow2 k hk
    rw [World.putObj_heap_other (by rintro rfl; exact hk hT2)]
    exact (Below.heap_setCell _ _ _ _ (by show k ≠ w.heap.size + 1; omega)).trans (Below.heap_setCell _ _ _ _ (by show k ≠ w.heap.size; omega))
   simp [World.setCell]
  rw [if_neg h0] at hE
  obtain ⟨v, rfl, ⟨q, hq, rfl, hqc⟩, hb1⟩ := hE
  have hO1 : Out w W1 (.slice none 0 0) .nilIface := ⟨hO.1.below hb1 hO.1.lt, hO.2.1.below hb1 hO.2.1.lt, hO.2.2.trans (hb1.mono hO.2.2.size)⟩
  have hm1 := (hb1.block _ zW).trans hmark
  have c2 : W1.cell? ⟨w.heap.size, 0, none⟩ = some (.slice none 0 0) := hO1.1.cell 0
  have f2 := hO1.1.frozen 0
  have c3' : W1.cell? ⟨w.heap.size + 1, 0, none⟩ = some .nilIface := hO1.2.1.cell 0
  have f3 := hO1.2.1.frozen 0
  have PN : Hid (parseL s.data.toList = .error (p.begin_, endFieldN p)) := by
   show _ = _
   rw [PL.out]; unfold lastP; rw [if_pos h0]
  clear EF hO hmark HI PL
  gi_wp2
  refine parseOut w _ (.slice none 0 0) (.iface 68 (.pointer (some ⟨q, 0, none⟩))) _ (hO1.set _ _) rfl rfl ?_ rfl rfl fun hb => .no PN.out hb ⟨q, by omega, rfl, ?_⟩
  ·exact (Below.heap_setCell _ _ _ _ (by show w.heap.size + 4 ≠ w.heap.size + 1; omega)).trans ((Below.heap_setCell _ _ _ _ (by show w.heap.size + 4 ≠ w.heap.size; omega)).trans hm1)
  exact (World.putObj_heap_other (by omega)).trans (Cells.other (Cells.other hqc (by show q ≠ w.heap.size; omega) _) (by show q ≠ w.heap.size + 1; omega) _)
 case stop =>
 rw [hz]
 rintro c pre W hpre ⟨rfl, a, n, v, hr, hO, ⟨q, hq, rfl, hqc⟩⟩ hmark
 have PN : Hid (parseL s.data.toList = .error (a, n)) := by
  show _ = _
  unfold parseL; rw [HXS.out, runP_stop hr hpre]
 gi_wp2
 refine parseOut w _ (.slice none 0 0) (.iface 68 (.pointer (some ⟨q, 0, none⟩))) _ hO rfl rfl hmark rfl rfl fun hb => .no PN.out hb ⟨q, by omega, rfl, ?_⟩
 exact (World.putObj_heap_other (by omega)).trans hqc
end Go.Proofs.YtbkeoiefolkjfaaGreatDoor
namespace Go.Proofs.YtbkeoiefolkjfaaGreatDoor
open Go.RowKit Go.Shelf
theorem assertErrF (q : Option Addr) (w : World) : (Instr.typeAssert (.iface 68 (.pointer q)) 28 57 true).run Tryz.prog w = .ok (.tuple #[.int .i64 0, .bool false]) w := by kernel_rfl
theorem assertFaultF (q : Option Addr) (w : World) : (Instr.typeAssert (.iface 68 (.pointer q)) 28 68 true).run Tryz.prog w = .ok (.tuple #[.pointer q, .bool true]) w := by kernel_rfl
theorem assertFaultE (n : Int) (w : World) : (Instr.typeAssert (.iface 57 (.int .i64 n)) 28 68 true).run Tryz.prog w = .ok (.tuple #[.pointer none, .bool false]) w := by kernel_rfl
theorem assertFault0 (w : World) : (Instr.typeAssert .nilIface 28 68 true).run Tryz.prog w = .ok (.tuple #[.pointer none, .bool false]) w := by kernel_rfl
theorem assertErrN (n : Int) (w : World) : (Instr.typeAssert (.iface 57 (.int .i64 n)) 28 57 true).run Tryz.prog w = .ok (.tuple #[.int .i64 n, .bool true]) w := by kernel_rfl
attribute [local go_sem] errV_0 assertErrF assertFaultF assertFaultE assertFault0 assertErrN
theorem num_fault {lo : Nat} {w : World} {v : Value} {a n : Nat} (h : FaultAt lo w v a n) (h1 : n ≠ 0) (h2 : n <= 1000) : Calls Tryz.prog 12 #[v] w fun e w' => e = .returned (.int .i64 n) /\ w = w' := by
 obtain ⟨q, _, rfl, hc⟩ := h
 have c1 : w.cell? ⟨q, 1, none⟩ = some (.iface 57 (.int .i64 n)) := by rw [hc.cell 1]; show some (errV n) = _; rw [errV_pos n (by omega)]
 have hl := hc.lt
 have hne : ((n : Int) != 0) = true := by simp; omega
 have hne2 : ((n : Int) == 0) = false := by simp; omega
 clear hc h1
 go_enter Tryz.func12, Tryz.ntmps12
 go_wp2
 refine wp_loop_rounds 2 ?_
 rw [rounds_succ]
 go_wp2
 rw [rounds_succ]
 go_wp2
 go_ret
 exact ⟨rfl, rfl⟩
theorem at_fault {lo : Nat} {w : World} {v : Value} {a n : Nat} (h : FaultAt lo w v a n) : Calls Tryz.prog 13 #[v] w fun e w' => e = .returned (.int .i64 a) /\ w = w' := by
 obtain ⟨q, _, rfl, hc⟩ := h
 have c0 : w.cell? ⟨q, 0, none⟩ = some (.int .i64 a) := hc.cell 0
 have hl := hc.lt
 clear hc
 go_enter Tryz.func13, Tryz.ntmps13
 go_wp2
 go_ret
 exact ⟨rfl, rfl⟩
theorem at_nil (w : World) : Calls Tryz.prog 13 #[.nilIface] w fun e w' => e = .returned (.int .i64 (-9)) /\ w = w' := by
 go_enter Tryz.func13, Tryz.ntmps13
 go_wp2
 go_ret
 exact ⟨rfl, rfl⟩
theorem at_err (n : Int) (w : World) : Calls Tryz.prog 13 #[.iface 57 (.int .i64 n)] w fun e w' => e = .returned (.int .i64 (-9)) /\ w = w' := by
 go_enter Tryz.func13, Tryz.ntmps13
 go_wp2
 go_ret
 exact ⟨rfl, rfl⟩
end Go.Proofs.YtbkeoiefolkjfaaGreatDoor
namespace Go.Proofs.YtbkeoiefolkjfaaGreatDoor
open Go.RowKit Go.Shelf
theorem unfold_zero {ls : List (List UInt8)} (h : unfoldN ls = 0) : checkN (unfoldK ls) (unfoldV ls) = 0 /\ (unfoldK ls).length <= 32 /\ (unfoldV ls).length <= 1000 := by
 cases hF : sayF ls with
 | false => rw [(unfold_no hF).1] at h; cases h
 | true =>
 by_cases hl : (saidV ls).length <= 1000
 ·obtain ⟨a, r, rfl, hka, _⟩ := sayF_parts hF
  obtain ⟨_, e2, e3⟩ := unfold_yes hF hl
  have hg : goodKey (before a) = true := (kind4 hka).2.2
  rw [e2, e3]
  exact ⟨by unfold checkN; rw [hg, if_pos rfl, if_pos hl], (good_parts hg).2.1, hl⟩
 rw [(unfold_long hF hl).1] at h; cases h
attribute [local go_sem] errV_0
end Go.Proofs.YtbkeoiefolkjfaaGreatDoor
namespace Go.Proofs.YtbkeoiefolkjfaaGreatDoor
open Go.RowKit Go.Shelf
theorem laid240 : Lays.n240 Tryz.prog Tryz.lays156_ren := { Tryz.lays156 with }
def Bld (b R : Nat) (l : List UInt8) (W : World) : Prop :=
 ∃ p v, W.heap[b]? = some (.cells #[p, v] 133 (0, 0)) /\ (p = .pointer none \/ p = .pointer (some ⟨b, 0, none⟩)) /\ W.ownsRow R 5 1 v l.length (Lib.byteCells l)
structure Wrote (b R : Nat) (W W' : World) : Prop where
 os : W'.os = W.os
 tape : W'.tape = W.tape
 output : W'.output = W.output
 size : W.heap.size <= W'.heap.size
 same : ∀ r, r < R -> r < W.heap.size -> r ≠ b -> W'.heap[r]? = W.heap[r]?
 others : Lib.OthersKept 5 (some b) W W'
theorem Wrote.refl (b R : Nat) (W : World) : Wrote b R W W := ⟨rfl, rfl, rfl, Nat.le_refl _, fun _ _ _ _ => rfl, Lib.OthersKept.refl _ _ _⟩
theorem Wrote.trans {b R : Nat} {X Y Z : World} (h : Wrote b R X Y) (g : Wrote b R Y Z) : Wrote b R X Z :=
 ⟨g.os.trans h.os, g.tape.trans h.tape, g.output.trans h.output, Nat.le_trans h.size g.size, fun r a c e => (g.same r a (Nat.lt_of_lt_of_le c h.size) e).trans (h.same r a c e), h.others.trans g.others⟩
theorem Wrote.grown {b R : Nat} {X Y Z : World} (h : Wrote b R X Y) {row : Option Nat} (hg : Y.grownBy Z row) (hr : ∀ r, row = some r -> R <= r /\ ∃ c fz, Y.heap[r]? = some (.cells c 5 fz)) : Wrote b R X Z :=
 h.trans ⟨hg.os, hg.tape, hg.output, hg.size, fun r a c e => hg.block r c (fun e2 => by have := (hr r e2.symm).1; omega), (Lib.OthersKept.refl _ _ _).grown hg (fun g e => (hr g e).2)⟩
theorem Wrote.put {b R : Nat} {X Y : World} (h : Wrote b R X Y) (j : Nat) (u : Value) : Wrote b R X (Y.setCell ⟨b, j, none⟩ u) :=
 h.trans ⟨rfl, rfl, rfl, by simp [World.setCell], fun r _ _ e => Below.heap_setCell _ _ _ _ e, Lib.OthersKept.setCell (b := b) (Lib.OthersKept.refl _ _ Y) ⟨b, j, none⟩ rfl u⟩
theorem Wrote.other {b R c : Nat} {X Y : World} {cs : Array Value} {t : TypeId} (h : Wrote b R X Y) (hc : X.heap[c]? = some (.cells cs t (0, 0))) (hne : c ≠ b) (ht : t ≠ 5) : Y.heap[c]? = some (.cells cs t (0, 0)) :=
 h.others c _ hc (fun e => hne (Option.some.inj e)) (fun c' fz e => ht (by injection e))
theorem Wrote.alloc {b R : Nat} {X Y : World} (h : Wrote b R X Y) (o : Obj) : Wrote b R X (Y.alloc o) :=
 h.grown (World.grownBy_alloc Y o none) (fun r e => by cases e)
theorem Wrote.below {b R n : Nat} {X Y : World} (h : Wrote b R X Y) (hb : n <= b) (hR : n <= R) (hs : n <= X.heap.size) : Below n X Y :=
 ⟨h.os, h.tape, h.output, h.size, fun r a => h.same r (by omega) (by omega) (by omega)⟩
theorem Wrote.stay {b R B k : Nat} {X Y : World} (h : Wrote b R X Y) (hb : b < B) (hR : B + k <= R) (hs : B + k <= X.heap.size) : Stay B k X Y :=
 ⟨h.size, fun r a c => h.same r (by omega) (by omega) (by omega)⟩
theorem Wrote.box {b R c : Nat} {X Y : World} {t : TypeId} {v : Value} (h : Wrote b R X Y) (hv : Boxed X c t v) (hc : c < R) (hne : c ≠ b) : Boxed Y c t v :=
 (h.same c hc hv.lt hne).trans hv
theorem Bld.lt {b R : Nat} {l : List UInt8} {W : World} (h : Bld b R l W) : b < W.heap.size := by
 obtain ⟨p, v, hb, _⟩ := h
 exact (Array.getElem?_eq_some_iff.1 hb).1
theorem Bld.alloc {b R : Nat} {l : List UInt8} {W : World} (h : Bld b R l W) (o : Obj) : Bld b R l (W.alloc o) := by
 have hlt := h.lt
 obtain ⟨p, v, hb, hp, hv⟩ := h
 exact ⟨p, v, (Below.heap_alloc _ _ _ hlt).trans hb, hp, hv.alloc _⟩
theorem Bld.new (w : World) (R : Nat) : Bld w.heap.size R [] (w.alloc (.cells #[.pointer none, .slice none 0 0] 133)) :=
 ⟨_, _, World.alloc_heap_new w _, .inl rfl, by simp [Lib.byteCells], .inl ⟨rfl, rfl⟩⟩
theorem Bld.turned {b R B k : Nat} {l : List UInt8} {W W' : World} (h : Bld b R l W) (ht : Turned B k W W') (hb : b < B) (hR : B + k <= R) : Bld b R l W' := by
 have hlt := h.lt
 obtain ⟨p, v, hb', hp, hv⟩ := h
 refine ⟨p, v, (ht.same b hlt (.inl hb)).trans hb', hp, ?_⟩
 exact ht.row hv (fun g e => .inr (by have := (hv.lt g e).1; omega))
theorem Bld.library {b R B : Nat} {l : List UInt8} {W : World} (h : Bld b R l W) (hB : B <= b) (hR : B <= R) : Lib.IsBuilderF 133 5 B b (Lib.byteCells l) W := by
 obtain ⟨p, v, hb, hp, hv⟩ := h
 have hv2 : W.ownsRow B 5 1 v (Lib.byteCells l).length (Lib.byteCells l) := by
  rw [Lib.byteCells_length]
  refine ⟨hv.1, ?_⟩
  rcases hv.2 with hn | ⟨g, cap, cur, e1, e2, rest⟩
  ·exact .inl hn
  exact .inr ⟨g, cap, cur, e1, Nat.le_trans hR e2, rest⟩
 have hne : v.ownBlock ≠ some b := Lib.ownBlock_ne hv hb (by decide)
 refine Lib.IsBuilderF.of ?_
 rcases hp with rfl | rfl
 ·exact .inl ⟨hB, v, hb, hv2, hne⟩
 exact .inr ⟨hB, v, hb, hv2, hne⟩
theorem writes (b R : Nat) (l : List UInt8) (s : ByteArray) (w : World) (h : Bld b R l w) (hbR : b < R) (hR : R <= w.heap.size) (hlen : l.length + s.size <= 140737488355328) :
  Calls Tryz.prog 84 #[.pointer (some ⟨b, 0, none⟩), .string s] w fun e w' => e = .returned (.tuple #[.int .i64 s.size, .nilIface]) /\ Bld b R (l ++ s.data.toList) w' /\ Wrote b R w w' := by
 obtain ⟨i0, hi, hz0, hz1, hz2⟩ := info_parts Tryz.Builder_Extra_156.infoByte
 have hcopy : Calls Tryz.prog 121 #[.pointer (some ⟨b, 0, none⟩)] w fun e w' => e = .returned (.tuple #[]) /\ (∃ v, w'.heap[b]? = some (.cells #[.pointer (some ⟨b, 0, none⟩), v] 133 (0, 0)) /\ w'.ownsRow R 5 1 v l.length (Lib.byteCells l)) /\ Wrote b R w w' := by
  obtain ⟨p, v, hb, hp, hv⟩ := h
  have hlt : b < w.heap.size := (Array.getElem?_eq_some_iff.1 hb).1
  rcases hp with rfl | rfl
  ·refine (Any.Builder_copyCheck_fresh laid240 Tryz.Builder_Extra_156.toX72 b w ?_ ?_ ?_).mono ?_
   ·rw [Lib.cell_of_heap hb]; rfl
   ·simp [World.shape?, hb]; rfl
   ·exact Lib.frozen_of_heap hb 0
   rintro e w' ⟨rfl, rfl⟩
   refine ⟨rfl, ⟨v, ?_, ?_⟩, ?_⟩
   ·simp [World.setCell, Array.getElem?_modify, hb]
   ·exact hv.kept (grownBy_setCell' w b _) (by
     cases hvb : v.ownBlock with
     | none => exact .inl rfl
     | some g => exact .inr (fun e => by have := (hv.lt g hvb).1; have := Option.some.inj e; omega))
   exact (Wrote.refl b R w).put 0 _
  refine (Any.Builder_copyCheck_used laid240 Tryz.Builder_Extra_156.toX72 b w ?_).mono ?_
  ·rw [Lib.cell_of_heap hb]; rfl
  rintro e w' ⟨rfl, rfl⟩
  exact ⟨rfl, ⟨v, hb, hv⟩, Wrote.refl b R _⟩
 go_enter Tryz.func84, Tryz.ntmps84
 go_wp2_with (go_at_call 121; refine hcopy.mono ?_)
 rintro e w1 ⟨rfl, ⟨v, hbk, hown⟩, hw1⟩
 have c0 : w1.cell? ⟨b, 0, none⟩ = some (.pointer (some ⟨b, 0, none⟩)) := by rw [Lib.cell_of_heap hbk]; rfl
 have c1 : w1.cell? ⟨b, 1, none⟩ = some v := by rw [Lib.cell_of_heap hbk]; rfl
 go_wp2_with (at_builtin; refine Lib.wpList_append_own_string _ rfl _ _ 131 9 rfl R 5 i0 Tryz.underlying131 Tryz.underlying9 hi hz0 hz1 hz2 _ _ _ rfl hown s rfl ?c3 ?c4 ?c5 ?_)
 case c3 => unfold maxLen; omega
 case c4 => omega
 case c5 => have := hw1.size; omega
 intro v' w2 hown' hgrow _
 have hlt : b < w1.heap.size := (Array.getElem?_eq_some_iff.1 hbk).1
 have hrow : ∀ r, v.ownBlock = some r -> R <= r := fun r e => (hown.lt r e).1
 have hb2 : w2.heap[b]? = some (.cells #[.pointer (some ⟨b, 0, none⟩), v] 133 (0, 0)) := by
  rw [hgrow.block b hlt (fun e => by have := hrow b e.symm; omega)]
  exact hbk
 have d0 : w2.cell? ⟨b, 0, none⟩ = some (.pointer (some ⟨b, 0, none⟩)) := by rw [Lib.cell_of_heap hb2]; rfl
 have d1 : w2.cell? ⟨b, 1, none⟩ = some v := by rw [Lib.cell_of_heap hb2]; rfl
 have f1 : w2.frozen? ⟨b, 1, none⟩ = false := Lib.frozen_of_heap hb2 1
 obtain ⟨ao, n', cap, rfl⟩ : ∃ ao n' cap, v' = .slice ao n' cap := by
  rcases hown'.2 with ⟨hv, _⟩ | ⟨g, cap, cur, hv, _⟩
  ·exact ⟨_, _, _, hv⟩
  exact ⟨_, _, _, hv⟩
 go_wp2
 go_ret2
 have hset : w2.grownBy (w2.setCell ⟨b, 1, none⟩ (.slice ao n' cap)) (some b) :=
  ⟨rfl, rfl, rfl, by simp [World.setCell], fun k _ hk => Below.heap_setCell _ _ _ k (fun e => hk (by rw [e]))⟩
 refine ⟨rfl, ⟨.pointer (some ⟨b, 0, none⟩), .slice ao n' cap, ?_, .inr rfl, ?_⟩, ?_⟩
 ·simp [World.setCell, Array.getElem?_modify, hb2]
 ·rw [List.length_append, <- Lib.size_eq, Lib.byteCells_append, <- Lib.strCells_eq]
  refine hown'.kept hset ?_
  cases hvb : (Value.slice ao n' cap).ownBlock with
  | none => exact .inl rfl
  | some g => exact .inr (fun e => by have := (hown'.lt g hvb).1; have := Option.some.inj e; omega)
 refine (hw1.grown hgrow (fun r e => ⟨hrow r e, ?_⟩)).put 1 _
 rcases hown.2 with ⟨hn, _⟩ | ⟨g, cap, cur, hv, _, hg, _⟩
 ·rw [hn] at e; cases e
 rw [hv] at e
 cases e
 exact ⟨_, _, hg⟩
end Go.Proofs.YtbkeoiefolkjfaaGreatDoor
namespace Go.Proofs.YtbkeoiefolkjfaaGreatDoor
open Go.RowKit Go.Shelf
def foldN : List (List UInt8 × List UInt8) -> Nat
 | [] => 0
 | f :: r => if checkN f.1 f.2 = 0 then foldN r else checkN f.1 f.2
def foldG (fs : List (List UInt8 × List UInt8)) : List UInt8 := fs.flatMap fun f => textL (linesL f.1 f.2)
def foldT (fs : List (List UInt8 × List UInt8)) : List UInt8 := if foldN fs = 0 then foldG fs else []
theorem foldN_le : ∀ fs, foldN fs <= 6
 | [] => by decide
 | f :: r => by
  unfold foldN
  split
  ·exact foldN_le r
  unfold checkN; split
  ·split <;> decide
  decide
theorem checkN_zero {k v : List UInt8} (h : checkN k v = 0) : goodKey k = true /\ v.length <= 1000 := by
 unfold checkN at h
 split at h
 ·rename_i hg
  split at h
  ·rename_i hl; exact ⟨hg, hl⟩
  cases h
 cases h
theorem text_le {k v : List UInt8} (h : checkN k v = 0) : (textL (linesL k v)).length <= 4000 := by
 obtain ⟨a, b⟩ := checkN_zero h
 have c := (good_parts a).2.1
 rw [textL_len]
 have := lines_sum k v
 omega
theorem foldG_snoc (fs : List (List UInt8 × List UInt8)) (f : List UInt8 × List UInt8) : foldG (fs ++ [f]) = foldG fs ++ textL (linesL f.1 f.2) := by unfold foldG; simp
theorem textL_snoc (ls : List (List UInt8)) (x : List UInt8) : textL (ls ++ [x]) = (textL ls ++ x) ++ [10] := by unfold textL; simp
theorem textL_take (ls : List (List UInt8)) (j : Nat) : (textL (ls.take j)).length <= (textL ls).length := by
 conv => rhs; rw [<- List.take_append_drop j ls, textL_append, List.length_append]
 omega
theorem OwnS.wrote {w w' : World} {base b R : Nat} {v : Value} {ss : List ByteArray} (h : OwnS w base v ss) (hw : Wrote b R w w') {cs : Array Value} (hb : w.heap[b]? = some (.cells cs 133 (0, 0))) : OwnS w' base v ss := by
 refine ⟨h.1, ?_⟩
 rcases h.2 with hn | ⟨g, cap, cur, hv, hg, hc, rest⟩
 ·exact .inl hn
 refine .inr ⟨g, cap, cur, hv, hg, hw.other hc ?_ (by decide), rest⟩
 rintro rfl
 rw [hb] at hc
 cases hc
theorem Bld.kept {b R N : Nat} {l : List UInt8} {W W' : World} (h : Bld b R l W) (hb : Below N W W') (hN : W.heap.size <= N) : Bld b R l W' := by
 have hlt := h.lt
 obtain ⟨p, v, hb', hp, hv⟩ := h
 exact ⟨p, v, (hb.block b (by omega)).trans hb', hp, own_kept hv hb hN⟩
theorem Bld.cells {b R : Nat} {l : List UInt8} {W : World} (h : Bld b R l W) : ∃ cs, W.heap[b]? = some (.cells cs 133 (0, 0)) := by
 obtain ⟨p, v, hb', _⟩ := h
 exact ⟨_, hb'⟩
end Go.Proofs.YtbkeoiefolkjfaaGreatDoor
namespace Go.Proofs.YtbkeoiefolkjfaaGreatDoor
open Go.RowKit Go.Shelf
def minF (fs : List (List UInt8 × List UInt8)) : Nat := (fs.map fun f => min f.1.length 10000 + min f.2.length 10000).sum
theorem minF_snoc (fs : List (List UInt8 × List UInt8)) (f : List UInt8 × List UInt8) : minF (fs ++ [f]) = minF fs + (min f.1.length 10000 + min f.2.length 10000) := by unfold minF; simp
theorem minF_small : ∀ (fs : List (List UInt8 × List UInt8)), minF fs <= 6000 -> ∀ f ∈ fs, f.1.length <= 6000 /\ f.2.length <= 6000
 | [], _, f, hf => by simp at hf
 | a :: r, h, f, hf => by
  have e : minF (a :: r) = (min a.1.length 10000 + min a.2.length 10000) + minF r := rfl
  rw [e] at h
  rcases List.mem_cons.1 hf with rfl | hf
  ·omega
  exact minF_small r (by omega) f hf
structure FldsIn (w : World) (v : Value) (fs : List (List UInt8 × List UInt8)) : Prop where
 flds : Flds w v fs
 nil : ∀ n c, v = .slice none n c -> c = 0
 len : fs.length <= maxLen
 each : ∀ f ∈ fs, f.1.length <= maxLen /\ f.2.length <= maxLen
def MuchR (fs : List (List UInt8 × List UInt8)) (e : Ending) : Prop := ∃ b : Bool, e = .returned (.bool b) /\ (b = false -> fs.length <= 61 /\ (∀ f ∈ fs, f.1.length <= 6000 /\ f.2.length <= 6000) /\ minF fs <= 6000)
theorem much_any (fs : List (List UInt8 × List UInt8)) (v : Value) (w : World) (hs : Flds w v fs) (hm : fs.length <= maxLen) (he : ∀ f ∈ fs, f.1.length <= maxLen /\ f.2.length <= maxLen) :
  Calls Tryz.prog 40 #[v] w fun e w' => MuchR fs e /\ Below w.heap.size w w' := by
 obtain ⟨A, cap, rfl, hle, hc⟩ := hs
 have PC := Lib.hid hc
 have EA := Lib.hid he
 clear hc he
 unfold maxLen at hm
 go_enter Tryz.func40, Tryz.ntmps40
 go_wp2_with fail
 go_loopw [3, 8] (fun s i wr => ∃ k : Nat, k <= fs.length /\ k <= 61 /\ i = .int .i64 k /\ s = .int .i64 (minF (fs.take k) : Nat) /\ minF (fs.take k) <= 6000 /\ Below w.heap.size w wr) (fun _ i _ => fs.length - (intOf i).toNat)
 case atStart => exact ⟨0, Nat.zero_le _, by decide, rfl, rfl, by simp [minF], Below.refl _ _⟩
 case round =>
 obtain ⟨k, hk, hk61, rfl, rfl, hms, hb⟩ := hrel
 by_cases hlt : k < fs.length
 ·obtain ⟨f, hf⟩ : ∃ f, fs[k]? = some f := ⟨_, List.getElem?_eq_getElem hlt⟩
  obtain ⟨b, off, rfl, hbb, c0, c1⟩ := PC.out k f hf
  replace c0 := (hb.cell (p := ⟨b, off + k * 2, none⟩) hbb).trans c0
  replace c1 := (hb.cell (p := ⟨b, off + k * 2 + 1, none⟩) hbb).trans c1
  have T1 : Hid (minF (fs.take (k + 1)) = minF (fs.take k) + (min f.1.length 10000 + min f.2.length 10000)) := by
   show _ = _
   rw [List.take_add_one, hf]; exact minF_snoc _ _
  obtain ⟨l1, l2⟩ := EA.out f (List.mem_of_getElem? hf)
  unfold maxLen at l1 l2
  have y1 := B_size f.1
  have y2 := B_size f.2
  have m1 : ((min f.1.length 10000 : Nat) : Int) = min (f.1.length : Int) 10000 := by omega
  have m2 : ((min f.2.length 10000 : Nat) : Int) = min (f.2.length : Int) 10000 := by omega
  have hba := hb.alloc hb.size (.cells #[.string (B f.1), .string (B f.2)] 83)
  clear hf
  generalize minF (fs.take k) = m at *
  by_cases h60 : 60 < k
  ·go_wp2_with fail
   go_ret
   exact ⟨⟨true, rfl, fun h => by cases h⟩, hba⟩
  by_cases hm4 : 6000 < m + (min f.1.length 10000 + min f.2.length 10000)
  ·go_wp2_with fail
   go_ret
   exact ⟨⟨true, rfl, fun h => by cases h⟩, hba⟩
  go_wp2_with fail
  go_roundw
  case rel => exact ⟨k + 1, hlt, by omega, by go_num, by rw [T1.out, Int.natCast_add, Int.natCast_add, m1, m2], by rw [T1.out]; omega, hba⟩
  case measure => simp [intOf]; omega
 obtain rfl : k = fs.length := by omega
 rw [List.take_length] at hms
 have SM := Lib.hid (minF_small fs hms)
 clear PC EA
 go_wp2_with fail
 go_ret
 exact ⟨⟨false, rfl, fun _ => ⟨hk61, SM.out, hms⟩⟩, hb⟩
theorem fields_quiet (fs : List (List UInt8 × List UInt8)) (v v' : Value) (w : World) (h : Flds w v fs) (h' : Flds w v' fs) (hn : fs.length <= 1000000) :
  Calls Tryz.prog 49 #[v, v'] w fun e w' => e = .returned (.bool true) /\ ∃ m, w' = w.drewN m := by
 obtain ⟨A, cap, rfl, hle, hc⟩ := h
 obtain ⟨A', cap', rfl, hle', hc'⟩ := h'
 have PC := Lib.hid hc
 have PC' := Lib.hid hc'
 clear hc hc'
 go_enter Tryz.func49, Tryz.ntmps49
 go_wp2_with fail
 go_loopw [13] (fun i wr => ∃ k : Nat, k <= fs.length /\ i = .int .i64 k /\ ∃ m, wr = w.drewN m) (fun i _ => fs.length - (intOf i).toNat)
 case atStart => exact ⟨0, Nat.zero_le _, rfl, 0, rfl⟩
 case round =>
 obtain ⟨k, hk, rfl, nd, hwr⟩ := hrel
 by_cases hlt : k < fs.length
 ·obtain ⟨f, hf⟩ : ∃ f, fs[k]? = some f := ⟨_, List.getElem?_eq_getElem hlt⟩
  obtain ⟨b, off, rfl, hbb, c0, c1⟩ := PC.out k f hf
  obtain ⟨b', off', rfl, hbb', c0', c1'⟩ := PC'.out k f hf
  replace c0 : wr.cell? ⟨b, off + k * 2, none⟩ = some (.string (B f.1)) := by rw [hwr]; exact c0
  replace c1 : wr.cell? ⟨b, off + k * 2 + 1, none⟩ = some (.string (B f.2)) := by rw [hwr]; exact c1
  replace c0' : wr.cell? ⟨b', off' + k * 2, none⟩ = some (.string (B f.1)) := by rw [hwr]; exact c0'
  replace c1' : wr.cell? ⟨b', off' + k * 2 + 1, none⟩ = some (.string (B f.2)) := by rw [hwr]; exact c1'
  have HW := Lib.hid hwr
  clear hf PC PC' hwr
  generalize B f.1 = X at *
  generalize B f.2 = Y at *
  go_wp2_with (go_quiet (fail))
  go_roundw
  case rel => exact ⟨k + 1, hlt, by go_num, nd + _, by rw [HW.out]; exact World.drewN_drewN _ _ _⟩
  case measure => simp [intOf]; omega
 obtain rfl : k = fs.length := by omega
 clear PC PC'
 go_wp2_with fail
 go_ret
 exact ⟨rfl, nd, by first | rfl | exact hwr⟩
end Go.Proofs.YtbkeoiefolkjfaaGreatDoor
namespace Go.Proofs.YtbkeoiefolkjfaaGreatDoor
open Go.RowKit Go.Shelf
end Go.Proofs.YtbkeoiefolkjfaaGreatDoor
namespace Go.Proofs.YtbkeoiefolkjfaaGreatDoor
open Go.RowKit Go.Shelf
end Go.Proofs.YtbkeoiefolkjfaaGreatDoor
namespace Go.Proofs.YtbkeoiefolkjfaaGreatDoor
open Go.RowKit Go.Shelf
theorem rcellsF_at {w : World} {ad : Addr} {fs : List Fld} {cap : Nat} (hc : ∀ (i : Nat) (f : List UInt8 × List UInt8), fs[i]? = some f -> ∃ b off, some ad = some (⟨b, off, none⟩ : Addr) /\ b < w.heap.size /\ w.cell? ⟨b, off + i * 2, none⟩ = some (.string (B f.1)) /\ w.cell? ⟨b, off + i * 2 + 1, none⟩ = some (.string (B f.2))) (o : Obj) :
  ∀ (j : Nat) u, (cellsF fs)[j]? = some u -> (w.alloc o).cell? (ad.add j) = some u := by
 intro j u hu
 have hj : j < (cellsF fs).length := by
  rcases Nat.lt_or_ge j (cellsF fs).length with q | q
  ·exact q
  rw [List.getElem?_eq_none q] at hu; cases hu
 rw [cellsF_len] at hj
 have hi2 : j / 2 < fs.length := by omega
 obtain ⟨f, hf⟩ : ∃ f, fs[j / 2]? = some f := ⟨_, List.getElem?_eq_getElem hi2⟩
 obtain ⟨b, off, e, hbb, c0, c1⟩ := hc _ f hf
 obtain ⟨a1, a2⟩ := cellsF_at fs _ f hf
 cases e
 rw [WideShapes.add_plain, World.cell?_alloc_old _ _ _ (Nat.ne_of_lt hbb)]
 rcases Nat.mod_two_eq_zero_or_one j with h | h
 ·have ej : j = j / 2 * 2 := by omega
  rw [<- ej] at a1 c0
  rw [c0, <- hu, a1]
 have ej : j = j / 2 * 2 + 1 := by omega
 rw [Nat.add_assoc, <- ej] at c1
 rw [<- ej] at a2
 rw [c1, <- hu, a2]
theorem eqlNil (w : World) : (binOp BinOp.eql 38 (.slice none 0 0) (.slice none 0 0)).run Tryz.prog w = .ok (.bool true) w := by kernel_rfl
theorem eqlSome (ad : Addr) (n c : Nat) (w : World) : (binOp BinOp.eql 38 (.slice (some ad) n c) (.slice none 0 0)).run Tryz.prog w = .ok (.bool false) w := by kernel_rfl
attribute [local go_sem] eqlNil eqlSome
theorem clone_any (fs : List Fld) (v : Value) (w : World) (hs : Flds w v fs) (hnil : ∀ n c, v = .slice none n c -> c = 0) (hn : fs.length <= 1000000) :
  Calls Tryz.prog 200 #[v] w fun e w' => ∃ v', e = .returned v' /\ w'.ownsRow w.heap.size 83 2 v' fs.length (cellsF fs) /\ Below w.heap.size w w' := by
 obtain ⟨A, cap, rfl, hle, hc⟩ := hs
 obtain ⟨i0, hi, hz0, hz1, hz2⟩ := info_parts infoFld
 cases A with
 | none =>
  have he : fs = [] := by
   cases fs with
   | nil => rfl
   | cons a r => obtain ⟨b, off, e, _⟩ := hc 0 a rfl; cases e
  have hc0 := hnil _ _ rfl
  subst hc0
  subst he
  simp only [List.length_nil]
  go_enter Tryz.func200, Tryz.ntmps200
  go_wp2_with fail
  go_ret
  exact ⟨_, rfl, ⟨rfl, .inl ⟨rfl, rfl⟩⟩, Below.refl _ _⟩
 | some ad =>
 have hoN : (w.alloc (.cells #[] 83)).ownsRow w.heap.size 83 2 (.slice (some ⟨w.heap.size, 0, none⟩) 0 0) 0 [] := World.ownsRow_lit w #[] 0 (Nat.le_refl _) (by decide) rfl
 have hba := (Below.refl w.heap.size w).alloc (Nat.le_refl _) (.cells #[] 83)
 have HC := Lib.hid (rcellsF_at (cap := cap) hc (.cells #[] 83))
 have hone : ∀ u ∈ cellsF fs, u.oneCell' = true := by
  intro u hu
  unfold cellsF at hu
  simp at hu
  obtain ⟨a, b, _, h | h⟩ := hu <;> subst h <;> rfl
 have HL := cellsF_len fs
 clear hc
 generalize cellsF fs = cf at *
 go_enter Tryz.func200, Tryz.ntmps200
 go_wp2_with (at_builtin; refine wpList_append_own _ rfl _ _ 38 rfl w.heap.size 83 i0 _ 2 32 Tryz.underlying38 hi hz0 hz1 hz2 rfl (by decide) _ 0 [] rfl hoN ad fs.length cap cf rfl HL HC.out hone ?c3 ?c4 ?c5 ?_)
 case c3 => unfold maxLen; omega
 case c4 => omega
 case c5 => simp
 intro v' w3 hown' hgrow _
 have hb3 : Below w.heap.size w w3 := hba.grown hgrow (by simp) (fun j ej => (World.ownsRow.lt hoN j ej).1)
 go_wp2_with fail
 go_ret
 exact ⟨_, rfl, hown', hb3⟩
def recs (its : List It) : List (List Fld) := (its.filter fun it => it.kind == 3).map It.fields
theorem recs_snoc (its : List It) (k : Nat) (it : It) (h : its[k]? = some it) : recs (its.take (k + 1)) = recs (its.take k) ++ if it.kind = 3 then [it.fields] else [] := by
 unfold recs
 rw [List.take_add_one, h]
 simp only [Option.toList_some, List.filter_append, List.map_append]
 congr 1
 by_cases hk : it.kind = 3
 ·simp [hk]
 simp [hk]
theorem recs_len (its : List It) : (recs its).length <= its.length := by unfold recs; rw [List.length_map]; exact List.length_filter_le _ _
theorem infoFlds : (Tryz.prog.info? 38).map (fun i => (i.zero, i.size, i.bytes)) = some (some (.slice none 0 0), 1, 24) := by kernel_rfl
structure AccP (w wr : World) (v : Value) (vs : List Value) (rs : List (List Fld)) : Prop where
 row : wr.ownsRow w.heap.size 38 1 v vs.length vs
 len : vs.length = rs.length
 each : ∀ (j : Nat) x r, vs[j]? = some x -> rs[j]? = some r -> wr.ownsRow w.heap.size 83 2 x r.length (cellsF r)
 below : Below w.heap.size w wr
theorem snoc_at {α : Type} {l : List α} {a x : α} {j : Nat} (h : (l ++ [a])[j]? = some x) : (j < l.length /\ l[j]? = some x) \/ (j = l.length /\ x = a) := by
 rcases Nat.lt_or_ge j l.length with q | q
 ·rw [List.getElem?_append_left q] at h; exact .inl ⟨q, h⟩
 rw [List.getElem?_append_right q] at h
 have hz : j - l.length = 0 := by
  rcases Nat.eq_zero_or_pos (j - l.length) with z | z
  ·exact z
  rw [List.getElem?_eq_none (by simp; omega)] at h; cases h
 rw [hz] at h
 cases h
 exact .inr ⟨by omega, rfl⟩
theorem AccP.start (w : World) : AccP w w (.slice none 0 0) [] [] := ⟨⟨rfl, .inl ⟨rfl, rfl⟩⟩, rfl, fun j x r h => by simp at h, Below.refl _ _⟩
theorem AccP.kept {w wr w2 : World} {v : Value} {vs : List Value} {rs : List (List Fld)} (h : AccP w wr v vs rs) (hb : Below wr.heap.size wr w2) : AccP w w2 v vs rs :=
 ⟨own_kept h.row hb (Nat.le_refl _), h.len, fun j x r h1 h2 => own_kept (h.each j x r h1 h2) hb (Nat.le_refl _), h.below.trans (hb.mono h.below.size)⟩
theorem row73 {W w3 : World} {lo : Nat} {v x : Value} {n m : Nat} {xs ys : List Value} (hv : W.ownsRow lo 38 1 v n xs) (hx : W.ownsRow lo 83 2 x m ys) (hg : W.grownBy w3 v.ownBlock) : w3.ownsRow lo 83 2 x m ys := by
 refine row_same hx fun b hb => hg.block b (hx.lt b hb).2 (fun e => ?_)
 rcases hx.2 with ⟨rfl, _⟩ | ⟨g, cap, cur, rfl, _, hc, _⟩
 ·cases hb
 cases hb
 rcases hv.2 with ⟨rfl, _⟩ | ⟨g', cap', cur', rfl, _, hc', _⟩
 ·cases e
 have : g = g' := Option.some.inj e
 subst this
 rw [hc] at hc'
 injection hc' with hc'
 injection hc' with _ h2 _
 exact absurd h2 (by decide)
theorem AccP.snoc {w W w3 : World} {v v' x : Value} {vs : List Value} {rs : List (List Fld)} {r : List Fld} (h : AccP w W v vs rs) (hx : W.ownsRow w.heap.size 83 2 x r.length (cellsF r)) (ho : w3.ownsRow w.heap.size 38 1 v' (vs.length + 1) (vs ++ [x])) (hg : (W.alloc (.cells #[x] 38)).grownBy w3 v.ownBlock) : AccP w w3 v' (vs ++ [x]) (rs ++ [r]) := by
 have h' := h.kept ((Below.refl W.heap.size W).alloc (Nat.le_refl _) (.cells #[x] 38))
 have hx' := own_kept hx ((Below.refl W.heap.size W).alloc (Nat.le_refl _) (.cells #[x] 38)) (Nat.le_refl _)
 refine ⟨by rw [List.length_append]; exact ho, by simp [h.len], fun j y s hy hs => ?_, h'.below.grown hg h'.below.size (fun k e => (h.row.lt k e).1)⟩
 rcases snoc_at hy with ⟨q, hy⟩ | ⟨q, rfl⟩
 ·rw [List.getElem?_append_left (by rw [<- h.len]; exact q)] at hs
  exact row73 h'.row (h'.each j y s hy hs) hg
 rw [q, h.len, List.getElem?_append_right (Nat.le_refl _)] at hs
 simp at hs
 subst hs; exact row73 h'.row hx' hg
theorem valCell (W : World) (x : Value) (t : TypeId) : ∀ (j : Nat) u, [x][j]? = some u -> (W.alloc (.cells #[x] t)).cell? ((⟨W.heap.size, 0, none⟩ : Addr).add j) = some u := cells_new_add W t [x]
theorem stanzas_any (its : List It) (v : Value) (w : World) (h : Its w v its) (hnil : NilI w v its) (hn : its.length <= 1000000) (hf : ∀ it ∈ its, it.fields.length <= 1000000) :
  Calls Tryz.prog 181 #[v] w fun e w' => ∃ u vs, e = .returned u /\ AccP w w' u vs (recs its) := by
 obtain ⟨i0, hi, hz0, hz1, hz2⟩ := info_parts infoFlds
 have NI := Lib.hid hnil
 have HF := Lib.hid hf
 obtain ⟨A, cap, rfl, hle, hc⟩ := h
 have HC := Lib.hid hc
 clear hc hnil hf
 go_enter Tryz.func181, Tryz.ntmps181
 go_wp2_with fail
 go_loopw [3, 8] (fun u i wr => ∃ (k : Nat) (vs : List Value), k <= its.length /\ i = .int .i64 k /\ AccP w wr u vs (recs (its.take k))) (fun _ i _ => its.length - (intOf i).toNat)
 case atStart => exact ⟨0, [], Nat.zero_le _, rfl, AccP.start w⟩
 case round =>
 obtain ⟨k, vs, hk, rfl, hacc⟩ := hrel
 by_cases hlt : k < its.length
 ·obtain ⟨it, hit⟩ : ∃ it, its[k]? = some it := ⟨_, List.getElem?_eq_getElem hlt⟩
  obtain ⟨b, off, fv, rfl, hbb, c0, c1, c2, hfl⟩ := HC.out k it hit
  have hb := hacc.below
  have hlb := hb.size
  have rl := recs_len (its.take k)
  rw [List.length_take] at rl
  have hvl : vs.length <= 1000000 := by rw [hacc.len]; omega
  obtain ⟨fa, fc, rfl, _, _⟩ := id hfl
  have hnl : ∀ n c, Value.slice fa it.fields.length fc = .slice none n c -> c = 0 := fun n c e => by
   cases e
   exact NI.out k b off _ _ _ _ rfl hlt c2
  replace c0 := (hb.cell (p := ⟨b, off + k * 3, none⟩) hbb).trans c0
  replace c1 := (hb.cell (p := ⟨b, off + k * 3 + 1, none⟩) hbb).trans c1
  replace c2 := (hb.cell (p := ⟨b, off + k * 3 + 1 + 1, none⟩) hbb).trans c2
  have SN := Lib.hid (recs_snoc its k it hit)
  by_cases hk3 : it.kind = 3
  ·have hfw := (hfl.below hb (Nat.le_refl _)).below ((Below.refl wr.heap.size wr).alloc (Nat.le_refl _) (.cells #[.int .i64 it.kind, .string (B it.raw), .slice fa it.fields.length fc] 117)) (Nat.le_refl _)
   have CL := Lib.hid (clone_any it.fields _ _ hfw hnl (HF.out it (List.mem_of_getElem? hit)))
   have hba := (Below.refl wr.heap.size wr).alloc (Nat.le_refl _) (.cells #[.int .i64 it.kind, .string (B it.raw), .slice fa it.fields.length fc] 117)
   have ACC := Lib.hid (hacc.kept hba)
   rw [hk3] at c0 CL ACC
   clear hacc hit hfl HC hfw hba hnl NI HF
   go_wp2_with fail
   refine CL.out.mono ?_
   rintro e w2 ⟨x, rfl, hx, b2⟩
   have acc2 := ACC.out.kept b2
   have hx2 : w2.ownsRow w.heap.size 83 2 x it.fields.length (cellsF it.fields) := rowBase hx (by simp; omega)
   have hrow := acc2.row
   have ACC2 := Lib.hid acc2
   have HX2 := Lib.hid hx2
   have hlb2 := acc2.below.size
   obtain ⟨xa, xc, hxe, _⟩ := own_slice hx
   subst hxe
   have HV := Lib.hid (valCell w2 (.slice xa it.fields.length xc) 38)
   clear acc2 CL ACC b2 hx hx2
   go_wp2_with (at_builtin; refine wpList_append_own _ rfl _ _ 214 rfl w.heap.size 38 i0 _ 1 24 Tryz.underlying214 hi hz0 hz1 hz2 rfl (by decide) _ _ _ rfl (hrow.alloc _) ⟨w2.heap.size, 0, none⟩ 1 1 _ rfl rfl HV.out ?c2 ?c3 ?c4 ?c5 ?_)
   case c2 => intro u hu; simp at hu; subst hu; rfl
   case c3 => unfold maxLen; omega
   case c4 => omega
   case c5 => simp; omega
   intro v' w3 hown' hgrow _
   have hacc3 := ACC2.out.snoc HX2.out hown' hgrow
   obtain ⟨g', cap', rfl⟩ := ownsRow_succ hown'
   go_wp2_with fail
   go_roundw
   case rel => exact ⟨k + 1, _, hlt, by go_num, by rw [SN.out, if_pos hk3]; exact hacc3⟩
   case measure => simp [intOf]; omega
  have hk2 : ((it.kind : Int) == 3) = false := beq_eq_false_iff_ne.2 (by omega)
  have ACC := Lib.hid (hacc.kept ((Below.refl wr.heap.size wr).alloc (Nat.le_refl _) (.cells #[.int .i64 it.kind, .string (B it.raw), .slice fa it.fields.length fc] 117)))
  clear hacc hit hfl HC hnl NI HF
  go_wp2_with fail
  go_roundw
  case rel => exact ⟨k + 1, vs, hlt, by go_num, by rw [SN.out, if_neg hk3, List.append_nil]; exact ACC.out⟩
  case measure => simp [intOf]; omega
 obtain rfl : k = its.length := by omega
 rw [List.take_length] at hacc
 clear HC NI HF
 go_wp2_with fail
 go_ret
 exact ⟨_, vs, rfl, hacc⟩
end Go.Proofs.YtbkeoiefolkjfaaGreatDoor
namespace Go.Proofs.YtbkeoiefolkjfaaGreatDoor
open Go.RowKit Go.Shelf
end Go.Proofs.YtbkeoiefolkjfaaGreatDoor
namespace Go.Proofs.YtbkeoiefolkjfaaGreatDoor
open Go.RowKit Go.Shelf Go.Maps Go.ChangeShapes Go.Joins Go.WideShapes
theorem cells2 {cs : List Value} (h : cs.length = 2) : ∃ c0 c1, cs = [c0, c1] := by
 match cs, h with
 | [c0, c1], _ => exact ⟨_, _, rfl⟩
theorem fld_in {H : Type} {enc : TypeId × Value -> H} {W : World} {base : Nat} {sp : Nat -> Bool} {held : Bool} {fuel : Nat} {cs : List Value} {x : DataW H × List MemPlace} (h : DataW.trod enc Tryz.prog W base sp held fuel 83 cs = some x) :
  ∃ f : List UInt8 × List UInt8, cs = [.string (B f.1), .string (B f.2)] /\ f.1.length <= maxLen /\ f.2.length <= maxLen := by
 obtain ⟨xs, m, _, _, hl, hxl, hf⟩ := DataW.trod_struct Tryz.underlying83 h
 have hl2 : cs.length = 2 := hl.trans (by kernel_rfl)
 obtain ⟨c0, c1, rfl⟩ := cells2 hl2
 have k9 : Tryz.prog.cellsOf 9 = 1 := by kernel_rfl
 have hx : ∀ i, i < 2 -> ∃ y, xs[i]? = some y := fun i hi => ⟨_, List.getElem?_eq_getElem (by rw [hxl]; exact hi)⟩
 obtain ⟨y0, e0⟩ := hx 0 (by decide)
 obtain ⟨y1, e1⟩ := hx 1 (by decide)
 have q0 : DataW.trod enc Tryz.prog W base sp held m 9 (List.take (Tryz.prog.cellsOf 9) [c0, c1]) = _ := hf 0 _ rfl
 have q1 : DataW.trod enc Tryz.prog W base sp held m 9 (List.take (Tryz.prog.cellsOf 9) [c1]) = _ := hf 1 _ rfl
 rw [k9, e0] at q0
 rw [k9, e1] at q1
 obtain ⟨s, f0, _, w0⟩ := DataW.trod_string Tryz.underlying9 q0
 obtain ⟨t, f1, _, w1⟩ := DataW.trod_string Tryz.underlying9 q1
 simp at f0 f1
 subst f0 f1
 exact ⟨(s.data.toList, t.data.toList), by rw [B_of, B_of], by rw [<- Lib.size_eq]; exact w0, by rw [<- Lib.size_eq]; exact w1⟩
theorem flds_in {H : Type} {enc : TypeId × Value -> H} {W : World} {base : Nat} {sp : Nat -> Bool} {held : Bool} {fuel : Nat} {v : Value} {x : DataW H × List MemPlace} (h : DataW.trod enc Tryz.prog W base sp held fuel 38 [v] = some x) :
  ∃ fs, FldsIn W v fs := by
 rcases DataW.trod_slice Tryz.underlying38 h with ⟨e, _⟩ | ⟨a, len, cap, elems, rest, n, _, e, _, _, hl, hm, hlen, hel, _, _⟩
 ·obtain rfl : v = .slice none 0 0 := by simpa using e
  exact ⟨[], ⟨⟨none, 0, rfl, Nat.le_refl _, fun i f h => by simp at h⟩, fun n c h => by cases h; rfl, Nat.zero_le _, fun f hf => by cases hf⟩⟩
 obtain rfl : v = .slice (some a) len cap := by simpa using e
 have k2 : Tryz.prog.cellsOf 83 = 2 := by kernel_rfl
 have each : ∀ i, i < len -> ∃ f : List UInt8 × List UInt8, (∃ b off, a = ⟨b, off, none⟩ /\ b < W.heap.size /\ W.cell? ⟨b, off + i * 2, none⟩ = some (.string (B f.1)) /\ W.cell? ⟨b, off + i * 2 + 1, none⟩ = some (.string (B f.2))) /\ f.1.length <= maxLen /\ f.2.length <= maxLen := by
  intro i hi
  have h1 := hel i hi
  rw [k2, List.getElem?_eq_getElem (by omega)] at h1
  obtain ⟨cs, hc, ht⟩ := Option.bind_eq_some_iff.1 h1
  obtain ⟨f, rfl, hf1, hf2⟩ := fld_in ht
  obtain ⟨_, _, hat⟩ := World.cells?_some hc
  have c0 := hat 0 (by decide)
  have c1 := hat 1 (by decide)
  obtain ⟨b, off, spot⟩ := a
  have hspot : spot = none := by
   have h2 := hel 0 (by omega)
   rw [k2, List.getElem?_eq_getElem (by omega)] at h2
   obtain ⟨cs', hc', ht'⟩ := Option.bind_eq_some_iff.1 h2
   obtain ⟨f', rfl, _⟩ := fld_in ht'
   obtain ⟨_, hlen', hat'⟩ := World.cells?_some hc'
   have := World.cell?_spot (hat' 0 (by decide))
   simpa [Addr.add] using this
  subst hspot
  rw [WideShapes.add_plain] at c0 c1
  exact ⟨f, ⟨b, off, rfl, World.block_lt_of_cell? W _ c0, c0, c1⟩, hf1, hf2⟩
 have : ∃ g : Nat -> List UInt8 × List UInt8, ∀ i, i < len -> (∃ b off, a = ⟨b, off, none⟩ /\ b < W.heap.size /\ W.cell? ⟨b, off + i * 2, none⟩ = some (.string (B (g i).1)) /\ W.cell? ⟨b, off + i * 2 + 1, none⟩ = some (.string (B (g i).2))) /\ (g i).1.length <= maxLen /\ (g i).2.length <= maxLen := by
  refine ⟨fun i => if h : i < len then (each i h).choose else ([], []), fun i hi => ?_⟩
  simp only [dif_pos hi]
  exact (each i hi).choose_spec
 obtain ⟨g, hg⟩ := this
 have hll : ((List.range len).map g).length = len := by simp
 refine ⟨(List.range len).map g, ⟨⟨some a, cap, by rw [hll], by rw [hll]; exact hl, fun i f hf => ?_⟩, (fun n c h => by cases h), by rw [hll]; omega, fun f hf => ?_⟩⟩
 ·have hi : i < len := by
   rcases Nat.lt_or_ge i len with q | q
   ·exact q
   rw [List.getElem?_eq_none (by rw [hll]; exact q)] at hf; cases hf
  have e : f = g i := by
   rw [List.getElem?_map, List.getElem?_range hi] at hf
   exact (Option.some.inj hf).symm
  subst e
  obtain ⟨b, off, ea, hb, c0, c1⟩ := (hg i hi).1
  exact ⟨b, off, by rw [ea], hb, c0, c1⟩
 obtain ⟨i, hi, rfl⟩ := List.mem_map.1 hf
 exact (hg i (List.mem_range.1 hi)).2
end Go.Proofs.YtbkeoiefolkjfaaGreatDoor
