/- Texts put together: PJ, GB, PX, TF, FP. -/
import Derived.Deep.DeepCutAuto
import Derived.Test.YtgaooalckjjplaaGreatDoorBfa1
import Derived.Test.YtgaooalckjjplaaGreatDoorBfa2
import Derived.Test.YtgaooalckjjplaaGreatDoorBfa3
import Derived.Test.YtgaooalckjjplaaGreatDoorBfa4
import Derived.Test.YtgaooalckjjplaaGreatDoorBfa5
import Derived.Test.YtgaooalckjjplaaGreatDoorBfa7
import Derived.Test.YtgaooalckjjplaaGreatDoorBfa8
import Derived.Test.YtgaooalckjjplaaGreatDoorBfa9
import Derived.Test.YtgaooalckjjplaaGreatDoorBfa10
import Derived.Test.YtgaooalckjjplaaGreatDoorBfa11
import Derived.Test.YtgaooalckjjplaaGreatDoorBfa12
import Derived.Test.YtgaooalckjjplaaGreatDoorBfa13
import Derived.Test.YtgaooalckjjplaaGreatDoorBdd1
set_option linter.unusedVariables false
namespace Go.Proofs.YtgaooalckjjplaaGreatDoor
open Go.RowKit Go.Shelf
attribute [local go_sem] Oper.semAt_some errV_0

/-- The way out: the mark is taken, the results are read from their boxes. -/
theorem parseOut {Q : Ending → World → Prop} (w W : World) (v e : Value) (tmps : Array Value) (hO : Out w W v e) (hv1 : v.oneCell' = true) (he1 : e.oneCell' = true) (hK : W.heap[w.heap.size + 4]? = some (.deferred (some []))) (t2 : tmps[2]? = some (.pointer (some ⟨w.heap.size, 0, none⟩))) (t3 : tmps[3]? = some (.pointer (some ⟨w.heap.size + 1, 0, none⟩)))
    (hQ : Below w.heap.size w (W.putObj (w.heap.size + 4) (.deferred none)) → Q (.returned (.tuple #[v, e])) (W.putObj (w.heap.size + 4) (.deferred none))) :
    bodyPostM Fence.wide 9 Tryz.prog Tryz.f72 Q .ret { tmps := tmps, defers := [{ target := .collected (w.heap.size + 4), args := #[] }] } W := by
  obtain ⟨h4, h5, hB⟩ := hO
  have p1 := grownBy_putObj' W (w.heap.size + 4) (.deferred none)
  have r4 : Cells (W.putObj (w.heap.size + 4) (.deferred none)) w.heap.size 137 #[v] := (p1.block _ h4.lt (fun e => by have := Option.some.inj e; omega)).trans h4
  have r5 : Cells (W.putObj (w.heap.size + 4) (.deferred none)) (w.heap.size + 1) 32 #[e] := (p1.block _ h5.lt (fun e => by have := Option.some.inj e; omega)).trans h5
  have c4 : (W.putObj (w.heap.size + 4) (.deferred none)).cell? ⟨w.heap.size, 0, none⟩ = some v := r4.cell 0
  have c5 : (W.putObj (w.heap.size + 4) (.deferred none)).cell? ⟨w.heap.size + 1, 0, none⟩ = some e := r5.cell 0
  refine ⟨by simp, .inl ⟨_, _, rfl, run_takeDeferred hK, ?_⟩⟩
  exact ⟨.tuple #[v, e], by simp [results, Tryz.f72, go_sem, t2, t3, c4, c5], hQ (hB.trans (belowK_b (w := w) (Nat.le_refl _) W _ _ _ (by omega) hK rfl rfl))⟩

theorem linesOn_pos : ∀ (n no at_ : Nat) (l : List UInt8), l.length ≤ n → ∀ x ∈ linesOn no at_ l, 1 ≤ x.bytes.length
  | 0, _, _, l, h, x, hx => by
    have : l = [] := List.length_eq_zero_iff.1 (by omega)
    subst this
    rw [linesOn_nil] at hx; cases hx
  | n + 1, no, at_, l, h, x, hx => by
    by_cases hl : l = []
    · subst hl; rw [linesOn_nil] at hx; cases hx
    · have hp := used_pos l hl
      rw [linesOn_cons _ _ _ hl] at hx
      rcases List.mem_cons.1 hx with rfl | hx
      · have : (Ln.bytes ⟨no, at_, head l, nl l⟩).length = used l := by
          unfold Ln.bytes used; simp only [List.length_append]; split <;> rfl
        omega
      · exact linesOn_pos n _ _ _ (by simp only [List.length_drop]; omega) x hx
theorem bytes_ge : ∀ (pre : List Ln), (∀ x ∈ pre, 1 ≤ x.bytes.length) → pre.length ≤ (pre.flatMap Ln.bytes).length
  | [], _ => Nat.le_refl _
  | x :: pre, h => by
    have ih := bytes_ge pre (fun y hy => h y (List.mem_cons_of_mem _ hy))
    have := h x List.mem_cons_self
    rw [List.flatMap_cons, List.length_append, List.length_cons]; omega

set_option maxRecDepth 100000 in
set_option maxHeartbeats 4000000 in
theorem parse_any (s : ByteArray) (hs : s.size ≤ 60000) (w : World) :
    Calls Tryz.prog 72 #[.string s] w fun e w' => Parsed w s.data.toList e w' := by
  obtain ⟨xs, hxs⟩ : ∃ xs, linesOf s.data.toList = xs := ⟨_, rfl⟩
  have HXS := Lib.hid hxs
  have hat := fun pre x post (e : xs = pre ++ x :: post) => linesOf_at s.data.toList pre x post (hxs.trans e)
  have HAT := Lib.hid hat
  have hj : (xs.flatMap Ln.bytes) = s.data.toList := by rw [← hxs]; exact linesOf_join _
  have hjl : (xs.flatMap Ln.bytes).length = s.size := by rw [hj, ← Lib.size_eq]
  have HJL := Lib.hid hjl
  have hpos : ∀ x ∈ xs, 1 ≤ x.bytes.length := by rw [← hxs]; exact linesOn_pos _ 0 0 _ (Nat.le_refl _)
  have HPOS := Lib.hid hpos
  clear hxs hat hjl hj hpos
  refine callsIn_wide (n := 9).1 ?_
  refine callsIn_of_wp_marks Tryz.func72 rfl trivial ?_ rfl
  simp only [Tryz.ntmps72, List.size_toArray, List.length_cons, List.length_nil, Nat.reduceAdd, Nat.reduceSub, Array.replicate_succ, Array.replicate_zero, List.push_toArray, List.append_toArray, List.nil_append, List.cons_append]
  gi_wp2_with fail
  refine ⟨trivial, (callsIn_wide.2 (split_any s _)).mono ?_⟩
  rintro e w3 ⟨rfl, rfl⟩
  gi_wp2_with fail
  have k7 := boxNew4 w (.cells #[.slice none 0 0] 137) (.cells #[.nilIface] 32) (.cells #[.int .i64 0, .slice none 0 0, .string s, .slice none 0 0, .int .i64 0, .int .i64 0, .slice none 0 0] 197) 9 (.string s)
  have HH := split_hands s (w.heap.size + 3) _ k7 (by omega)
  rw [HXS.out] at HH
  have n0 := ParserV.new ((w.alloc (.cells #[.slice none 0 0] 137)).alloc (.cells #[.nilIface] 32)) s (w.heap.size + 2) (by simp)
  rw [World.size_alloc, World.size_alloc] at n0
  change ParserV _ (fun k => if k = w.heap.size + 2 then 1 else 0) _ (w.heap.size + 2) _ _ _ at n0
  have o0 : Out w ((((w.alloc (.cells #[.slice none 0 0] 137)).alloc (.cells #[.nilIface] 32)).alloc (.cells #[.int .i64 0, .slice none 0 0, .string s, .slice none 0 0, .int .i64 0, .int .i64 0, .slice none 0 0] 197)).alloc (.cells #[.string s] 9)) (.slice none 0 0) .nilIface := by
    have h1 := Cells.new (w.alloc (.cells #[.slice none 0 0] 137)) 32 #[.nilIface]
    rw [World.size_alloc] at h1
    exact ⟨(((Cells.new w _ _).alloc _).alloc _).alloc _, (h1.alloc _).alloc _, ((((Below.refl _ w).alloc (Nat.le_refl _) _).alloc (by simp) _).alloc (by simp; omega) _).alloc (by simp; omega) _⟩
  have init : InvP w s [] ((((w.alloc (.cells #[.slice none 0 0] 137)).alloc (.cells #[.nilIface] 32)).alloc (.cells #[.int .i64 0, .slice none 0 0, .string s, .slice none 0 0, .int .i64 0, .int .i64 0, .slice none 0 0] 197)).alloc (.cells #[.string s] 9)) :=
    ⟨o0, _, PS.new, rfl, Inv.new, ParserAt.below ⟨_, n0⟩ ((Below.refl _ _).alloc (Nat.le_refl _) _), fun k h1 h2 => if_neg (by omega)⟩
  have hz : ((((w.alloc (.cells #[.slice none 0 0] 137)).alloc (.cells #[.nilIface] 32)).alloc (.cells #[.int .i64 0, .slice none 0 0, .string s, .slice none 0 0, .int .i64 0, .int .i64 0, .slice none 0 0] 197)).alloc (.cells #[.string s] 9)).heap.size = w.heap.size + 4 := by simp
  refine wp_rangedA (gf := 132) (lb := #[.pointer (some ⟨w.heap.size + 3, 0, none⟩)]) rfl (enters_of Tryz.func132 (by kernel_rfl) rfl) HH (fun _ => rfl)
    (InvP w s) (OutP w s) (by rw [hz]; exact fun pre W W' h ht => h.turned ht (by omega) (by omega)) (fun c pre W W' h ht => h.turned ht (by rw [hz]; omega) (by rw [hz]; omega)) init
    (fun a pre x a' W => ∃ Bx, w.heap.size + 9 ≤ Bx ∧ a' = { tmps := (a.tmps.setIfInBounds 16 (.agg (lineV x))).setIfInBounds 5 (.pointer (some ⟨Bx, 0, none⟩)), defers := [] } ∧ Cells W Bx 172 (lineV x) ∧ InvP w s pre W)
    ?hM ?assign ?body ?done ?stop
  case hM =>
    rw [hz]
    rintro a pre x a' _ W W' ⟨Bx, h1, h2, h3, h4⟩ ht
    exact ⟨Bx, h1, h2, (ht.same Bx h3.lt (.inr (by omega))).trans h3, h4.turned ht (by omega) (by omega)⟩
  case assign =>
    rw [hz]
    intro l pre x post W hx hsz hi
    clear hx
    dsimp only [lineV]
    gi_wp2
    exact ⟨(Stay.refl _ _ W).alloc hsz _, W.heap.size, by omega, rfl, Cells.new _ _ _, hi.alloc _⟩
  case body =>
    rw [hz]
    rintro l pre x post a' W hx hsz ⟨Bx, hB, rfl, hc, hO, T, p, hr, hi, hp, hT⟩
    obtain ⟨hno, hat⟩ := HAT.out pre x post hx
    rw [← hat] at hi
    have hsum := HJL.out
    rw [hx, List.flatMap_append, List.flatMap_cons, List.length_append, List.length_append, ← hat] at hsum
    have hge := bytes_ge pre (fun y hy => HPOS.out y (by rw [hx]; exact List.mem_append_left _ hy))
    rw [← hno, ← hat] at hge
    have hR : w.heap.size + 2 ≤ W.heap.size := by omega
    have TK := take_any hp hR x hi (by omega) hs hge
    have HR := Lib.hid hr
    have HI := Lib.hid hi
    have HX := Lib.hid (show x.at_ = (pre.flatMap Ln.bytes).length from hat)
    clear hx hr hi hat hsum hno
    simp only [List.setIfInBounds_toArray, List.set_cons_zero, List.set_cons_succ, lineV] at hc ⊢
    have q0 : W.cell? ⟨Bx, 0, none⟩ = some (.int .i64 x.no) := hc.cell 0
    have q1 : W.cell? ⟨Bx, 1, none⟩ = some (.int .i64 x.at_) := hc.cell 1
    have q2 : W.cell? ⟨Bx, 2, none⟩ = some (.string ⟨x.text.toArray⟩) := hc.cell 2
    have q3 : W.cell? ⟨Bx, 3, none⟩ = some (.bool x.ended) := hc.cell 3
    have stay : ∀ W1, Only (fun r => T r ≠ 0) W W1 → Stay (w.heap.size + 4) 5 W W1 := fun W1 ho => ⟨ho.size, fun r h1 h2 => ho.same r (by omega) (fun hn => hn (hT r (by omega) (by omega)))⟩
    have hTR : ∀ r, T r ≠ 0 → w.heap.size + 2 ≤ r := fun r hr => by obtain ⟨V, hv⟩ := hp; exact (hv.low r hr).1
    gi_wp2_with fail
    refine ⟨trivial, ((callsIn_wide.2 TK).inRound l).mono ?_⟩
    rintro e W1 ht
    unfold Taken at ht
    cases htk : takeP s.data.toList p x with
    | error an =>
      obtain ⟨a, n⟩ := an
      rw [htk] at ht
      obtain ⟨v, rfl, hf, ho⟩ := ht
      have hrn := runP_snoc_no HR.out htk
      obtain ⟨q, hq, rfl, hqc⟩ := hf
      have hO1 := hO.only ho hTR
      have c2 : W1.cell? ⟨w.heap.size, 0, none⟩ = some (.slice none 0 0) := hO1.1.cell 0
      have f2 := hO1.1.frozen 0
      have c3 : W1.cell? ⟨w.heap.size + 1, 0, none⟩ = some .nilIface := hO1.2.1.cell 0
      have f3 := hO1.2.1.frozen 0
      have hst := stay W1 ho
      clear TK hO hc
      gi_wp2
      refine ⟨(hst.setCell (.inl (by show w.heap.size < _; omega)) _).setCell (.inl (by show w.heap.size + 1 < _; omega)) _, rfl, a, n, _, hrn, hO1.set _ _, q, by omega, rfl, ?_⟩
      exact Cells.other (Cells.other hqc (by show q ≠ w.heap.size; omega) _) (by show q ≠ w.heap.size + 1; omega) _
    | ok p' =>
      rw [htk] at ht
      obtain ⟨rfl, T', hp', hst⟩ := ht
      have hrn := runP_snoc HR.out htk
      obtain ⟨hi', _⟩ := Inv.take HI.out hge htk
      clear TK hc
      gi_wp2
      refine ⟨stay W1 hst.only, hO.only hst.only hTR, T', p', hrn, ?_, hp', fun r h1 h2 => (hst.old r (by omega)).2 (hT r h1 h2)⟩
      rw [List.flatMap_append, List.length_append, ← HX.out]
      simpa using hi'
  case done =>
    rw [hz]
    rintro W ⟨hO, T, p, hr, hi, hp, hT⟩ hmark
    have zW : w.heap.size + 4 < W.heap.size := (Array.getElem?_eq_some_iff.1 hmark).1
    rw [HJL.out] at hi
    have hTR : ∀ r, T r ≠ 0 → w.heap.size + 2 ≤ r := fun r hr => by obtain ⟨V, hv⟩ := hp; exact (hv.low r hr).1
    have EF := endField_any hp (by omega) (by have := hi.said; omega) (by have := hi.fields; omega)
    have PL : Hid (parseL s.data.toList = lastP s.data.toList p) := by
      show _ = _
      unfold parseL; rw [HXS.out, hr]
    have HI := Lib.hid hi.endField
    have h4 : T (w.heap.size + 4) = 0 := hT _ (by omega) (by omega)
    have l0 := hp.lt
    clear hr hi hp
    gi_wp2_with fail
    refine ⟨trivial, (callsIn_wide.2 EF).mono ?_⟩
    rintro e W1 hE
    unfold EndField at hE
    by_cases h0 : endFieldN p = 0
    · rw [if_pos h0] at hE
      obtain ⟨rfl, T1, g1, s1⟩ := hE
      have hO1 := hO.only s1.only hTR
      have hm1 := (s1.only.same _ zW (fun e => e h4)).trans hmark
      have h41 := (s1.old _ zW).2 h4
      have hTR1 : ∀ r, T1 r ≠ 0 → w.heap.size + 2 ≤ r := fun r hr => by obtain ⟨V, hv⟩ := g1; exact (hv.low r hr).1
      have zW1 := s1.only.size
      have e0 := endField_at p
      have hat := HI.out.at_
      have EB := endBlock_any g1 (by omega) s.size hat (Nat.le_refl _) (by omega) (by have := HI.out.items; omega) (by have := HI.out.stanzas; omega)
      have l1 := g1.lt
      have PY : Hid (parseL s.data.toList = .ok (endBlockP s.data.toList (endFieldP p) s.size).items) := by
        show _ = _
        rw [PL.out]; unfold lastP; rw [if_neg (by simpa using h0), ← Lib.size_eq]
      clear EF hO hmark HI PL g1
      gi_wp2_with fail
      refine ⟨trivial, (callsIn_wide.2 EB).mono ?_⟩
      rintro e W2 ⟨rfl, T2, ⟨V2, g2⟩, s2⟩
      have hO2 := hO1.only s2.only hTR1
      have hm2 := (s2.only.same _ (by omega) (fun e => e h41)).trans hm1
      obtain ⟨a3, c3, e3, _⟩ := own_slice g2.r3
      have hits := g2.its
      have q3 : W2.cell? ⟨w.heap.size + 1 + 1, 3, none⟩ = some (.slice a3 (endBlockP s.data.toList (endFieldP p) s.size).items.length c3) := by rw [← e3]; exact g2.cells.cell 3
      have l2 := g2.lt
      have c2 : W2.cell? ⟨w.heap.size, 0, none⟩ = some (.slice none 0 0) := hO2.1.cell 0
      have f2 := hO2.1.frozen 0
      have c3' : W2.cell? ⟨w.heap.size + 1, 0, none⟩ = some .nilIface := hO2.2.1.cell 0
      have f3 := hO2.2.1.frozen 0
      rw [e3] at hits
      have HITS := Lib.hid hits
      have hT2 : T2 (w.heap.size + 4) = 0 := (s2.old _ (by omega)).2 h41
      have HG := Lib.hid (fun W' (hs : ∀ k, T2 k ≠ 0 → W'.heap[k]? = W2.heap[k]?) hz => And.intro (g2.same (w' := W') hs hz).its (g2.same (w' := W') hs hz).nil)
      have hlow2 : ∀ r, T2 r ≠ 0 → w.heap.size + 2 ≤ r := fun r hr => (g2.low r hr).1
      rw [e3] at HG
      clear EB hits g2
      gi_wp2
      refine parseOut w _ (.slice a3 (endBlockP s.data.toList (endFieldP p) s.size).items.length c3) .nilIface _ (hO2.set _ _) rfl rfl ?_ rfl rfl fun hb => .yes PY.out hb (HG.out _ ?_ ?_)
      · exact (Below.heap_setCell _ _ _ _ (by show w.heap.size + 4 ≠ w.heap.size + 1; omega)).trans ((Below.heap_setCell _ _ _ _ (by show w.heap.size + 4 ≠ w.heap.size; omega)).trans hm2)
      · intro k hk
        have h1 := hlow2 k hk
        rw [World.putObj_heap_other (by rintro rfl; exact hk hT2)]
        exact (Below.heap_setCell _ _ _ _ (by show k ≠ w.heap.size + 1; omega)).trans (Below.heap_setCell _ _ _ _ (by show k ≠ w.heap.size; omega))
      · simp [World.setCell]
    · rw [if_neg h0] at hE
      obtain ⟨v, rfl, ⟨q, hq, rfl, hqc⟩, hb1⟩ := hE
      have hO1 : Out w W1 (.slice none 0 0) .nilIface := ⟨hO.1.below hb1 hO.1.lt, hO.2.1.below hb1 hO.2.1.lt, hO.2.2.trans (hb1.mono hO.2.2.size)⟩
      have hm1 := (hb1.block _ zW).trans hmark
      have c2 : W1.cell? ⟨w.heap.size, 0, none⟩ = some (.slice none 0 0) := hO1.1.cell 0
      have f2 := hO1.1.frozen 0
      have c3' : W1.cell? ⟨w.heap.size + 1, 0, none⟩ = some .nilIface := hO1.2.1.cell 0
      have f3 := hO1.2.1.frozen 0
      have PN : Hid (parseL s.data.toList = .error (p.begin_, endFieldN p)) := by
        show _ = _
        rw [PL.out]; unfold lastP; rw [if_pos h0]
      clear EF hO hmark HI PL
      gi_wp2
      refine parseOut w _ (.slice none 0 0) (.iface 82 (.pointer (some ⟨q, 0, none⟩))) _ (hO1.set _ _) rfl rfl ?_ rfl rfl fun hb => .no PN.out hb ⟨q, by omega, rfl, ?_⟩
      · exact (Below.heap_setCell _ _ _ _ (by show w.heap.size + 4 ≠ w.heap.size + 1; omega)).trans ((Below.heap_setCell _ _ _ _ (by show w.heap.size + 4 ≠ w.heap.size; omega)).trans hm1)
      · exact (World.putObj_heap_other (by omega)).trans (Cells.other (Cells.other hqc (by show q ≠ w.heap.size; omega) _) (by show q ≠ w.heap.size + 1; omega) _)
  case stop =>
    rw [hz]
    rintro c pre W hpre ⟨rfl, a, n, v, hr, hO, ⟨q, hq, rfl, hqc⟩⟩ hmark
    have PN : Hid (parseL s.data.toList = .error (a, n)) := by
      show _ = _
      unfold parseL; rw [HXS.out, runP_stop hr hpre]
    gi_wp2
    refine parseOut w _ (.slice none 0 0) (.iface 82 (.pointer (some ⟨q, 0, none⟩))) _ hO rfl rfl hmark rfl rfl fun hb => .no PN.out hb ⟨q, by omega, rfl, ?_⟩
    exact (World.putObj_heap_other (by omega)).trans hqc
end Go.Proofs.YtgaooalckjjplaaGreatDoor

namespace Go.Proofs.YtgaooalckjjplaaGreatDoor
open Go.RowKit Go.Shelf

set_option maxRecDepth 100000 in
set_option maxHeartbeats 4000000 in
theorem fields_quiet (fs : List (List UInt8 × List UInt8)) (v v' : Value) (w : World) (h : Flds w v fs) (h' : Flds w v' fs) (hn : fs.length ≤ 1000000) :
    Calls Tryz.prog 17 #[v, v'] w fun e w' => e = .returned (.bool true) ∧ ∃ m, w' = w.drewN m := by
  obtain ⟨A, cap, rfl, hle, hc⟩ := h
  obtain ⟨A', cap', rfl, hle', hc'⟩ := h'
  have PC := Lib.hid hc
  have PC' := Lib.hid hc'
  clear hc hc'
  go_enter Tryz.func17, Tryz.ntmps17
  go_wp2_with fail
  go_loopw [13] (fun i wr => ∃ k : Nat, k ≤ fs.length ∧ i = .int .i64 k ∧ ∃ m, wr = w.drewN m) (fun i _ => fs.length - (intOf i).toNat)
  case atStart => exact ⟨0, Nat.zero_le _, rfl, 0, rfl⟩
  case round =>
    obtain ⟨k, hk, rfl, nd, hwr⟩ := hrel
    by_cases hlt : k < fs.length
    · obtain ⟨f, hf⟩ : ∃ f, fs[k]? = some f := ⟨_, List.getElem?_eq_getElem hlt⟩
      obtain ⟨b, off, rfl, hbb, c0, c1⟩ := PC.out k f hf
      obtain ⟨b', off', rfl, hbb', c0', c1'⟩ := PC'.out k f hf
      replace c0 : wr.cell? ⟨b, off + k * 2, none⟩ = some (.string (B f.1)) := by rw [hwr]; exact c0
      replace c1 : wr.cell? ⟨b, off + k * 2 + 1, none⟩ = some (.string (B f.2)) := by rw [hwr]; exact c1
      replace c0' : wr.cell? ⟨b', off' + k * 2, none⟩ = some (.string (B f.1)) := by rw [hwr]; exact c0'
      replace c1' : wr.cell? ⟨b', off' + k * 2 + 1, none⟩ = some (.string (B f.2)) := by rw [hwr]; exact c1'
      have HW := Lib.hid hwr
      clear hf PC PC' hwr
      generalize B f.1 = X at *
      generalize B f.2 = Y at *
      go_wp2_with (go_quiet (fail))
      go_roundw
      case rel => exact ⟨k + 1, hlt, by go_num, nd + _, by rw [HW.out]; exact World.drewN_drewN _ _ _⟩
      case measure => simp [intOf]; omega
    · obtain rfl : k = fs.length := by omega
      clear PC PC'
      go_wp2_with fail
      go_ret
      exact ⟨rfl, nd, by first | rfl | exact hwr⟩
end Go.Proofs.YtgaooalckjjplaaGreatDoor

namespace Go.Proofs.YtgaooalckjjplaaGreatDoor
open Go.RowKit Go.Shelf

theorem rcellsF_at {w : World} {ad : Addr} {fs : List Fld} {cap : Nat} (hc : ∀ (i : Nat) (f : List UInt8 × List UInt8), fs[i]? = some f → ∃ b off, some ad = some (⟨b, off, none⟩ : Addr) ∧ b < w.heap.size ∧ w.cell? ⟨b, off + i * 2, none⟩ = some (.string (B f.1)) ∧ w.cell? ⟨b, off + i * 2 + 1, none⟩ = some (.string (B f.2))) (o : Obj) :
    ∀ (j : Nat) u, (cellsF fs)[j]? = some u → (w.alloc o).cell? (ad.add j) = some u := by
  intro j u hu
  have hj : j < (cellsF fs).length := by
    rcases Nat.lt_or_ge j (cellsF fs).length with q | q
    · exact q
    · rw [List.getElem?_eq_none q] at hu; cases hu
  rw [cellsF_len] at hj
  have hi2 : j / 2 < fs.length := by omega
  obtain ⟨f, hf⟩ : ∃ f, fs[j / 2]? = some f := ⟨_, List.getElem?_eq_getElem hi2⟩
  obtain ⟨b, off, e, hbb, c0, c1⟩ := hc _ f hf
  obtain ⟨a1, a2⟩ := cellsF_at fs _ f hf
  cases e
  rw [WideShapes.add_plain, World.cell?_alloc_old _ _ _ (Nat.ne_of_lt hbb)]
  rcases Nat.mod_two_eq_zero_or_one j with h | h
  · have ej : j = j / 2 * 2 := by omega
    rw [← ej] at a1 c0
    rw [c0, ← hu, a1]
  · have ej : j = j / 2 * 2 + 1 := by omega
    rw [Nat.add_assoc, ← ej] at c1
    rw [← ej] at a2
    rw [c1, ← hu, a2]
attribute [local go_sem] eqlNil eqlSome
set_option maxRecDepth 100000 in
set_option maxHeartbeats 4000000 in
theorem clone_any (fs : List Fld) (v : Value) (w : World) (hs : Flds w v fs) (hnil : ∀ n c, v = .slice none n c → c = 0) (hn : fs.length ≤ 1000000) :
    Calls Tryz.prog 90 #[v] w fun e w' => ∃ v', e = .returned v' ∧ w'.ownsRow w.heap.size 66 2 v' fs.length (cellsF fs) ∧ Below w.heap.size w w' := by
  obtain ⟨A, cap, rfl, hle, hc⟩ := hs
  obtain ⟨i0, hi, hz0, hz1, hz2⟩ := info_parts infoFld
  cases A with
  | none =>
    have he : fs = [] := by
      cases fs with
      | nil => rfl
      | cons a r => obtain ⟨b, off, e, _⟩ := hc 0 a rfl; cases e
    have hc0 := hnil _ _ rfl
    subst hc0
    subst he
    simp only [List.length_nil]
    go_enter Tryz.func90, Tryz.ntmps90
    go_wp2_with fail
    go_ret
    exact ⟨_, rfl, ⟨rfl, .inl ⟨rfl, rfl⟩⟩, Below.refl _ _⟩
  | some ad =>
    have hoN : (w.alloc (.cells #[] 66)).ownsRow w.heap.size 66 2 (.slice (some ⟨w.heap.size, 0, none⟩) 0 0) 0 [] := World.ownsRow_lit w #[] 0 (Nat.le_refl _) (by decide) rfl
    have hba := (Below.refl w.heap.size w).alloc (Nat.le_refl _) (.cells #[] 66)
    have HC := Lib.hid (rcellsF_at (cap := cap) hc (.cells #[] 66))
    have hone : ∀ u ∈ cellsF fs, u.oneCell' = true := by
      intro u hu
      unfold cellsF at hu
      simp at hu
      obtain ⟨a, b, _, h | h⟩ := hu <;> subst h <;> rfl
    have HL := cellsF_len fs
    clear hc
    generalize cellsF fs = cf at *
    go_enter Tryz.func90, Tryz.ntmps90
    go_wp2_with (at_builtin; refine wpList_append_own _ rfl _ _ 46 rfl w.heap.size 66 i0 _ 2 32 Tryz.underlying46 hi hz0 hz1 hz2 rfl (by decide) _ 0 [] rfl hoN ad fs.length cap cf rfl HL HC.out hone ?c3 ?c4 ?c5 ?_)
    case c3 => unfold maxLen; omega
    case c4 => omega
    case c5 => simp
    intro v' w3 hown' hgrow _
    have hb3 : Below w.heap.size w w3 := hba.grown hgrow (by simp) (fun j ej => (World.ownsRow.lt hoN j ej).1)
    go_wp2_with fail
    go_ret
    exact ⟨_, rfl, hown', hb3⟩
/-- The fields of the records. -/
def recs (its : List It) : List (List Fld) := (its.filter fun it => it.kind == 3).map It.fields
theorem recs_snoc (its : List It) (k : Nat) (it : It) (h : its[k]? = some it) : recs (its.take (k + 1)) = recs (its.take k) ++ if it.kind = 3 then [it.fields] else [] := by
  unfold recs
  rw [List.take_add_one, h]
  simp only [Option.toList_some, List.filter_append, List.map_append]
  congr 1
  by_cases hk : it.kind = 3
  · simp [hk]
  · simp [hk]
theorem recs_len (its : List It) : (recs its).length ≤ its.length := by unfold recs; rw [List.length_map]; exact List.length_filter_le _ _
theorem infoFlds : (Tryz.prog.info? 46).map (fun i => (i.zero, i.size, i.bytes)) = some (some (.slice none 0 0), 1, 24) := by kernel_rfl
theorem AccR.start (w : World) : AccR w w (.slice none 0 0) [] [] := ⟨⟨rfl, .inl ⟨rfl, rfl⟩⟩, rfl, fun j x r h => by simp at h, Below.refl _ _⟩
theorem AccP.start (w : World) : AccP w w (.slice none 0 0) [] [] := ⟨⟨rfl, .inl ⟨rfl, rfl⟩⟩, rfl, fun j x r h => by simp at h, Below.refl _ _⟩
theorem valCell (W : World) (x : Value) (t : TypeId) : ∀ (j : Nat) u, [x][j]? = some u → (W.alloc (.cells #[x] t)).cell? ((⟨W.heap.size, 0, none⟩ : Addr).add j) = some u := cells_new_add W t [x]
set_option maxRecDepth 100000 in
set_option maxHeartbeats 4000000 in
theorem stanzas_any (its : List It) (v : Value) (w : World) (h : Its w v its) (hnil : NilI w v its) (hn : its.length ≤ 1000000) (hf : ∀ it ∈ its, it.fields.length ≤ 1000000) :
    Calls Tryz.prog 175 #[v] w fun e w' => ∃ u vs, e = .returned u ∧ AccP w w' u vs (recs its) := by
  obtain ⟨i0, hi, hz0, hz1, hz2⟩ := info_parts infoFlds
  have NI := Lib.hid hnil
  have HF := Lib.hid hf
  obtain ⟨A, cap, rfl, hle, hc⟩ := h
  have HC := Lib.hid hc
  clear hc hnil hf
  go_enter Tryz.func175, Tryz.ntmps175
  go_wp2_with fail
  go_loopw [3, 8] (fun u i wr => ∃ (k : Nat) (vs : List Value), k ≤ its.length ∧ i = .int .i64 k ∧ AccP w wr u vs (recs (its.take k))) (fun _ i _ => its.length - (intOf i).toNat)
  case atStart => exact ⟨0, [], Nat.zero_le _, rfl, AccP.start w⟩
  case round =>
    obtain ⟨k, vs, hk, rfl, hacc⟩ := hrel
    by_cases hlt : k < its.length
    · obtain ⟨it, hit⟩ : ∃ it, its[k]? = some it := ⟨_, List.getElem?_eq_getElem hlt⟩
      obtain ⟨b, off, fv, rfl, hbb, c0, c1, c2, hfl⟩ := HC.out k it hit
      have hb := hacc.below
      have hlb := hb.size
      have rl := recs_len (its.take k)
      rw [List.length_take] at rl
      have hvl : vs.length ≤ 1000000 := by rw [hacc.len]; omega
      obtain ⟨fa, fc, rfl, _, _⟩ := id hfl
      have hnl : ∀ n c, Value.slice fa it.fields.length fc = .slice none n c → c = 0 := fun n c e => by
        cases e
        exact NI.out k b off _ _ _ _ rfl hlt c2
      replace c0 := (hb.cell (p := ⟨b, off + k * 3, none⟩) hbb).trans c0
      replace c1 := (hb.cell (p := ⟨b, off + k * 3 + 1, none⟩) hbb).trans c1
      replace c2 := (hb.cell (p := ⟨b, off + k * 3 + 1 + 1, none⟩) hbb).trans c2
      have SN := Lib.hid (recs_snoc its k it hit)
      by_cases hk3 : it.kind = 3
      · have hfw := (hfl.below hb (Nat.le_refl _)).below ((Below.refl wr.heap.size wr).alloc (Nat.le_refl _) (.cells #[.int .i64 it.kind, .string (B it.raw), .slice fa it.fields.length fc] 89)) (Nat.le_refl _)
        have CL := Lib.hid (clone_any it.fields _ _ hfw hnl (HF.out it (List.mem_of_getElem? hit)))
        have hba := (Below.refl wr.heap.size wr).alloc (Nat.le_refl _) (.cells #[.int .i64 it.kind, .string (B it.raw), .slice fa it.fields.length fc] 89)
        have ACC := Lib.hid (hacc.kept hba)
        rw [hk3] at c0 CL ACC
        clear hacc hit hfl HC hfw hba hnl NI HF
        go_wp2_with fail
        refine CL.out.mono ?_
        rintro e w2 ⟨x, rfl, hx, b2⟩
        have acc2 := ACC.out.kept b2
        have hx2 : w2.ownsRow w.heap.size 66 2 x it.fields.length (cellsF it.fields) := rowBase hx (by simp; omega)
        have hrow := acc2.row
        have ACC2 := Lib.hid acc2
        have HX2 := Lib.hid hx2
        have hlb2 := acc2.below.size
        obtain ⟨xa, xc, hxe, _⟩ := own_slice hx
        subst hxe
        have HV := Lib.hid (valCell w2 (.slice xa it.fields.length xc) 46)
        clear acc2 CL ACC b2 hx hx2
        go_wp2_with (at_builtin; refine wpList_append_own _ rfl _ _ 259 rfl w.heap.size 46 i0 _ 1 24 Tryz.underlying259 hi hz0 hz1 hz2 rfl (by decide) _ _ _ rfl (hrow.alloc _) ⟨w2.heap.size, 0, none⟩ 1 1 _ rfl rfl HV.out ?c2 ?c3 ?c4 ?c5 ?_)
        case c2 => intro u hu; simp at hu; subst hu; rfl
        case c3 => unfold maxLen; omega
        case c4 => omega
        case c5 => simp; omega
        intro v' w3 hown' hgrow _
        have hacc3 := ACC2.out.snoc HX2.out hown' hgrow
        obtain ⟨g', cap', rfl⟩ := ownsRow_succ hown'
        go_wp2_with fail
        go_roundw
        case rel => exact ⟨k + 1, _, hlt, by go_num, by rw [SN.out, if_pos hk3]; exact hacc3⟩
        case measure => simp [intOf]; omega
      · have hk2 : ((it.kind : Int) == 3) = false := beq_eq_false_iff_ne.2 (by omega)
        have ACC := Lib.hid (hacc.kept ((Below.refl wr.heap.size wr).alloc (Nat.le_refl _) (.cells #[.int .i64 it.kind, .string (B it.raw), .slice fa it.fields.length fc] 89)))
        clear hacc hit hfl HC hnl NI HF
        go_wp2_with fail
        go_roundw
        case rel => exact ⟨k + 1, vs, hlt, by go_num, by rw [SN.out, if_neg hk3, List.append_nil]; exact ACC.out⟩
        case measure => simp [intOf]; omega
    · obtain rfl : k = its.length := by omega
      rw [List.take_length] at hacc
      clear HC NI HF
      go_wp2_with fail
      go_ret
      exact ⟨_, vs, rfl, hacc⟩
end Go.Proofs.YtgaooalckjjplaaGreatDoor

namespace Go.Proofs.YtgaooalckjjplaaGreatDoor
open Go.RowKit Go.Shelf

theorem AccI.start (w : World) : AccI w w (.slice none 0 0) [] [] := ⟨⟨rfl, .inl ⟨rfl, rfl⟩⟩, rfl, fun j it x h => by simp at h, Below.refl _ _⟩
theorem AccM.start (w : World) : AccM w w (.slice none 0 0) [] [] := ⟨⟨rfl, .inl ⟨rfl, rfl⟩⟩, rfl, fun j it x h => by simp at h, Below.refl _ _⟩
end Go.Proofs.YtgaooalckjjplaaGreatDoor

namespace Go.Proofs.YtgaooalckjjplaaGreatDoor
open Go.RowKit Go.Shelf

set_option maxRecDepth 100000 in
set_option maxHeartbeats 4000000 in
theorem refParts_any (l : List UInt8) (hl : l.length ≤ 1000000) (w : World) :
    Calls Tryz.prog 176 #[.string (B l)] w fun e w' => ∃ v, e = .returned v ∧ OwnS w' w.heap.size v ((partsL l).map B) ∧ Below w.heap.size w w' := by
  obtain ⟨i0, hi, hz0, hz1, hz2⟩ := info_parts infoStr
  have hsz := B_size l
  have hd := B_data l
  generalize B l = s at *
  have HD := Lib.hid hd
  go_enter Tryz.func176, Tryz.ntmps176
  go_wp2_with fail
  go_loopw [3, 4] (fun v i wr => ∃ k : Nat, k ≤ s.size ∧ i = .int .i64 k ∧ OwnS wr w.heap.size v ((partsL (l.take k)).map B) ∧ (partsL (l.take k)).length ≤ k + 1 ∧ Below w.heap.size w wr) (fun _ i _ => s.size - (intOf i).toNat)
  case atStart => exact ⟨0, Nat.zero_le _, rfl, OwnS.one w _ (Nat.le_refl _) _, by simp [partsL], (Below.refl _ _).alloc (Nat.le_refl _) _⟩
  case round =>
    obtain ⟨k, hk, rfl, hown, hlen, hb⟩ := hrel
    by_cases hlt : k < s.size
    · have e : l[k]? = some s[k] := by
        rw [← HD.out, List.getElem?_eq_getElem (by rw [← Lib.size_eq]; exact hlt)]; rfl
      have htk : l.take (k + 1) = l.take k ++ [s[k]] := by rw [List.take_add_one, e]; rfl
      have hex : s.extract k (k + 1) = B [s[k]] := by
        rw [← B_of (s.extract k (k + 1)), Lib.extract_data, HD.out]
        congr 1
        rw [show k + 1 - k = 1 by omega]
        have : (l.drop k)[0]? = some s[k] := by rw [List.getElem?_drop]; exact e
        cases hdl : l.drop k with
        | nil => rw [hdl] at this; simp at this
        | cons a b => rw [hdl] at this; simp at this; subst this; rfl
      have q2 := byte_eq (c := s[k]) (d := 10) 10 rfl
      have hs3 := hb.size
      have hn0 : 0 < ((partsL (l.take k)).map B).length := by rw [List.length_map]; exact List.length_pos_iff.2 (partsL_ne _)
      cases h5 : (s[k] == 10) with
      | true =>
        rw [h5] at q2
        have h10 : s[k] = 10 := by simpa using h5
        have T1 : Hid ((partsL (l.take (k + 1))).map B = (partsL (l.take k)).map B ++ [⟨#[]⟩]) := by
          show _ = _
          rw [htk, h10, partsL_snoc_nl, List.map_append]; rfl
        have T2 : Hid ((partsL (l.take (k + 1))).length = ((partsL (l.take k)).map B).length + 1) := by
          show _ = _
          rw [htk, h10, partsL_snoc_nl, List.length_append, List.length_map]; rfl
        rw [← List.length_map (f := B)] at hlen
        clear htk hex h10 e h5 hd
        generalize (partsL (l.take k)).map B = ls at *
        obtain ⟨g, cap, rfl, hg1, hg2⟩ := hown.form hn0
        have HC := Lib.hid (strCell wr ⟨#[]⟩ 9)
        have hown4 : wr.ownsRow w.heap.size 9 1 (.slice (some ⟨g, 0, none⟩) ls.length cap) ls.length (ls.map Value.string) := hown
        obtain ⟨n, hn⟩ : ∃ n, ls.length = n := ⟨_, rfl⟩
        rw [hn] at hown4 hlen hn0
        have HN := Lib.hid hn
        simp only [hn]
        clear hown hn
        go_wp2_with (at_builtin; refine wpList_append_own _ rfl _ _ 105 rfl w.heap.size 9 i0 _ 1 16 Tryz.underlying105 hi hz0 hz1 hz2 rfl (by decide) _ _ _ rfl (hown4.alloc _) ⟨wr.heap.size, 0, none⟩ 1 1 _ rfl rfl HC.out ?c2 ?c3 ?c4 ?c5 ?_)
        case c2 => intro u hu; simp at hu; subst hu; rfl
        case c3 => unfold maxLen; omega
        case c4 => omega
        case c5 => simp; omega
        intro v' w5 hown' hgrow _
        obtain ⟨g', cap', rfl⟩ := ownsRow_succ hown'
        have hb5 : Below w.heap.size w w5 := (hb.alloc (by omega) _).grown hgrow (by simp; omega) (fun j ej => (hown4.lt j ej).1)
        have hown6 := OwnS.grow (ls := ls) (y := ⟨#[]⟩) hown' HN.out
        rw [← T1.out] at hown6
        go_wp2_with fail
        go_roundw
        case rel => exact ⟨k + 1, hlt, by go_num, hown6, by rw [T2.out, HN.out]; omega, hb5⟩
        case measure => simp [intOf]; omega
      | false =>
        rw [h5] at q2
        have h10 : s[k] ≠ 10 := by simpa using h5
        obtain ⟨pre, p, p1, p2⟩ := partsL_snoc (l.take k) s[k] h10
        have hm : ((partsL (l.take k)).map B).length = pre.length + 1 := by rw [p1]; simp
        rw [p1, List.length_append] at hlen
        simp only [List.length_singleton] at hlen
        obtain ⟨g, cap, rfl, hg1, hg2⟩ := hown.form hn0
        rw [hm] at hown ⊢
        have hcell := hown.cell hm pre.length (B p) (by rw [p1, List.map_append, List.getElem?_append_right (by simp)]; simp)
        have hown4 : wr.ownsRow w.heap.size 9 1 (.slice (some ⟨g, 0, none⟩) (pre.length + 1) cap) (pre.length + 1) ((pre.map B).map Value.string ++ [.string (B p)]) := by
          have := hown
          unfold OwnS at this
          rw [hm, p1] at this
          simpa using this
        have hfz := hown4.frozenAt pre.length
        have hst := hown4.stored pre.length (.string (B p ++ B [s[k]]))
        rw [List.set_append_right _ _ (by simp)] at hst
        simp only [List.length_map, Nat.sub_self, List.set_cons_zero, B_append] at hst
        have T1 : Hid ((partsL (l.take (k + 1))).map B = pre.map B ++ [B (p ++ [s[k]])]) := by
          show _ = _
          rw [htk, p2, List.map_append]; rfl
        have T2 : Hid ((partsL (l.take (k + 1))).length = pre.length + 1) := by
          show _ = _
          rw [htk, p2, List.length_append]; rfl
        obtain ⟨hst1, hst2⟩ := hst
        have hown6 := OwnS.grow (ls := pre.map B) (y := B (p ++ [s[k]])) hst1 (by simp)
        rw [← T1.out] at hown6
        have hb6 := hb.setCell (p := ⟨g, pre.length, none⟩) hg1 (.string (B (p ++ [s[k]])))
        have HB1 := Lib.hid hown6
        have HB2 := Lib.hid hb6
        have hpre : pre.length ≤ 1000000 := by omega
        have hwr : IntKind.i64.wrap (pre.length : Int) = pre.length := IntWalk.i64_in _ (by omega)
        have hlt2 : (pre.length : Int) < (pre.length : Int) + 1 := by omega
        have hwk : IntKind.i64.wrap ((k : Int) + 1) = (k : Int) + 1 := IntWalk.i64_in _ (by omega)
        have hk1 : (k : Int) + 1 ≤ (l.length : Int) := by omega
        have hk2 : (k : Int) ≤ (k : Int) + 1 := by omega
        have hk3 : (k : Int) + 1 ≤ (s.size : Int) := by omega
        have hba := B_append p [s[k]]
        have z1 := B_size p
        have z2 := B_size [s[k]]
        have hpl : p.length ≤ 1000000 := by
          have := (parts_le (l.take k)); rw [p1] at this; simp at this; omega
        simp only [List.length_singleton] at z2
        rw [← hex] at hba z2
        clear hown hown4 hst1 hst2 hown6 hb6 p1 p2 htk e hd hm h10 hex
        have hcat : ¬ 9223372036854775807 < p.length + 1 := by omega
        generalize B (p ++ [s[k]]) = np at *
        generalize B p = bp at *
        go_wp2_with fail
        refine wp_region_still_tail 17 (by kernel_rfl) (by kernel_rfl) ?_
        simp only [List.take_succ_cons, List.take_zero, List.drop_succ_cons, List.drop_zero]
        repeat still_step
        refine wpStill_nil ?_
        change wpList _ _ _ _ _ wr.drew
        go_wp2_with fail
        go_roundw
        case rel => exact ⟨k + 1, hlt, by go_num, HB1.out, by rw [T2.out]; omega, HB2.out.drew⟩
        case measure => simp [intOf]; omega
    · obtain rfl : k = s.size := by omega
      rw [List.take_of_length_le (by omega)] at hown
      go_wp2_with fail
      go_ret
      exact ⟨_, rfl, hown, hb⟩
end Go.Proofs.YtgaooalckjjplaaGreatDoor

