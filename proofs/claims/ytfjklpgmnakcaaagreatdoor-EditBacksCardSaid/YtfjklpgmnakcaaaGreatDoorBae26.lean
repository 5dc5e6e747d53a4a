/- Texts put together: KL, KO, QC. -/
import Derived.Carry
import Derived.Test.YtfjklpgmnakcaaaGreatDoorBae2
import Derived.Test.YtfjklpgmnakcaaaGreatDoorBae11
import Derived.Test.YtfjklpgmnakcaaaGreatDoorBae14
import Derived.Test.YtfjklpgmnakcaaaGreatDoorBae15
import Derived.Test.YtfjklpgmnakcaaaGreatDoorBae20
import Derived.Test.YtfjklpgmnakcaaaGreatDoorBae22
import Derived.Test.YtfjklpgmnakcaaaGreatDoorBae25
set_option linter.unusedVariables false
set_option maxRecDepth 100000
set_option maxHeartbeats 16000000
namespace Go.Proofs.YtfjklpgmnakcaaaGreatDoor
open Go.RowKit Go.Shelf
attribute [local go_sem] Oper.semAt_some
structure WS where
  f : Int -> Option Int
  next : Int
  out : List Value
def undoC (f : Int -> Option Int) (c : St6) : List Value :=
  if c.1 = 1 then [.int .i64 1, .int .i64 (nowOf f c.2.1), c.2.2.2.1] else if c.1 = 2 then [.int .i64 3, .int .i64 (nowOf f c.2.2.2.2.1), c.2.2.2.1] else [.int .i64 2, .int .i64 (nowOf f c.2.2.2.2.2), .slice none 0 0]
def wsStep (s : WS) (c : St6) : WS := ⟨if c.1 = 2 then (fun k => if k = c.2.1 then some s.next else s.f k) else s.f, if c.1 = 2 then s.next + 1 else s.next, s.out ++ undoC s.f c⟩
def wsAll (next : Int) (xs : List (Nat × St6)) : WS := xs.foldl (fun s x => wsStep s x.2) ⟨fun _ => none, next, []⟩
theorem wsAll_snoc (next : Int) (pre : List (Nat × St6)) (x : Nat × St6) : wsAll next (pre ++ [x]) = wsStep (wsAll next pre) x.2 := by
  unfold wsAll; rw [List.foldl_append]; rfl
theorem undoC_len (f : Int -> Option Int) (c : St6) : (undoC f c).length = 3 := by unfold undoC; split; rfl; split <;> rfl
theorem wsAll_next (next : Int) : ∀ (k : Nat) (pre : List (Nat × St6)), pre.length = k -> next <= (wsAll next pre).next /\ (wsAll next pre).next <= next + k := by
  intro k
  induction k with
  | zero => intro pre h; rw [List.length_eq_zero_iff.1 h]; exact ⟨Int.le_refl _, by show next <= next + ((0 : Nat) : Int); omega⟩
  | succ k ih =>
  intro pre h
  obtain ⟨pre, x, rfl⟩ : ∃ p x, pre = p ++ [x] := ⟨pre.dropLast, pre.getLast (by intro e; rw [e] at h; cases h), (List.dropLast_concat_getLast _).symm⟩
  have := ih pre (by simpa using h)
  rw [wsAll_snoc]
  unfold wsStep
  dsimp only
  split <;> omega
structure StepOk (c : St6) : Prop where
  kind : c.1 = 1 \/ c.1 = 2 \/ c.1 = 3
  wi : (Lit.int .i64 c.2.1).wf = true
  wp : (Lit.int .i64 c.2.2.2.2.1).wf = true
  wq : (Lit.int .i64 c.2.2.2.2.2).wf = true
  fv : ∃ fa fn fc, c.2.2.1 = .slice fa fn fc
  wv : ∃ ga gn gc, c.2.2.2.1 = .slice ga gn gc
theorem bkL_mem {cs : List St6} {x : Nat × St6} (h : x ∈ bkL cs) : x.2 ∈ cs := by
  unfold bkL at h
  rw [List.mem_reverse, List.mem_map] at h
  obtain ⟨p, hp, rfl⟩ := h
  exact (List.mem_zipIdx' hp).2 ▸ List.getElem_mem _
theorem infoEditL : (Tryz.prog.info? 53).map (fun i => (i.zero, i.size, i.bytes)) = some (some (.agg #[.int .i64 0, .int .i64 0, .slice none 0 0]), 3, 40) := by kernel_rfl
theorem undoV_C {f : Int -> Option Int} {k i p q : Int} {fv : Value} {ga : Option Addr} {gn gc : Nat} : undoV f k i p q ga gn gc = (undoC f (k, i, fv, .slice ga gn gc, p, q)).toArray := by
  unfold undoV undoC
  dsimp only
  split
  . rfl
  split <;> rfl
theorem undoC_one {f : Int -> Option Int} {c : St6} (h : StepOk c) : ∀ u ∈ undoC f c, u.oneCell' = true := by
  obtain ⟨ga, gn, gc, e⟩ := h.wv
  intro u hu
  unfold undoC at hu
  rw [e] at hu
  split at hu
  . simp at hu; rcases hu with rfl | rfl | rfl <;> rfl
  split at hu
  . simp at hu; rcases hu with rfl | rfl | rfl <;> rfl
  simp at hu; rcases hu with rfl | rfl | rfl <;> rfl
structure WbR (w : World) (v : Value) (nx : Int) (pre : List (Nat × St6)) (W : World) : Prop where
  nb : Boxed W w.heap.size 3 (.int .i64 (wsAll nx pre).next)
  mp : ∃ n, n <= pre.length /\ RenM W (w.heap.size + 1) n (wsAll nx pre).f
  rb : Boxed W (w.heap.size + 1 + 1) 113 (.map (some (w.heap.size + 1)))
  fb : Boxed W (w.heap.size + 1 + 1 + 1) 115 (.func (.func 45) #[] #[.pointer (some ⟨w.heap.size + 1 + 1, 0, none⟩)])
  bb : ∃ u, Boxed W (w.heap.size + 1 + 1 + 1 + 1) 22 u /\ W.ownsRow (w.heap.size + 8) 53 3 u pre.length (wsAll nx pre).out
  sb : Boxed W (w.heap.size + 1 + 1 + 1 + 1 + 1) 62 v
  bel : Below w.heap.size w W
theorem WbR.turned {w : World} {v : Value} {nx : Int} {pre : List (Nat × St6)} {W W' : World} (h : WbR w v nx pre W) (ht : Turned (w.heap.size + 6) 2 W W') : WbR w v nx pre W' := by
  obtain ⟨n, hn, hm⟩ := h.mp
  obtain ⟨u, hu, hr⟩ := h.bb
  exact ⟨ht.box h.nb (.inl (by omega)), ⟨n, hn, hm.same (ht.same _ hm.lt (.inl (by omega)))⟩, ht.box h.rb (.inl (by omega)), ht.box h.fb (.inl (by omega)), ⟨u, ht.box hu (.inl (by omega)), ht.row hr (fun b e => .inr (by have := (hr.lt b e).1; omega))⟩, ht.box h.sb (.inl (by omega)), h.bel.trans (ht.below (by omega) (by have := h.bel.size; omega))⟩
theorem WbR.alloc {w : World} {v : Value} {nx : Int} {pre : List (Nat × St6)} {W : World} (h : WbR w v nx pre W) (o : Obj) : WbR w v nx pre (W.alloc o) := h.turned ((Turned.refl _ _ _).alloc o)
theorem wayback_any (cs : List St6) (v : Value) (nx : Int) (N : Nat) (w : World) (hl : cs.length <= 100) (hE : w.ownsRow N 65 6 v cs.length (st6Row cs)) (hok : ∀ c ∈ cs, StepOk c) (hn0 : 0 <= nx) (hn1 : nx <= 1000000) :
    Calls Tryz.prog 24 #[v, .int .i64 nx] w fun e w' => ∃ u, e = .returned u /\ w'.ownsRow w.heap.size 53 3 u cs.length (wsAll nx (bkL cs)).out /\ Below w.heap.size w w' := by
  obtain ⟨A, cap, hv⟩ : ∃ A cap, v = .slice A cs.length cap := by
    rcases hE.2 with ⟨e, h0⟩ | ⟨g, cap, cur, e, _⟩
    . exact ⟨none, 0, by rw [e, h0]⟩
    exact ⟨_, _, e⟩
  have BS := Lib.hid (fun W => callsIn_wide (n := 8).2 (back_start v W A cs.length cap hv))
  have HV := Lib.hid hv
  have HE := Lib.hid hE
  clear hv hE
  have hmm := @run_makeMap Tryz.prog
  have hfs := fun (W : World) (a b : Addr) (m : _) => run_store Tryz.prog W a (.func (.func 45) #[] #[.pointer (some b)]) m rfl
  refine callsIn_wide (n := 9).1 ?_
  refine callsIn_of_wp_marks Tryz.func24 rfl trivial ?_ rfl
  simp only [Tryz.ntmps24, List.size_toArray, List.length_cons, List.length_nil, Nat.reduceAdd, Nat.reduceSub, Array.replicate_succ, Array.replicate_zero, List.push_toArray, List.append_toArray, List.nil_append, List.cons_append]
  gi_wp2_with fail
  refine ⟨trivial, (BS.out _).mono ?_⟩
  rintro e w1 ⟨rfl, rfl⟩
  gi_wp2_with fail
  obtain ⟨w1, hw1⟩ : ∃ w1, w1 = ((((((w.alloc (.cells #[.int .i64 nx] 3)).alloc (.map #[] 0)).alloc (.cells #[.map (some (w.heap.size + 1))] 113)).alloc (.cells #[.func (.func 45) #[] #[.pointer (some ⟨w.heap.size + 1 + 1, 0, none⟩)]] 115)).alloc (.cells #[.slice none 0 0] 22)).alloc (.cells #[v] 62)) := ⟨_, rfl⟩
  have hz : w1.heap.size = w.heap.size + 6 := by rw [hw1]; simp
  have hb1 : Below w.heap.size w w1 := by
    rw [hw1]
    exact ((((((Below.refl _ w).alloc (Nat.le_refl _) _).alloc (by simp) _).alloc (by simp <;> omega) _).alloc (by simp <;> omega) _).alloc (by simp <;> omega) _).alloc (by simp <;> omega) _
  have R1 : WbR w v nx [] w1 := by
    rw [hw1]
    refine ⟨?_, ⟨0, Nat.le_refl _, ?_⟩, ?_, ?_, ⟨.slice none 0 0, ?_, ⟨rfl, .inl ⟨rfl, rfl⟩⟩⟩, ?_, by rw [<- hw1]; exact hb1⟩
    . exact (((((Boxed.new w _ _).alloc _).alloc _).alloc _).alloc _).alloc _
    . have := RenM.made (w.alloc (.cells #[.int .i64 nx] 3))
      rw [World.size_alloc] at this
      exact (((this.below ((Below.refl _ _).alloc (Nat.le_refl _) _)).below ((Below.refl _ _).alloc (Nat.le_refl _) _)).below ((Below.refl _ _).alloc (Nat.le_refl _) _)).below ((Below.refl _ _).alloc (Nat.le_refl _) _)
    . exact (((boxNew3 w _ _ _ _).alloc _).alloc _).alloc _
    . exact ((boxNew4 w _ _ _ _ _).alloc _).alloc _
    . have := Boxed.new ((((w.alloc (.cells #[.int .i64 nx] 3)).alloc (.map #[] 0)).alloc (.cells #[.map (some (w.heap.size + 1))] 113)).alloc (.cells #[.func (.func 45) #[] #[.pointer (some ⟨w.heap.size + 1 + 1, 0, none⟩)]] 115)) 22 (.slice none 0 0)
      simp only [World.size_alloc] at this
      exact this.alloc _
    have := Boxed.new (((((w.alloc (.cells #[.int .i64 nx] 3)).alloc (.map #[] 0)).alloc (.cells #[.map (some (w.heap.size + 1))] 113)).alloc (.cells #[.func (.func 45) #[] #[.pointer (some ⟨w.heap.size + 1 + 1, 0, none⟩)]] 115)).alloc (.cells #[.slice none 0 0] 22)) 62 v
    simp only [World.size_alloc] at this
    exact this
  rw [<- hw1]
  clear hw1
  have HE1 := Lib.hid (fun W (hB : Below w.heap.size w W) => row_below HE.out hB (Nat.le_refl _))
  have HH := back_hands cs v _ N w1 R1.sb (by omega) (HE1.out w1 hb1)
  obtain ⟨i0, hi, hz0, hz1, hz2⟩ := info_parts infoEditL
  clear hmm hfs
  refine wp_rangedKA (gf := 73) (lb := #[.pointer (some ⟨w.heap.size + 1 + 1 + 1 + 1 + 1, 0, none⟩)]) rfl (enters_of Tryz.func73 (by kernel_rfl) rfl) HH (fun _ => rfl)
    (fun pre W => WbR w v nx pre W)
    (fun _ _ _ => False)
    (by rw [hz]; exact fun pre W W' h ht => h.turned ht)
    (fun _ _ _ _ hs _ => hs)
    R1
    (fun pre W h => ⟨HE1.out _ h.bel, h.sb⟩)
    (fun a pre x a' W => ∃ Bx, w.heap.size + 8 <= Bx /\ a' = { tmps := ((a.tmps.setIfInBounds 14 (.int .i64 (x.1 : Nat))).setIfInBounds 15 (st6V x.2)).setIfInBounds 9 (.pointer (some ⟨Bx, 0, none⟩)), defers := [] } /\ Cells W Bx 65 #[.int .i64 x.2.1, .int .i64 x.2.2.1, x.2.2.2.1, x.2.2.2.2.1, .int .i64 x.2.2.2.2.2.1, .int .i64 x.2.2.2.2.2.2] /\ WbR w v nx pre W)
    ?hM ?assign ?body ?done ?stop
  case hM =>
    rw [hz]
    rintro a pre x a' _ W W' ⟨Bx, h1, h2, h3, h4⟩ ht
    exact ⟨Bx, h1, h2, (ht.same Bx h3.lt (.inr (by omega))).trans h3, h4.turned ht⟩
  case assign =>
    rw [hz]
    intro l pre x post W hx hsz hi
    have ok := hok x.2 (bkL_mem (by rw [hx]; simp))
    obtain ⟨k, c1, c2, c3, c4, c5, c6⟩ := x
    obtain ⟨fa, fn, fc, e1⟩ := ok.fv
    obtain ⟨ga, gn, gc, e2⟩ := ok.wv
    dsimp only at e1 e2
    subst e1 e2
    clear hx ok
    dsimp only [st6V]
    gi_wp2
    exact ⟨(Stay.refl _ _ W).alloc hsz _, W.heap.size, by omega, rfl, Cells.new _ _ _, hi.alloc _⟩
  case body =>
    rw [hz]
    rintro l pre x post a' W hx hsz ⟨Bx, hB, rfl, hc, hr⟩
    have ok := hok x.2 (bkL_mem (by rw [hx]; simp))
    have hlen : pre.length < cs.length := by
      have h4 := congrArg List.length hx
      have : (bkL cs).length = cs.length := by unfold bkL; simp
      simp at h4
      omega
    have hnx := wsAll_next nx pre.length pre rfl
    obtain ⟨k, c1, c2, c3, c4, c5, c6⟩ := x
    obtain ⟨fa, fn, fc, e1⟩ := ok.fv
    obtain ⟨ga, gn, gc, e2⟩ := ok.wv
    dsimp only at e1 e2
    subst e1 e2
    obtain ⟨n, hn, hm⟩ := hr.mp
    obtain ⟨u, hu, hrow⟩ := hr.bb
    obtain ⟨ua, uc, rfl, _⟩ := own_slice hrow
    simp only [List.setIfInBounds_toArray, List.set_cons_zero, List.set_cons_succ, st6V]
    dsimp only at hc
    have UND := Lib.hid (fun W' (hb : Below W.heap.size W W') => undo_any (hm.below hb) (show Cells W' (w.heap.size + 1 + 1) 113 #[.map (some (w.heap.size + 1))] from (hb.block _ hr.rb.lt).trans hr.rb) c1 c2 c5 c6 ok.kind ok.wi ok.wp ok.wq fa ga fn fc gn gc)
    have WN := wsAll_snoc nx pre (k, c1, c2, .slice fa fn fc, .slice ga gn gc, c5, c6)
    refine wpIn_block (wpIn_seq (wp_region_round (by decide +kernel) (by rintro ⟨a, w, h⟩; exact h) (by kernel_rfl) ?_))
    refine region_wb6 _ W.drew (w.heap.size + 1 + 1 + 1 + 1) Bx (w.heap.size + 1 + 1 + 1) (w.heap.size + 8) (.slice ua pre.length uc) (.func (.func 45) #[] #[.pointer (some ⟨w.heap.size + 1 + 1, 0, none⟩)]) c1 c2 c5 c6 fa ga fn fc gn gc
      (fun v _ => v = .agg (undoC (wsAll nx pre).f (c1, c2, .slice fa fn fc, .slice ga gn gc, c5, c6)).toArray) _ rfl rfl rfl rfl ?hS ?hlo ?hE ?hPM ?hPF ?hC3 ?hQ
    case hS =>
      intro W' hb
      have hb' := (Below.refl W.heap.size W).drew.trans hb
      exact ⟨Boxed.cell (show Boxed W' _ 22 _ from (hb'.block _ hu.lt).trans hu), Boxed.cell (show Boxed W' _ 115 _ from (hb'.block _ hr.fb.lt).trans hr.fb)⟩
    case hlo => show w.heap.size + 8 <= W.heap.size; omega
    case hE =>
      intro W' hb
      have hb' := (Below.refl W.heap.size W).drew.trans hb
      have h := cells_kept hc hb' hc.lt
      exact ⟨by rw [h.cell]; rfl, by rw [h.cell]; rfl, by rw [h.cell]; rfl, by rw [h.cell]; rfl, by rw [h.cell]; rfl, by rw [h.cell]; rfl⟩
    case hPM => exact fun v x y _ h => h
    case hPF =>
      rintro v w rfl
      unfold undoC
      dsimp only
      split
      . exact ⟨_, _, _, _, _, rfl⟩
      split <;> exact ⟨_, _, _, _, _, rfl⟩
    case hC3 =>
      intro W' hb
      refine (UND.out W' ((Below.refl W.heap.size W).drew.trans hb)).mono ?_
      rintro e w' ⟨rfl, hb2⟩
      exact ⟨_, rfl, by rw [undoV_C], hb2⟩
    case hQ =>
    intro y0 y1 y2 y3 y4 w2 hb2 hy0 hy4
    try dsimp only at hy0 hy4
    subst hy0
    obtain ⟨b, u2, cs2, rfl, hu2, hlob, hcs, hcb⟩ := hy4
    rw [hu2] at hcs
    obtain rfl := Value.agg.inj hcs
    have hB2 : Below W.heap.size W w2 := (Below.refl W.heap.size W).drew.trans hb2
    have HV : Hid (∀ (j : Nat) (t : Value), (undoC (wsAll nx pre).f (c1, c2, .slice fa fn fc, .slice ga gn gc, c5, c6))[j]? = some t -> w2.cell? ((⟨b, 0, none⟩ : Addr).add j) = some t) := fun j t h => by
      have ea : (⟨b, 0, none⟩ : Addr).add j = ⟨b, j, none⟩ := by unfold Addr.add; split <;> simp_all
      rw [ea, hcb.cell j]; simpa using h
    have HR := Lib.hid (row_below hrow hB2 (Nat.le_refl _))
    have HLEN := Lib.hid (undoC_len (wsAll nx pre).f (c1, c2, .slice fa fn fc, .slice ga gn gc, c5, c6))
    have HONE := Lib.hid (undoC_one (f := (wsAll nx pre).f) ok)
    have hlo2 : w.heap.size + 8 <= w2.heap.size := by have := hB2.size; omega
    have HB2 := Lib.hid hB2
    have HRR := Lib.hid hr
    have HC := Lib.hid hc
    have HM := Lib.hid hm
    have HU := Lib.hid hu
    have HX := Lib.hid hx
    have HWN := Lib.hid WN
    have HOK := Lib.hid ok
    have hk3 := ok.kind
    dsimp only at hk3
    clear hcs hu2 hcb hb2 hB2 hr hc hm hu hx WN hrow UND ok
    simp only [List.foldl, List.setIfInBounds_toArray, List.set_cons_zero, List.set_cons_succ]
    go_wp2_with (at_builtin; refine wpList_append_at rfl _ _ 22 rfl (w.heap.size + 8) 53 i0 _ 3 40 Tryz.underlying22 hi hz0 hz1 hz2 rfl (by decide) _ _ _ rfl HR.out ⟨b, 0, none⟩ 1 1 _ rfl HLEN.out HV.out HONE.out (by unfold maxLen; omega) (by omega) hlo2 ?_)
    intro v' w3 own3 grow3 at3
    obtain ⟨na, nc, rfl, _⟩ := own_slice own3
    have hrw : ∀ r, (Value.slice ua pre.length uc).ownBlock = some r -> w.heap.size + 8 <= r := fun r e => (HR.out.lt r e).1
    have hC2 := cells_kept HC.out HB2.out HC.out.lt
    have hneB := own_cells_ne HR.out hC2 (by decide)
    have hsW := HB2.out.size
    have hs3 := grow3.size
    have keep : ∀ r, r < w.heap.size + 8 -> w3.heap[r]? = W.heap[r]? := fun r hr => by
      rw [grow3.block r (by omega) (fun e => by have := hrw r e.symm; omega)]
      exact HB2.out.block r (by omega)
    have bb3 : Boxed w3 (w.heap.size + 1 + 1 + 1 + 1) 22 (.slice ua pre.length uc) := (keep _ (by omega)).trans HU.out
    have nb3 : Boxed w3 w.heap.size 3 (.int .i64 (wsAll nx pre).next) := (keep _ (by omega)).trans HRR.out.nb
    have rb3 : Boxed w3 (w.heap.size + 1 + 1) 113 (.map (some (w.heap.size + 1))) := (keep _ (by omega)).trans HRR.out.rb
    have fb3 : Boxed w3 (w.heap.size + 1 + 1 + 1) 115 _ := (keep _ (by omega)).trans HRR.out.fb
    have sb3 : Boxed w3 (w.heap.size + 1 + 1 + 1 + 1 + 1) 62 v := (keep _ (by omega)).trans HRR.out.sb
    have rm3 : RenM w3 (w.heap.size + 1) n (wsAll nx pre).f := HM.out.same (keep _ (by omega))
    have hC3 := hC2.grown grow3 (fun e => hneB e.symm)
    have bl3 : Below w.heap.size w w3 := (HRR.out.bel.trans (HB2.out.mono HRR.out.bel.size)).grown grow3 (by omega) (fun r e => by have := hrw r e; omega)
    have st3 : Stay (w.heap.size + 6) 2 W w3 := ⟨by omega, fun r a b => keep r (by omega)⟩
    have hne4 : (Value.slice na (pre.length + 1) nc).ownBlock ≠ some (w.heap.size + 1 + 1 + 1 + 1) := fun e => by have := (own3.lt _ e).1; omega
    have ow4 := row_cell own3 (p := ⟨w.heap.size + 1 + 1 + 1 + 1, 0, none⟩) hne4 (.slice na (pre.length + 1) nc)
    have bb4 := Boxed.set (.slice na (pre.length + 1) nc) bb3
    have nb4 := nb3.other (B' := w.heap.size + 1 + 1 + 1 + 1) (by omega) (.slice na (pre.length + 1) nc)
    have rb4 := rb3.other (B' := w.heap.size + 1 + 1 + 1 + 1) (by omega) (.slice na (pre.length + 1) nc)
    have fb4 := fb3.other (B' := w.heap.size + 1 + 1 + 1 + 1) (by omega) (.slice na (pre.length + 1) nc)
    have sb4 := sb3.other (B' := w.heap.size + 1 + 1 + 1 + 1) (by omega) (.slice na (pre.length + 1) nc)
    have rm4 : RenM (w3.setCell ⟨w.heap.size + 1 + 1 + 1 + 1, 0, none⟩ (.slice na (pre.length + 1) nc)) (w.heap.size + 1) n (wsAll nx pre).f := rm3.same (Below.heap_setCell _ _ _ _ (by show w.heap.size + 1 ≠ w.heap.size + 1 + 1 + 1 + 1; omega))
    have bl4 := bl3.setCell (p := ⟨w.heap.size + 1 + 1 + 1 + 1, 0, none⟩) (by show w.heap.size <= w.heap.size + 1 + 1 + 1 + 1; omega) (.slice na (pre.length + 1) nc)
    have st4 := st3.setCell (p := ⟨w.heap.size + 1 + 1 + 1 + 1, 0, none⟩) (.inl (by show w.heap.size + 1 + 1 + 1 + 1 < _; omega)) (.slice na (pre.length + 1) nc)
    have k0 : w3.cell? ⟨Bx, 0, none⟩ = some (.int .i64 c1) := by rw [hC3.cell]; rfl
    have k1 : w3.cell? ⟨Bx, 1, none⟩ = some (.int .i64 c2) := by rw [hC3.cell]; rfl
    have kl := hC3.lt
    have q4 := bb3.cell
    have q0 := nb3.cell
    have q2 := rb3.cell
    have g4 := bb3.frozen
    have g0 := nb3.frozen
    have hBn : Bx ≠ w.heap.size + 1 + 1 + 1 + 1 := by omega
    have hlp : (pre ++ [(k, c1, c2, Value.slice fa fn fc, Value.slice ga gn gc, c5, c6)]).length = pre.length + 1 := by simp
    by_cases h2 : c1 = 2
    . have hwfn : (Lit.int .i64 (wsAll nx pre).next).wf = true := by simp [Lit.wf, IntKind.min, IntKind.max, IntKind.signed, IntKind.bits]; omega
      have hz4 : (w3.setCell ⟨w.heap.size + 1 + 1 + 1 + 1, 0, none⟩ (.slice na (pre.length + 1) nc)).heap.size = w3.heap.size := by simp [World.setCell]
      obtain ⟨w5, hrun, rm5, ho5, hs5⟩ := rm4.store (by unfold maxLen; omega) c2 HOK.out.wi (wsAll nx pre).next hwfn
      have nb5 : Boxed w5 w.heap.size 3 (.int .i64 (wsAll nx pre).next) := (ho5.same _ nb4.lt (by omega)).trans nb4
      have rb5 : Boxed w5 (w.heap.size + 1 + 1) 113 (.map (some (w.heap.size + 1))) := (ho5.same _ rb4.lt (by omega)).trans rb4
      have fb5 : Boxed w5 (w.heap.size + 1 + 1 + 1) 115 _ := (ho5.same _ fb4.lt (by omega)).trans fb4
      have bb5 : Boxed w5 (w.heap.size + 1 + 1 + 1 + 1) 22 _ := (ho5.same _ bb4.lt (by omega)).trans bb4
      have sb5 : Boxed w5 (w.heap.size + 1 + 1 + 1 + 1 + 1) 62 v := (ho5.same _ sb4.lt (by omega)).trans sb4
      have ow5 := row_only ow4 ho5 (fun b e q => by have := (ow4.lt b e).1; omega)
      have bl5 : Below w.heap.size w w5 := bl4.trans (ho5.to_below (by rw [hz4]; omega) (fun r hr e => by omega))
      have st5 : Stay (w.heap.size + 6) 2 W w5 := st4.trans ⟨ho5.size, fun r a b => ho5.same r (by rw [hz4]; omega) (by omega)⟩
      have hws : wsStep (wsAll nx pre) (c1, c2, .slice fa fn fc, .slice ga gn gc, c5, c6) = ⟨fun k => if k = c2 then some (wsAll nx pre).next else (wsAll nx pre).f k, (wsAll nx pre).next + 1, (wsAll nx pre).out ++ undoC (wsAll nx pre).f (c1, c2, .slice fa fn fc, .slice ga gn gc, c5, c6)⟩ := by
        unfold wsStep
        rw [if_pos h2, if_pos h2]
      have FIN : Hid (Stay (w.heap.size + 6) 2 W (w5.setCell ⟨w.heap.size, 0, none⟩ (.int .i64 ((wsAll nx pre).next + 1))) /\ WbR w v nx (pre ++ [(k, c1, c2, Value.slice fa fn fc, Value.slice ga gn gc, c5, c6)]) (w5.setCell ⟨w.heap.size, 0, none⟩ (.int .i64 ((wsAll nx pre).next + 1)))) := by
        refine ⟨st5.setCell (p := ⟨w.heap.size, 0, none⟩) (.inl (by show w.heap.size < _; omega)) _, ?_, ⟨n + 1, by rw [hlp]; omega, ?_⟩, rb5.other (B' := w.heap.size) (by omega) _, fb5.other (B' := w.heap.size) (by omega) _, ⟨_, bb5.other (B' := w.heap.size) (by omega) _, ?_⟩, sb5.other (B' := w.heap.size) (by omega) _, bl5.setCell (p := ⟨w.heap.size, 0, none⟩) (Nat.le_refl _) _⟩
        . rw [HWN.out, hws]; exact Boxed.set _ nb5
        . rw [HWN.out, hws]; exact rm5.same (Below.heap_setCell _ _ _ _ (by show w.heap.size + 1 ≠ w.heap.size; omega))
        rw [HWN.out, hws, hlp]; exact row_cell ow5 (p := ⟨w.heap.size, 0, none⟩) (fun e => by have : w.heap.size + 8 <= w.heap.size := (ow5.lt _ e).1; omega) _
      have hq2 : (c1 == 2) = true := by simpa using h2
      have q50 := nb5.cell
      have g50 := nb5.frozen
      clear own3 grow3 at3 hC2 hneB keep bb3 nb3 rb3 fb3 sb3 rm3 hC3 bl3 st3 ow4 bb4 nb4 rb4 fb4 sb4 rm4 bl4 st4 hws HV HR HLEN HONE HB2 HRR HC HM HU HX HWN HOK hlp hk3 nb5 rb5 fb5 bb5 sb5 ow5 bl5 st5 rm5 ho5 hs5 hz4 hwfn
      go_wp2_with fail
      gi_wp2_with fail
      exact FIN.out
    have hws : wsStep (wsAll nx pre) (c1, c2, .slice fa fn fc, .slice ga gn gc, c5, c6) = ⟨(wsAll nx pre).f, (wsAll nx pre).next, (wsAll nx pre).out ++ undoC (wsAll nx pre).f (c1, c2, .slice fa fn fc, .slice ga gn gc, c5, c6)⟩ := by
      unfold wsStep
      rw [if_neg h2, if_neg h2]
    have FIN : Hid (Stay (w.heap.size + 6) 2 W (w3.setCell ⟨w.heap.size + 1 + 1 + 1 + 1, 0, none⟩ (.slice na (pre.length + 1) nc)) /\ WbR w v nx (pre ++ [(k, c1, c2, Value.slice fa fn fc, Value.slice ga gn gc, c5, c6)]) (w3.setCell ⟨w.heap.size + 1 + 1 + 1 + 1, 0, none⟩ (.slice na (pre.length + 1) nc))) := by
      refine ⟨st4, ?_, ⟨n, by rw [hlp]; omega, ?_⟩, rb4, fb4, ⟨_, bb4, ?_⟩, sb4, bl4⟩
      . rw [HWN.out, hws]; exact nb4
      . rw [HWN.out, hws]; exact rm4
      rw [HWN.out, hws, hlp]; exact ow4
    have hq2 : (c1 == 2) = false := by simpa using h2
    clear own3 grow3 at3 hC2 hneB keep bb3 nb3 rb3 fb3 sb3 rm3 hC3 bl3 st3 ow4 bb4 nb4 rb4 fb4 sb4 rm4 bl4 st4 hws HV HR HLEN HONE HB2 HRR HC HM HU HX HWN HOK hlp hnx hk3
    go_wp2_with fail
    gi_wp2_with fail
    exact FIN.out
  case done =>
    rw [hz]
    rintro W hr hK
    obtain ⟨u, bu, hu⟩ := hr.bb
    obtain ⟨ua, uc, rfl, _⟩ := own_slice hu
    have c := bu.cell
    have hbl := hr.bel
    clear hr
    gi_wp2
    refine ⟨by simp, .inl ⟨_, _, rfl, run_takeDeferred hK, ?_⟩⟩
    have kb : Below w.heap.size W (W.putObj (w.heap.size + 6) (.deferred none)) := belowK_b (w := w) (Nat.le_refl _) W _ _ _ (by omega) hK rfl rfl
    have pb := grownBy_putObj' W (w.heap.size + 6) (.deferred none)
    refine ⟨_, results_tmp rfl _ _ _, .slice ua (bkL cs).length uc, rfl, ?_, hbl.trans kb⟩
    have hlen : (bkL cs).length = cs.length := by unfold bkL; simp
    rw [hlen] at hu ⊢
    exact rowBase (row_same hu fun b e => pb.block b (hu.lt b e).2 (fun q => by have := (hu.lt b e).1; have := Option.some.inj q; omega)) (by omega)
  case stop =>
  intro c pre W _ h _
  exact h.elim
end Go.Proofs.YtfjklpgmnakcaaaGreatDoor
namespace Go.Proofs.YtfjklpgmnakcaaaGreatDoor
open Go.RowKit Go.Shelf
def st6 (c : StC) : St6 := (c.k, c.i, c.fv, c.wv, c.ah, c.gv)
theorem stRow_6 (cs : List StC) : stRow cs = st6Row (cs.map st6) := by
  unfold stRow st6Row
  rw [List.flatMap_map]
  rfl
theorem bkL_len (cs : List St6) : (bkL cs).length = cs.length := by unfold bkL; simp
theorem bkL_get {cs : List St6} {i : Nat} (h : i < cs.length) : (bkL cs)[i]? = some (cs.length - 1 - i, cs[cs.length - 1 - i]) := by
  unfold bkL
  rw [List.getElem?_reverse (by simpa using h)]
  simp
def outC (o : Ed × Value) : List Value := [.int .i64 o.1.kind, .int .i64 o.1.id, o.2]
structure Tie (W : World) (s : WS) (b : BackS) (os : List (Ed × Value)) : Prop where
  ren : ∀ id, b.ren id = nowOf s.f id
  next : b.next = s.next
  eds : os.map Prod.fst = b.out
  out : s.out = os.flatMap outC
  flds : ∀ o ∈ os, FldR W o.2 o.1.fields
theorem tie_step {W : World} {s : WS} {b : BackS} {os : List (Ed × Value)} (h : Tie W s b os) {l : LS} {eds : List Ed} {N i : Nat} {c : StC} {ed : Ed} (ok : StOk l eds N W i c ed) (hk : ed.kind = 1 \/ ed.kind = 2 \/ ed.kind = 3) :
    ∃ os', Tie W (wsStep s (st6 c)) (backStep (lsOn l (eds.take i)) ed b) os' := by
  obtain ⟨hat, hck, hci, hca, hcg, hcf, hfl, _, hform⟩ := ok
  have hfs := hfl
  rw [hcf] at hfs
  unfold wsStep backStep st6
  dsimp only
  rw [hck, hci]
  have hren : ∀ id, (if ed.kind = 2 then updR b.ren ed.id b.next else b.ren) id = nowOf (if ed.kind = 2 then (fun k => if k = ed.id then some s.next else s.f k) else s.f) id := by
    intro id
    split
    . unfold updR nowOf
      by_cases q : id = ed.id
      . rw [if_pos q]; simp [q, h.next]
      rw [if_neg q]
      simp only [if_neg q]
      exact h.ren id
    exact h.ren id
  have hnext : (if ed.kind = 2 then b.next + 1 else b.next) = (if ed.kind = 2 then s.next + 1 else s.next) := by rw [h.next]
  rcases hk with hk | hk | hk
  . refine ⟨os ++ [(undoE b.ren (lsOn l (eds.take i)) ed, c.wv)], hren, hnext, by rw [List.map_append, h.eds]; rfl, ?_, fun o ho => ?_⟩
    . rw [List.flatMap_append, h.out]
      congr 1
      unfold undoC undoE outC
      simp [hk, h.ren]
    rcases List.mem_append.1 ho with ho | ho
    . exact h.flds o ho
    obtain rfl := List.mem_singleton.1 ho
    unfold undoE
    rw [if_pos hk]
    unfold stepWas at hfs
    rw [if_pos (.inl hk)] at hfs
    exact hfs
  . refine ⟨os ++ [(undoE b.ren (lsOn l (eds.take i)) ed, c.wv)], hren, hnext, by rw [List.map_append, h.eds]; rfl, ?_, fun o ho => ?_⟩
    . rw [List.flatMap_append, h.out]
      congr 1
      unfold undoC undoE outC
      rw [hca]
      unfold stepAhead
      simp [hk, h.ren]
    rcases List.mem_append.1 ho with ho | ho
    . exact h.flds o ho
    obtain rfl := List.mem_singleton.1 ho
    unfold undoE
    rw [if_neg (by omega), if_pos hk]
    unfold stepWas at hfs
    rw [if_pos (.inr hk)] at hfs
    exact hfs
  refine ⟨os ++ [(undoE b.ren (lsOn l (eds.take i)) ed, .slice none 0 0)], hren, hnext, by rw [List.map_append, h.eds]; rfl, ?_, fun o ho => ?_⟩
  . rw [List.flatMap_append, h.out]
    congr 1
    unfold undoC undoE outC
    rw [hcg]
    unfold stepGiven
    simp [hk, h.ren]
  rcases List.mem_append.1 ho with ho | ho
  . exact h.flds o ho
  obtain rfl := List.mem_singleton.1 ho
  unfold undoE
  rw [if_neg (by omega), if_neg (by omega)]
  exact fldR_none W
theorem tie_all {W : World} {l : LS} {eds : List Ed} {N : Nat} {cs : List StC} (hl : cs.length = eds.length) (he : ∀ (i : Nat) (c : StC), cs[i]? = some c -> ∃ ed, StOk l eds N W i c ed) (hk : ∀ ed ∈ eds, ed.kind = 1 \/ ed.kind = 2 \/ ed.kind = 3) :
    ∀ i, i <= eds.length -> ∃ os, Tie W (wsAll (lsOn l eds).next ((bkL (cs.map st6)).take i)) (backAt l eds i) os := by
  intro i
  induction i with
  | zero => exact fun _ => ⟨[], fun id => rfl, rfl, rfl, rfl, fun o h => by cases h⟩
  | succ i ih =>
  intro hi
  obtain ⟨os, h⟩ := ih (by omega)
  have hlm : (cs.map st6).length = eds.length := by rw [List.length_map, hl]
  have hg : (bkL (cs.map st6))[i]? = some _ := bkL_get (by omega)
  have hlt : i < (bkL (cs.map st6)).length := by rw [bkL_len]; omega
  rw [List.getElem?_eq_getElem hlt] at hg
  rw [List.take_succ_eq_append_getElem hlt, Option.some.inj hg, wsAll_snoc]
  have hci : eds.length - 1 - i < cs.length := by omega
  obtain ⟨ed, ok⟩ := he _ _ (List.getElem?_eq_getElem hci)
  have hb : backAt l eds (i + 1) = backStep (lsOn l (eds.take (eds.length - 1 - i))) ed (backAt l eds i) := by
    show (match eds[eds.length - 1 - i]? with | some ed => _ | none => _) = _
    rw [ok.at_]
  rw [hb]
  dsimp only
  have e1 : (cs.map st6)[(cs.map st6).length - 1 - i]'(by omega) = st6 (cs[eds.length - 1 - i]'hci) := by
    simp only [List.getElem_map, List.length_map]
    congr 1
    simp only [hl]
  rw [e1]
  exact tie_step h ok (hk ed (List.mem_of_getElem? ok.at_))
end Go.Proofs.YtfjklpgmnakcaaaGreatDoor
namespace Go.Proofs.YtfjklpgmnakcaaaGreatDoor
def more : List Ln -> List (List UInt8)
  | [] => []
  | x :: xs => if kindL x.text = 3 then x.text :: more xs else []
structure RS where
  out : List It
  kind : Int
  raw : List UInt8
  fields : List Fld
  records : Nat
  prev : Nat
def RS.new : RS := ⟨[], 2, [], [], 0, 0⟩
def refWrong (s : RS) (x : Ln) (xs : List Ln) : Nat :=
  if kindL x.text = 5 \/ (kindL x.text = 3 /\ ¬ (s.prev = 4 \/ s.prev = 3)) \/ x.ended = false then 2
  else if kindL x.text ≠ 4 then 0
  else if unfoldN (x.text :: more xs) ≠ 0 then unfoldN (x.text :: more xs)
  else if 40 <= s.fields.length \/ (s.fields.length = 0 /\ 400 <= s.records) then 11 else 0
def RS.block (s : RS) : List It := if s.raw = [] then [] else [⟨s.kind, s.raw, s.fields⟩]
def refPut (s : RS) (x : Ln) (xs : List Ln) : RS :=
  if kindL x.text = 1 then ⟨s.out ++ s.block ++ [⟨1, x.text ++ [10], []⟩], 2, [], [], s.records, 1⟩
  else if kindL x.text = 4 then ⟨s.out, 3, s.raw ++ x.text ++ [10], s.fields ++ [(unfoldK (x.text :: more xs), unfoldV (x.text :: more xs))], if s.kind = 2 then s.records + 1 else s.records, 4⟩
  else { s with raw := s.raw ++ x.text ++ [10], prev := kindL x.text }
def refRun : RS -> List Ln -> Res RS
  | s, [] => .ok s
  | s, x :: xs => if refWrong s x xs ≠ 0 then .error (x.no, refWrong s x xs) else refRun (refPut s x xs) xs
def refParseL (t : List UInt8) : Res (List It) :=
  match refRun RS.new (linesOf t) with
  | .error e => .error e
  | .ok s => .ok (s.out ++ s.block)
def Ends : List Ln -> Prop
  | [] => True
  | x :: xs => (x.ended = false -> xs = []) /\ Ends xs
theorem head_whole (l : List UInt8) (h : nl l = false) : head l = l := by
  have hm : (10 : UInt8) ∉ l := by
    intro hc
    have : nl l = true := by unfold nl; simpa using hc
    rw [this] at h; cases h
  unfold head
  clear h
  induction l with
  | nil => rfl
  | cons c t ih =>
  have hc : c ≠ 10 := fun e => hm (by rw [e]; exact List.mem_cons_self)
  rw [List.takeWhile_cons, if_pos (by simp [hc]), ih (fun he => hm (List.mem_cons_of_mem _ he))]
theorem ends_linesOn : ∀ (n no at_ : Nat) (l : List UInt8), l.length <= n -> Ends (linesOn no at_ l)
  | 0, no, at_, l, h => by
    have : l = [] := List.length_eq_zero_iff.1 (by omega)
    subst this; rw [linesOn_nil]; trivial
  | n + 1, no, at_, l, h => by
    by_cases hl : l = []
    . subst hl; rw [linesOn_nil]; trivial
    have hp := used_pos l hl
    rw [linesOn_cons _ _ _ hl]
    refine ⟨fun he => ?_, ends_linesOn n _ _ _ (by simp only [List.length_drop]; omega)⟩
    have hu : used l = (head l).length := by unfold used; rw [show nl l = false from he]; rfl
    have : l.drop (used l) = [] := by rw [hu, head_whole l he, List.drop_length]
    rw [this, linesOn_nil]
def pendN (p : PS) (xs : List Ln) : Nat := if unfoldN (p.said ++ more xs) ≠ 0 then unfoldN (p.said ++ more xs) else if fullP p then 11 else 0
def finish (t : List UInt8) (r : Res PS) : Res (List It) := match r with | .error e => .error e | .ok q => lastP t q
theorem run_cons' {t : List UInt8} {p q : PS} {x : Ln} {xs : List Ln} (h : takeP t p x = .ok q) : runP t p (x :: xs) = runP t q xs := by
  show (match takeP t p x with | .error e => Except.error e | .ok q => runP t q xs) = _
  rw [h]
theorem finish_cons {t : List UInt8} {p q : PS} {x : Ln} {xs : List Ln} (h : takeP t p x = .ok q) : finish t (runP t p (x :: xs)) = finish t (runP t q xs) := by
  unfold finish
  rw [run_cons' h]
theorem finish_no {t : List UInt8} {p : PS} {e : Nat × Nat} {x : Ln} {xs : List Ln} (h : takeP t p x = .error e) : finish t (runP t p (x :: xs)) = .error e := by
  unfold finish
  show (match (match takeP t p x with | .error e => Except.error e | .ok q => runP t q xs) with | .error e => _ | .ok q => _) = _
  rw [h]
theorem endN_said {p : PS} (h : p.said ≠ []) : endFieldN p = if unfoldN p.said ≠ 0 then unfoldN p.said else if fullP p then 11 else 0 := by
  unfold endFieldN; rw [if_neg h]
theorem take_err {t : List UInt8} {p : PS} {x : Ln} (h1 : endsP p x = true) (h2 : endFieldN (wentP p x) ≠ 0) : takeP t p x = .error ((wentP p x).begin_, endFieldN (wentP p x)) := by
  unfold takeP; rw [if_pos ⟨h1, h2⟩]
theorem take_form {t : List UInt8} {p : PS} {x : Ln} (h1 : endFieldN (wentP p x) = 0) (h2 : wrongP p x = true) : takeP t p x = .error (x.no, 2) := by
  unfold takeP; rw [if_neg (fun h => h.2 h1), h2]; rfl
theorem said_isEmpty {p : PS} (h : p.said ≠ []) : p.said.isEmpty = false := by
  cases hs : p.said with
  | nil => exact absurd hs h
  | cons a l => rfl
theorem run_pend (t : List UInt8) : ∀ (xs : List Ln) (p : PS), Ends xs -> p.said ≠ [] -> pendN p xs ≠ 0 -> finish t (runP t p xs) = .error (p.begin_, pendN p xs)
  | [], p, _, hs, hn => by
    have e : endFieldN p = pendN p [] := by rw [endN_said hs]; unfold pendN more; rw [List.append_nil]
    show lastP t p = _
    unfold lastP
    rw [e, if_pos hn]
  | x :: xs, p, ⟨he, hes⟩, hs, hn => by
    by_cases hk : kindL x.text = 3
    . have hg : goesP p x = true := by unfold goesP; rw [hk, said_isEmpty hs]; rfl
      have hw : wentP p x = { p with said := p.said ++ [x.text] } := by unfold wentP; rw [hg, if_pos rfl]
      have hpe : pendN { p with said := p.said ++ [x.text] } xs = pendN p (x :: xs) := by
        have e1 : (p.said ++ [x.text]) ++ more xs = p.said ++ more (x :: xs) := by
          show _ = p.said ++ (if kindL x.text = 3 then x.text :: more xs else [])
          rw [if_pos hk]; simp
        have e2 : fullP { p with said := p.said ++ [x.text] } = fullP p := rfl
        unfold pendN
        rw [e2]
        show (if unfoldN ((p.said ++ [x.text]) ++ more xs) ≠ 0 then unfoldN ((p.said ++ [x.text]) ++ more xs) else _) = _
        rw [e1]
      cases hx : x.ended with
      | true =>
        have hwr : wrongP p x = false := by unfold wrongP; rw [hk, hg, hx]; rfl
        have hen : endsP p x = false := by unfold endsP; rw [hwr, hg]; rfl
        have ht : takeP t p x = .ok { p with said := p.said ++ [x.text] } := by
          rw [take_of (by rw [hen]; intro h; cases h) hwr]
          unfold thenP; rw [hen, if_neg (by decide), hw]
          unfold putP; rw [hk]; rfl
        rw [finish_cons ht, run_pend t xs _ hes (by simp) (by rw [hpe]; exact hn), hpe]
      | false =>
      have hxs := he hx
      subst hxs
      have hwr : wrongP p x = true := by unfold wrongP; rw [hx]; simp
      have hen : endsP p x = true := by unfold endsP; rw [hwr]; rfl
      have hE : endFieldN (wentP p x) = pendN p [x] := by
        rw [hw, <- hpe, endN_said (by simp)]
        unfold pendN more; rw [List.append_nil]
      rw [finish_no (take_err hen (by rw [hE]; exact hn)), hE, hw]
    have hg : goesP p x = false := goes_kind hk
    have hw : wentP p x = p := by unfold wentP; rw [hg]; rfl
    have hen : endsP p x = true := by unfold endsP; rw [hg]; simp
    have hm : more (x :: xs) = [] := if_neg hk
    have hE : endFieldN (wentP p x) = pendN p (x :: xs) := by
      rw [hw, endN_said hs]; unfold pendN; rw [hm, List.append_nil]
    rw [finish_no (take_err hen (by rw [hE]; exact hn)), hE, hw]
structure Rel (t : List UInt8) (c : Nat) (p : PS) (s : RS) (xs : List Ln) : Prop where
  items : s.out = p.items
  raw : s.raw = (t.take c).drop p.at_
  at_ : p.at_ <= c
  full : c <= t.length
  rest : t.drop c = xs.flatMap Ln.bytes
  recd : s.records = p.stanzas + if p.fields = [] /\ p.said = [] then 0 else 1
  kind : s.kind = if p.fields = [] /\ p.said = [] then 2 else 3
  fields : s.fields = p.fields ++ if p.said = [] then [] else [(unfoldK (p.said ++ more xs), unfoldV (p.said ++ more xs))]
  ok : p.said ≠ [] -> pendN p xs = 0
  prev : (s.prev = 4 \/ s.prev = 3) ↔ p.said ≠ []
  began : p.fields = [] /\ p.said = [] \/ p.at_ < c
  st : p.stanzas <= 400
  st' : ¬ (p.fields = [] /\ p.said = []) -> p.stanzas <= 399
  fl : p.fields.length <= 40
theorem Rel.new (t : List UInt8) : Rel t 0 PS.new RS.new (linesOf t) :=
  ⟨rfl, rfl, Nat.le_refl _, Nat.zero_le _, (linesOf_join t).symm, rfl, rfl, rfl, fun h => absurd rfl h, ⟨(fun h => by rcases h with h | h <;> (exact absurd h (by decide))), fun h => absurd rfl h⟩, .inl ⟨rfl, rfl⟩, by decide, fun hn => absurd ⟨rfl, rfl⟩ hn, by decide⟩
theorem take_all {t : List UInt8} {c : Nat} {x : Ln} {xs : List Ln} (h : t.drop c = (x :: xs).flatMap Ln.bytes) (hc : c <= t.length) : t.take (c + x.bytes.length) = t.take c ++ x.bytes /\ t.drop (c + x.bytes.length) = xs.flatMap Ln.bytes /\ c + x.bytes.length <= t.length := by
  rw [List.flatMap_cons] at h
  have hl := congrArg List.length h
  rw [List.length_drop, List.length_append] at hl
  refine ⟨?_, ?_, by omega⟩
  . rw [List.take_add, h]; simp
  rw [<- List.drop_drop, h]; simp
theorem raw_more {t : List UInt8} {c a : Nat} {x : Ln} (h : t.take (c + x.bytes.length) = t.take c ++ x.bytes) (ha : a <= c) (hc : c <= t.length) : (t.take (c + x.bytes.length)).drop a = (t.take c).drop a ++ x.bytes := by
  rw [h, List.drop_append_of_le_length]
  rw [List.length_take]; omega
theorem more_three {x : Ln} {xs : List Ln} (h : kindL x.text = 3) : more (x :: xs) = x.text :: more xs := if_pos h
theorem more_else {x : Ln} {xs : List Ln} (h : kindL x.text ≠ 3) : more (x :: xs) = [] := if_neg h
theorem pend_said {p : PS} {xs : List Ln} (hs : p.said ≠ []) (hm : more xs = []) : pendN p xs = endFieldN p := by
  rw [endN_said hs]; unfold pendN; rw [hm, List.append_nil]
theorem endP_fields (p : PS) : (endFieldP p).fields = p.fields ++ if p.said = [] then [] else [(unfoldK p.said, unfoldV p.said)] := by
  unfold endFieldP
  split
  . rw [List.append_nil]
  rfl
theorem endP_stanzas (p : PS) : (endFieldP p).stanzas = p.stanzas := by unfold endFieldP; split <;> rfl
theorem endP_none (p : PS) : (endFieldP p).fields = [] ↔ p.fields = [] /\ p.said = [] := by
  rw [endP_fields]
  constructor
  . intro h
    by_cases hs : p.said = []
    . rw [if_pos hs, List.append_nil] at h; exact ⟨h, hs⟩
    rw [if_neg hs] at h; simp at h
  rintro ⟨h1, h2⟩; rw [h1, if_pos h2]; rfl
theorem Rel.fields_end {t : List UInt8} {c : Nat} {p : PS} {s : RS} {xs : List Ln} (h : Rel t c p s xs) (hm : more xs = []) : s.fields = (endFieldP p).fields := by
  rw [h.fields, endP_fields, hm, List.append_nil]
theorem endP_at (p : PS) : (endFieldP p).at_ = p.at_ := endField_at p
theorem endP_items (p : PS) : (endFieldP p).items = p.items := by unfold endFieldP; split <;> rfl
theorem block_rel {t : List UInt8} {c : Nat} {p : PS} {s : RS} {xs : List Ln} (h : Rel t c p s xs) (hm : more xs = []) :
    (endBlockP t (endFieldP p) c).items = s.out ++ s.block /\ (endBlockP t (endFieldP p) c).stanzas = s.records /\ (endBlockP t (endFieldP p) c).fields = [] /\ (endBlockP t (endFieldP p) c).said = [] /\ (endBlockP t (endFieldP p) c).at_ = c := by
  have hf := h.fields_end hm
  have hat := h.at_
  have hsaid := endBlock_said t (endFieldP p) c
  rw [endField_said] at hsaid
  have hat2 := endBlock_at t (endFieldP p) c (by rw [endP_at]; exact hat)
  by_cases hz : p.at_ = c
  . have hn : p.fields = [] /\ p.said = [] := by
      rcases h.began with h1 | h1
      . exact h1
      omega
    have e : endBlockP t (endFieldP p) c = endFieldP p := by unfold endBlockP; rw [if_pos (by rw [endP_at]; exact hz)]
    have hr : s.raw = [] := by
      rw [h.raw, hz, List.drop_eq_nil_of_le]; rw [List.length_take]; omega
    refine ⟨?_, ?_, ?_, hsaid, hat2⟩
    . rw [e, endP_items, h.items]; unfold RS.block; rw [if_pos hr, List.append_nil]
    . rw [e, endP_stanzas, h.recd, if_pos hn, Nat.add_zero]
    rw [e]; exact (endP_none p).2 hn
  have hr : s.raw ≠ [] := by
    intro e
    have := congrArg List.length e
    rw [h.raw, List.length_drop, List.length_take] at this
    have := h.full
    simp at *; omega
  by_cases hn : (endFieldP p).fields.length = 0
  . have hn' := (endP_none p).1 (List.length_eq_zero_iff.1 hn)
    have e : endBlockP t (endFieldP p) c = endItemP t (endFieldP p) 2 c := by
      unfold endBlockP; rw [if_neg (by rw [endP_at]; exact hz), if_pos hn]
    refine ⟨?_, ?_, ?_, hsaid, hat2⟩
    . rw [e]
      show (endFieldP p).items ++ [⟨((2 : Nat) : Int), (t.take c).drop (endFieldP p).at_, (endFieldP p).fields⟩] = _
      unfold RS.block
      rw [if_neg hr, endP_items, endP_at, h.items, h.kind, if_pos hn', h.raw, hf]; rfl
    . rw [e]
      show (endFieldP p).stanzas = _
      rw [endP_stanzas, h.recd, if_pos hn', Nat.add_zero]
    rw [e]; rfl
  have hn' : ¬ (p.fields = [] /\ p.said = []) := fun hh => hn (by rw [(endP_none p).2 hh]; rfl)
  have e : endBlockP t (endFieldP p) c = { endItemP t (endFieldP p) 3 c with stanzas := (endFieldP p).stanzas + 1 } := by
    unfold endBlockP; rw [if_neg (by rw [endP_at]; exact hz), if_neg hn]
  refine ⟨?_, ?_, ?_, hsaid, hat2⟩
  . rw [e]
    show (endFieldP p).items ++ [⟨((3 : Nat) : Int), (t.take c).drop (endFieldP p).at_, (endFieldP p).fields⟩] = _
    unfold RS.block
    rw [if_neg hr, endP_items, endP_at, h.items, h.kind, if_neg hn', h.raw, hf]; rfl
  . rw [e]
    show (endFieldP p).stanzas + 1 = _
    rw [endP_stanzas, h.recd, if_neg hn']
  rw [e]; rfl
theorem Rel.fl_end {t : List UInt8} {c : Nat} {p : PS} {s : RS} {xs : List Ln} (h : Rel t c p s xs) : (endFieldP p).fields.length <= 40 := by
  have fl := h.fl
  rw [endP_fields, List.length_append]
  by_cases hs : p.said = []
  . rw [if_pos hs]; simpa using fl
  rw [if_neg hs]
  have hok := h.ok hs
  unfold pendN at hok
  have hfull : fullP p = false := by
    split at hok
    . rename_i hu; exact absurd hok hu
    cases hf : fullP p with
    | false => rfl
    | true => rw [hf] at hok; simp at hok
  unfold fullP at hfull
  split at hfull
  . simp; omega
  have : p.fields.length ≠ 40 := by simpa using hfull
  simp; omega
theorem Rel.records_le {t : List UInt8} {c : Nat} {p : PS} {s : RS} {xs : List Ln} (h : Rel t c p s xs) : s.records <= 400 := by
  have st := h.st
  rw [h.recd]
  split
  . omega
  rename_i hn; have := h.st' hn; omega
theorem kind_of {l : List UInt8} (_ : (10 : UInt8) ∉ l) : kindL l = 1 \/ kindL l = 2 \/ kindL l = 3 \/ kindL l = 4 \/ kindL l = 5 := by
  unfold kindL
  split; · simp
  split; · simp
  split; · simp
  split; · simp
  split <;> simp
theorem run_rel (t : List UInt8) : ∀ (xs : List Ln) (no c : Nat) (p : PS) (s : RS), Runs no c xs -> Ends xs -> (∀ x ∈ xs, (10 : UInt8) ∉ x.text) -> Rel t c p s xs ->
    finish t (runP t p xs) = match refRun s xs with | .error e => .error e | .ok s' => .ok (s'.out ++ s'.block)
  | [], no, c, p, s, _, _, _, h => by
    have hcl : c = t.length := by
      have := congrArg List.length h.rest
      rw [List.length_drop] at this
      have := h.full
      simp at *; omega
    have h0 : endFieldN p = 0 := by
      by_cases hs : p.said = []
      . unfold endFieldN; rw [if_pos hs]
      rw [<- pend_said hs (xs := []) rfl]; exact h.ok hs
    show lastP t p = Except.ok (s.out ++ s.block)
    unfold lastP
    rw [if_neg (by rw [h0]; decide), <- hcl, (block_rel h rfl).1]
  | x :: xs, no, c, p, s, ⟨r1, r2, r3, r4⟩, ⟨he, hes⟩, hcl, h => by
    obtain ⟨t1, t2, t3⟩ := take_all h.rest h.full
    have hclx : (10 : UInt8) ∉ x.text := hcl x List.mem_cons_self
    have hcl' : ∀ y ∈ xs, (10 : UInt8) ∉ y.text := fun y hy => hcl y (List.mem_cons_of_mem _ hy)
    show finish t (runP t p (x :: xs)) = match (if refWrong s x xs ≠ 0 then Except.error (x.no, refWrong s x xs) else refRun (refPut s x xs) xs) with | .error e => _ | .ok s' => _
    have hE0 : p.said ≠ [] -> more (x :: xs) = [] -> endFieldN p = 0 := fun hs hm => by rw [<- pend_said hs hm]; exact h.ok hs
    by_cases hbad : kindL x.text = 5 \/ (kindL x.text = 3 /\ ¬ (s.prev = 4 \/ s.prev = 3)) \/ x.ended = false
    . -- a line that is wrong by its form
      have hw2 : refWrong s x xs = 2 := by unfold refWrong; rw [if_pos hbad]
      rw [hw2, if_pos (by decide)]
      have hwr : wrongP p x = true := by
        unfold wrongP
        rcases hbad with h5 | ⟨h3, hp⟩ | hx
        . rw [h5]; rfl
        . have hs : p.said = [] := Classical.byContradiction fun hne => hp (h.prev.2 hne)
          have : goesP p x = false := by unfold goesP; rw [hs]; simp
          rw [h3, this]; simp
        rw [hx]; simp
      have hen : endFieldN (wentP p x) = 0 := by
        cases hg : goesP p x with
        | true =>
          have hk : kindL x.text = 3 := by unfold goesP at hg; simp at hg; exact hg.1
          have hs : p.said ≠ [] := by unfold goesP at hg; simp at hg; exact hg.2
          have hx : x.ended = false := by
            rcases hbad with h5 | ⟨_, hp⟩ | hx
            . omega
            . exact absurd (h.prev.2 hs) hp
            exact hx
          have hxs := he hx
          have hw : wentP p x = { p with said := p.said ++ [x.text] } := by unfold wentP; rw [hg, if_pos rfl]
          have hok := h.ok hs
          rw [hw, endN_said (by simp)]
          unfold pendN at hok
          rw [more_three hk, hxs] at hok
          exact hok
        | false =>
        have hw : wentP p x = p := by unfold wentP; rw [hg]; rfl
        rw [hw]
        by_cases hs : p.said = []
        . unfold endFieldN; rw [if_pos hs]
        refine hE0 hs (more_else ?_)
        intro h3
        unfold goesP at hg
        rw [h3, said_isEmpty hs] at hg
        simp at hg
      rw [finish_no (take_form hen hwr)]
    have hx : x.ended = true := by
      cases hx : x.ended with
      | true => rfl
      | false => exact absurd (.inr (.inr hx)) hbad
    have h5 : kindL x.text ≠ 5 := fun h5 => hbad (.inl h5)
    have hb : x.bytes = x.text ++ [10] := by unfold Ln.bytes; rw [hx]; rfl
    have hraw : (t.take (c + x.bytes.length)).drop p.at_ = s.raw ++ x.text ++ [10] := by
      rw [raw_more t1 h.at_ h.full, <- h.raw, hb, List.append_assoc]
    have hbl : x.bytes.length = x.text.length + 1 := by rw [hb]; simp
    by_cases h3 : kindL x.text = 3
    . -- it goes on with the field
      have hprev : s.prev = 4 \/ s.prev = 3 := Classical.byContradiction fun hn => hbad (.inr (.inl ⟨h3, hn⟩))
      have hs := h.prev.1 hprev
      have hg : goesP p x = true := by unfold goesP; rw [h3, said_isEmpty hs]; rfl
      have hw : wentP p x = { p with said := p.said ++ [x.text] } := by unfold wentP; rw [hg, if_pos rfl]
      have hwr : wrongP p x = false := by unfold wrongP; rw [h3, hg, hx]; rfl
      have hen : endsP p x = false := by unfold endsP; rw [hwr, hg]; rfl
      have ht : takeP t p x = .ok { p with said := p.said ++ [x.text] } := by
        rw [take_of (by rw [hen]; intro h; cases h) hwr]
        unfold thenP; rw [hen, if_neg (by decide), hw]
        unfold putP; rw [h3]; rfl
      have hw0 : refWrong s x xs = 0 := by unfold refWrong; rw [if_neg hbad, if_pos (by omega)]
      have hput : refPut s x xs = { s with raw := s.raw ++ x.text ++ [10], prev := 3 } := by unfold refPut; rw [if_neg (by omega), if_neg (by omega), h3]
      rw [finish_cons ht, hw0, if_neg (by decide), hput]
      have hall : (p.said ++ [x.text]) ++ more xs = p.said ++ more (x :: xs) := by rw [more_three h3]; simp
      refine run_rel t xs (no + 1) (c + x.bytes.length) _ _ r4 hes hcl' ⟨h.items, ?_, ?_, t3, t2, ?_, ?_, ?_, ?_, ?_, ?_, h.st, fun _ => h.st' (fun hh => hs hh.2), h.fl⟩
      . exact hraw.symm
      . show p.at_ <= _; have := h.at_; omega
      . show s.records = p.stanzas + if p.fields = [] /\ p.said ++ [x.text] = [] then 0 else 1
        rw [h.recd, if_neg (fun hh => hs hh.2), if_neg (by simp)]
      . show s.kind = if p.fields = [] /\ p.said ++ [x.text] = [] then 2 else 3
        rw [h.kind, if_neg (fun hh => hs hh.2), if_neg (by simp)]
      . show s.fields = p.fields ++ if p.said ++ [x.text] = [] then [] else [(unfoldK ((p.said ++ [x.text]) ++ more xs), unfoldV ((p.said ++ [x.text]) ++ more xs))]
        rw [h.fields, if_neg hs, if_neg (by simp), hall]
      . intro _
        have hok := h.ok hs
        unfold pendN at hok ⊢
        show (if unfoldN ((p.said ++ [x.text]) ++ more xs) ≠ 0 then unfoldN ((p.said ++ [x.text]) ++ more xs) else if fullP p then 11 else 0) = 0
        rw [hall]; exact hok
      . exact ⟨fun _ => by simp, fun _ => .inr rfl⟩
      exact .inr (by show p.at_ < _; have := h.at_; omega)
    -- it goes on with none
    have hm : more (x :: xs) = [] := more_else h3
    have hN : endFieldN p = 0 := by
      by_cases hs : p.said = []
      . unfold endFieldN; rw [if_pos hs]
      exact hE0 hs hm
    have hg : goesP p x = false := goes_kind h3
    have hw : wentP p x = p := by unfold wentP; rw [hg]; rfl
    have hwr : wrongP p x = false := by unfold wrongP; rw [hg, hx]; simp [h3, h5]
    have hen : endsP p x = true := by unfold endsP; rw [hg]; simp
    have hth : thenP p x = endFieldP p := by unfold thenP; rw [hen, if_pos rfl, hw]
    have ht : takeP t p x = .ok (putP t (endFieldP p) x) := by
      rw [take_of (by rw [hw]; exact fun _ => hN) hwr, hth]
    have hf := h.fields_end hm
    have hfl := h.fl_end
    rw [finish_cons ht]
    rcases kind_of hclx with hk | hk | hk | hk | hk
    . -- blank
      have hw0 : refWrong s x xs = 0 := by unfold refWrong; rw [if_neg hbad, if_pos (by omega)]
      have hput : refPut s x xs = ⟨s.out ++ s.block ++ [⟨1, x.text ++ [10], []⟩], 2, [], [], s.records, 1⟩ := by unfold refPut; rw [if_pos hk]
      obtain ⟨b1, b2, b3, b4, b5⟩ := block_rel h hm
      have hP : putP t (endFieldP p) x = endItemP t (endBlockP t (endFieldP p) c) 1 (c + x.bytes.length) := by
        unfold putP; rw [if_neg (by omega), if_pos hk, r2, hbl]; rfl
      have hbr : (t.take (c + x.bytes.length)).drop c = x.text ++ [10] := by
        rw [raw_more t1 (Nat.le_refl _) h.full, hb, List.drop_eq_nil_of_le (by rw [List.length_take]; omega)]; rfl
      rw [hw0, if_neg (by decide), hput, hP]
      refine run_rel t xs (no + 1) (c + x.bytes.length) _ _ r4 hes hcl' ⟨?_, ?_, Nat.le_refl _, t3, t2, ?_, ?_, ?_, ?_, ?_, ?_, ?_, ?_, ?_⟩
      . show s.out ++ s.block ++ [_] = (endBlockP t (endFieldP p) c).items ++ [⟨((1 : Nat) : Int), (t.take (c + x.bytes.length)).drop (endBlockP t (endFieldP p) c).at_, (endBlockP t (endFieldP p) c).fields⟩]
        rw [b1, b3, b5, hbr]; rfl
      . show [] = (t.take (c + x.bytes.length)).drop (c + x.bytes.length)
        rw [List.drop_eq_nil_of_le]; rw [List.length_take]; omega
      . show s.records = (endBlockP t (endFieldP p) c).stanzas + if ([] : List Fld) = [] /\ (endBlockP t (endFieldP p) c).said = [] then 0 else 1
        rw [b2, if_pos ⟨rfl, b4⟩]; rfl
      . show (2 : Int) = if ([] : List Fld) = [] /\ (endBlockP t (endFieldP p) c).said = [] then 2 else 3
        rw [if_pos ⟨rfl, b4⟩]
      . show [] = [] ++ if (endBlockP t (endFieldP p) c).said = [] then [] else _
        rw [if_pos b4]; rfl
      . exact fun hn => absurd b4 hn
      . exact ⟨fun hh => by rcases hh with hh | hh; exact absurd (show (1 : Nat) = 4 from hh) (by decide); exact absurd (show (1 : Nat) = 3 from hh) (by decide), fun hh => absurd b4 hh⟩
      . exact .inl ⟨rfl, b4⟩
      . show (endBlockP t (endFieldP p) c).stanzas <= 400
        rw [b2]; exact h.records_le
      . exact fun hn => absurd ⟨rfl, b4⟩ hn
      show ([] : List Fld).length <= 40; decide
    . -- a note
      have hw0 : refWrong s x xs = 0 := by unfold refWrong; rw [if_neg hbad, if_pos (by omega)]
      have hput : refPut s x xs = { s with raw := s.raw ++ x.text ++ [10], prev := 2 } := by unfold refPut; rw [if_neg (by omega), if_neg (by omega), hk]
      have hP : putP t (endFieldP p) x = endFieldP p := by unfold putP; rw [if_neg (by omega), if_neg (by omega)]
      have hcond : ((endFieldP p).fields = [] /\ (endFieldP p).said = []) ↔ (p.fields = [] /\ p.said = []) := by
        rw [endP_none]; exact ⟨fun hh => hh.1, fun hh => ⟨hh, endField_said p⟩⟩
      rw [hw0, if_neg (by decide), hput, hP]
      refine run_rel t xs (no + 1) (c + x.bytes.length) _ _ r4 hes hcl' ⟨?_, ?_, ?_, t3, t2, ?_, ?_, ?_, ?_, ?_, ?_, ?_, ?_, hfl⟩
      . rw [endP_items]; exact h.items
      . rw [endP_at]; exact hraw.symm
      . rw [endP_at]; have := h.at_; omega
      . rw [endP_stanzas]; show s.records = _; rw [h.recd]; congr 1; simp only [hcond]
      . show s.kind = _; rw [h.kind]; simp only [hcond]
      . show s.fields = _; rw [hf, if_pos (endField_said p), List.append_nil]
      . exact fun hn => absurd (endField_said p) hn
      . exact ⟨fun hh => by rcases hh with hh | hh; exact absurd (show (2 : Nat) = 4 from hh) (by decide); exact absurd (show (2 : Nat) = 3 from hh) (by decide), fun hh => absurd (endField_said p) hh⟩
      . rw [endP_at]; exact .inr (by have := h.at_; omega)
      . rw [endP_stanzas]; exact h.st
      rw [endP_stanzas]; exact fun hn => h.st' (fun hh => hn (hcond.2 hh))
    . exact absurd hk h3
    . -- a pair
      have hP : putP t (endFieldP p) x = { endFieldP p with begin_ := x.no, said := [x.text] } := by unfold putP; rw [if_pos hk]
      have hrec0 : (endFieldP p).fields.length = 0 -> s.records = p.stanzas := fun hz => by
        rw [h.recd, if_pos ((endP_none p).1 (List.length_eq_zero_iff.1 hz)), Nat.add_zero]
      have hst := h.st
      have hfull : fullP { endFieldP p with begin_ := x.no, said := [x.text] } = decide (40 <= s.fields.length \/ (s.fields.length = 0 /\ 400 <= s.records)) := by
        unfold fullP
        show (if (endFieldP p).fields.length = 0 then (endFieldP p).stanzas == 400 else (endFieldP p).fields.length == 40) = _
        rw [hf, endP_stanzas]
        split
        . rename_i hz
          have := hrec0 hz
          rw [Bool.eq_iff_iff, beq_iff_eq, decide_eq_true_iff]; omega
        rename_i hz
        rw [Bool.eq_iff_iff, beq_iff_eq, decide_eq_true_iff]; omega
      have hpn : refWrong s x xs = pendN { endFieldP p with begin_ := x.no, said := [x.text] } xs := by
        unfold refWrong pendN
        rw [if_neg hbad, if_neg (by omega), hfull]
        show (if unfoldN (x.text :: more xs) ≠ 0 then _ else _) = (if unfoldN ([x.text] ++ more xs) ≠ 0 then _ else _)
        simp only [List.cons_append, List.nil_append, decide_eq_true_eq]
      rw [hP]
      by_cases hn : refWrong s x xs = 0
      . rw [hn, if_neg (by decide)]
        have hput : refPut s x xs = ⟨s.out, 3, s.raw ++ x.text ++ [10], s.fields ++ [(unfoldK (x.text :: more xs), unfoldV (x.text :: more xs))], if s.kind = 2 then s.records + 1 else s.records, 4⟩ := by unfold refPut; rw [if_neg (by omega), if_pos hk]
        rw [hput]
        have hp0 : pendN { endFieldP p with begin_ := x.no, said := [x.text] } xs = 0 := by rw [<- hpn]; exact hn
        have hnf : ¬ (40 <= s.fields.length \/ (s.fields.length = 0 /\ 400 <= s.records)) := by
          intro hh
          unfold pendN at hp0
          rw [hfull, decide_eq_true hh] at hp0
          split at hp0
          . rename_i hu; exact hu hp0
          simp at hp0
        refine run_rel t xs (no + 1) (c + x.bytes.length) _ _ r4 hes hcl' ⟨?_, ?_, ?_, t3, t2, ?_, ?_, ?_, ?_, ?_, ?_, ?_, ?_, hfl⟩
        . show s.out = (endFieldP p).items; rw [endP_items]; exact h.items
        . show s.raw ++ x.text ++ [10] = (t.take (c + x.bytes.length)).drop (endFieldP p).at_
          rw [endP_at]; exact hraw.symm
        . show (endFieldP p).at_ <= _; rw [endP_at]; have := h.at_; omega
        . show (if s.kind = 2 then s.records + 1 else s.records) = (endFieldP p).stanzas + if (endFieldP p).fields = [] /\ [x.text] = [] then 0 else 1
          have e1 : ¬ ((endFieldP p).fields = [] /\ [x.text] = []) := fun hh => by cases hh.2
          rw [endP_stanzas, if_neg e1, h.kind, h.recd]
          by_cases hc0 : p.fields = [] /\ p.said = []
          . rw [if_pos hc0, if_pos hc0, if_pos rfl]
          rw [if_neg hc0, if_neg hc0, if_neg (by decide)]
        . show (3 : Int) = if (endFieldP p).fields = [] /\ [x.text] = [] then 2 else 3
          rw [if_neg (fun hh => by cases hh.2)]
        . show s.fields ++ _ = (endFieldP p).fields ++ if [x.text] = [] then [] else [(unfoldK ([x.text] ++ more xs), unfoldV ([x.text] ++ more xs))]
          rw [if_neg (by simp), hf]; rfl
        . exact fun _ => hp0
        . exact ⟨fun _ => by show [x.text] ≠ []; simp, fun _ => .inl rfl⟩
        . show _ \/ (endFieldP p).at_ < _; rw [endP_at]; exact .inr (by have := h.at_; omega)
        . show (endFieldP p).stanzas <= 400; rw [endP_stanzas]; exact h.st
        intro _
        show (endFieldP p).stanzas <= 399
        rw [endP_stanzas]
        by_cases hc0 : p.fields = [] /\ p.said = []
        . have hz : (endFieldP p).fields.length = 0 := by rw [(endP_none p).2 hc0]; rfl
          have := hrec0 hz
          rw [hf] at hnf
          omega
        exact h.st' hc0
      rw [if_pos hn, run_pend t xs _ hes (by show [x.text] ≠ []; simp) (by rw [<- hpn]; exact hn), <- hpn]
    exact absurd hk h5
theorem parse_ref (t : List UInt8) : parseL t = refParseL t := by
  have h := run_rel t (linesOf t) 0 0 PS.new RS.new (runs_linesOn _ 0 0 t (Nat.le_refl _)) (ends_linesOn _ 0 0 t (Nat.le_refl _)) (linesOn_clean _ 0 0 t (Nat.le_refl _)) (Rel.new t)
  exact h
end Go.Proofs.YtfjklpgmnakcaaaGreatDoor
