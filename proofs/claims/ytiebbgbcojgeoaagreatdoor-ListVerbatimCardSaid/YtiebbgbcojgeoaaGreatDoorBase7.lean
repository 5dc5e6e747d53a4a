/- Texts put together: NP, NS, NT, RM, RO. -/
import Derived.Test.YtiebbgbcojgeoaaGreatDoorBase6
set_option linter.unusedVariables false
/- The stanzas that no edit touches stay, in order: plainly. -/
namespace Go.Proofs.YtiebbgbcojgeoaaGreatDoor
open Go.RowKit Go.Shelf

theorem pairs_nums {es : List En} (h : (nums es).Nodup) : es.Pairwise fun x y => 0 < x.2 → 0 < y.2 → x.2 ≠ y.2 := by
  unfold nums at h
  have h1 : ((es.map Prod.snd).filter fun n => decide (0 < n)).Pairwise (· ≠ ·) := h
  rw [List.pairwise_filter, List.pairwise_map] at h1
  exact h1.imp fun {a b} q ha hb => q (by simpa using ha) (by simpa using hb)
theorem same_num {es : List En} (h : (nums es).Nodup) {i j : Nat} {x y : En} (hi : es[i]? = some x) (hj : es[j]? = some y) (hp : 0 < x.2) (he : x.2 = y.2) : i = j := by
  have hp' := List.pairwise_iff_getElem.1 (pairs_nums h)
  obtain ⟨li, ei⟩ := List.getElem?_eq_some_iff.1 hi
  obtain ⟨lj, ej⟩ := List.getElem?_eq_some_iff.1 hj
  rcases Nat.lt_trichotomy i j with q | q | q
  · have := hp' i j li lj q
    rw [ei, ej] at this
    exact absurd he (this hp (by omega))
  · exact q
  · have := hp' j i lj li q
    rw [ei, ej] at this
    exact absurd he.symm (this (by omega) hp)
/-- The entry of a number, by the list's search. -/
theorem found_of {ps : List Pr} {es : List En} (hes : ps.map Prod.fst = es) (wf : WF es) (nd : (nums es).Nodup) {j : Nat} {e : En} (he : es[j]? = some e) (hp : 0 < e.2) : ∃ p, (findP ps e.2).bind (ps[·]?) = some p ∧ p.1 = e := by
  rw [findP_R (by rw [hes]; exact wf), hes]
  have hex : (findR es e.2).isSome = true := by
    unfold findR
    rw [if_pos hp, List.findIdx?_isSome, List.any_eq_true]
    exact ⟨e, List.mem_of_getElem? he, by simp⟩
  obtain ⟨k, hk⟩ := Option.isSome_iff_exists.1 hex
  obtain ⟨_, e', he', hn, hpos⟩ := findR_lt hk
  have hkj : k = j := same_num nd he' he (by omega) hn
  subst hkj
  rw [hk]
  have h1 : (ps.map Prod.fst)[k]? = some e := by rw [hes]; exact he
  rw [List.getElem?_map] at h1
  obtain ⟨p, hp1, hp2⟩ := Option.map_eq_some_iff.1 h1
  exact ⟨p, hp1, hp2⟩
/-- A stanza of the first numbers that no edit named. -/
def Kept (N : Int) (T : List Int) (e : En) : Bool := decide (0 < e.2) && decide (e.2 < N) && !(T.contains e.2)
theorem kept_iff {N : Int} {T : List Int} {e : En} : Kept N T e = true ↔ 0 < e.2 ∧ e.2 < N ∧ e.2 ∉ T := by
  unfold Kept
  simp [and_assoc]
theorem kept_mono {N : Int} {T : List Int} {id : Int} {a b : List En} (h : a.filter (Kept N T) = b.filter (Kept N T)) : a.filter (Kept N (T ++ [id])) = b.filter (Kept N (T ++ [id])) := by
  have e : ∀ l : List En, l.filter (Kept N (T ++ [id])) = (l.filter (Kept N T)).filter (Kept N (T ++ [id])) := fun l => by
    rw [List.filter_filter]
    refine List.filter_congr fun x _ => ?_
    cases h1 : Kept N (T ++ [id]) x with
    | false => rfl
    | true =>
      obtain ⟨a1, a2, a3⟩ := kept_iff.1 h1
      have : Kept N T x = true := kept_iff.2 ⟨a1, a2, fun q => a3 (List.mem_append.2 (.inl q))⟩
      rw [this]; rfl
  rw [e a, e b, h]
theorem filter_modify {α : Type} (p : α → Bool) (f : α → α) : ∀ (l : List α) (k : Nat), (∀ x, l[k]? = some x → p x = false ∧ p (f x) = false) → (l.modify k f).filter p = l.filter p
  | [], k, _ => by cases k <;> rfl
  | x :: r, 0, h => by
    obtain ⟨h1, h2⟩ := h x rfl
    show (f x :: r).filter p = _
    rw [List.filter_cons, List.filter_cons, h1, h2]; rfl
  | x :: r, k + 1, h => by
    show (x :: r.modify k f).filter p = _
    rw [List.filter_cons, List.filter_cons, filter_modify p f r k (fun y hy => h y (by simpa using hy))]
theorem kept_set {N : Int} {T : List Int} {es : List En} {k : Nat} {it : It} {e : En} (he : es[k]? = some e) (hk : Kept N T e = false) : (setE es k it).filter (Kept N T) = es.filter (Kept N T) := by
  unfold setE
  refine filter_modify _ _ es k fun x hx => ?_
  rw [he] at hx
  cases hx
  exact ⟨hk, hk⟩
theorem kept_cut {N : Int} {T : List Int} {es : List En} {k : Nat} {e : En} (he : es[k]? = some e) (hk : Kept N T e = false) : (cutE es k).filter (Kept N T) = es.filter (Kept N T) := by
  have hs : es = es.take k ++ e :: es.drop (k + 1) := by
    obtain ⟨hl, hg⟩ := List.getElem?_eq_some_iff.1 he
    conv => lhs; rw [← List.take_append_drop k es, List.drop_eq_getElem_cons hl, hg]
  unfold cutE
  conv => rhs; rw [hs]
  rw [List.filter_append, List.filter_append, List.filter_cons, hk]; rfl
theorem kept_put {N : Int} {T : List Int} {es : List En} {k : Nat} {e : En} (hk : Kept N T e = false) : (putE es k e).filter (Kept N T) = es.filter (Kept N T) := by
  unfold putE
  conv => rhs; rw [← List.take_append_drop k es]
  rw [List.filter_append, List.filter_append, List.filter_cons, hk]; rfl
/-- An edit's number, if it may touch one. -/
def touchE (kind id : Int) : List Int := if kind = 1 ∨ kind = 2 then [id] else []
/-- What no edit has touched stays, in order, behind one edit more. -/
theorem kept_edit {N : Int} {T : List Int} {es0 : List En} {l : LS} (h : l.es.filter (Kept N T) = es0.filter (Kept N T)) (hN : N ≤ l.next) (kind id : Int) (fs : List Fld) :
    (editR l kind id fs).ls.es.filter (Kept N (T ++ touchE kind id)) = es0.filter (Kept N (T ++ touchE kind id)) ∧ N ≤ (editR l kind id fs).ls.next := by
  refine ⟨?_, Int.le_trans hN (edit_len l kind id fs).2.1⟩
  have gone : ∀ e : En, e.2 = id → Kept N (T ++ [id]) e = false := fun e he => by
    cases hq : Kept N (T ++ [id]) e with
    | false => rfl
    | true => exact absurd (List.mem_append.2 (.inr (List.mem_singleton.2 he))) (kept_iff.1 hq).2.2
  by_cases h1 : kind = 1
  · subst h1
    rw [show touchE 1 id = [id] from rfl]
    have hm := kept_mono (id := id) h
    show (replaceR l id fs).ls.es.filter _ = _
    unfold replaceR
    split
    · exact hm
    · rename_i k hk
      obtain ⟨_, e, he, hn, _⟩ := findR_lt hk
      split
      · show (setE l.es k (itemOf fs)).filter _ = _
        rw [kept_set he (gone e hn)]; exact hm
      · exact hm
  · by_cases h2 : kind = 2
    · subst h2
      rw [show touchE 2 id = [id] from rfl]
      have hm := kept_mono (id := id) h
      show (deleteR l id).ls.es.filter _ = _
      unfold deleteR
      split
      · exact hm
      · rename_i k hk
        obtain ⟨_, e, he, hn, _⟩ := findR_lt hk
        show (cutE l.es k).filter _ = _
        rw [kept_cut he (gone e hn)]; exact hm
    · have ht : touchE kind id = [] := by unfold touchE; rw [if_neg (by rintro (q | q); exact h1 q; exact h2 q)]
      rw [ht, List.append_nil, editR_3 l h1 h2]
      unfold insertR
      split
      · exact h
      · split
        · split
          · exact h
          · show (putE l.es _ (itemOf fs, l.next)).filter _ = _
            rw [kept_put ?_]
            · exact h
            · cases hq : Kept N T (itemOf fs, l.next) with
              | false => rfl
              | true =>
                have := (kept_iff.1 hq).2.1
                have : l.next < N := this
                omega
        · exact h
/-- The numbers that the first edits may have touched. -/
def touchL (eds : List Ed) : List Int := eds.flatMap fun ed => touchE ed.kind ed.id
theorem touch_snoc {eds : List Ed} {k : Nat} {ed : Ed} (h : eds[k]? = some ed) : touchL (eds.take (k + 1)) = touchL (eds.take k) ++ touchE ed.kind ed.id := by
  unfold touchL
  rw [List.take_add_one, h]; simp
/-- A fresh list's numbers rise, and none is left out. -/
theorem from_all : ∀ (n : Int) (its : List It), 0 < n → (fromOn n its).Pairwise (fun x y => 0 < x.2 → 0 < y.2 → x.2 < y.2) ∧ ∀ m, n ≤ m → m < fromNext n its → ∃ e ∈ fromOn n its, e.2 = m
  | n, [], _ => ⟨List.Pairwise.nil, fun m h1 h2 => by have : m < n := h2; omega⟩
  | n, it :: r, h => by
    by_cases hk : it.kind = 3
    · obtain ⟨a, b⟩ := from_all (n + 1) r (by omega)
      obtain ⟨c, _⟩ := nums_from (n + 1) r (by omega)
      have e1 : fromOn n (it :: r) = (it, n) :: fromOn (n + 1) r := by rw [fromOn, if_pos hk]
      have e2 : fromNext n (it :: r) = fromNext (n + 1) r := by rw [fromNext, if_pos hk]
      rw [e1, e2]
      refine ⟨List.Pairwise.cons (fun y hy _ hp => ?_) a, fun m h1 h2 => ?_⟩
      · have : y.2 ∈ nums (fromOn (n + 1) r) := by
          unfold nums
          exact List.mem_filter.2 ⟨List.mem_map_of_mem hy, by simpa using hp⟩
        have := (c _ this).1
        show n < y.2
        omega
      · by_cases q : m = n
        · exact ⟨_, List.mem_cons_self, q.symm⟩
        · obtain ⟨e, he, hm⟩ := b m (by omega) h2
          exact ⟨e, List.mem_cons_of_mem _ he, hm⟩
    · obtain ⟨a, b⟩ := from_all n r h
      have e1 : fromOn n (it :: r) = (it, 0) :: fromOn n r := by rw [fromOn, if_neg hk]
      have e2 : fromNext n (it :: r) = fromNext n r := by rw [fromNext, if_neg hk]
      rw [e1, e2]
      refine ⟨List.Pairwise.cons (fun y hy hq _ => absurd hq (by simp)) a, fun m h1 h2 => ?_⟩
      obtain ⟨e, he, hm⟩ := b m h1 h2
      exact ⟨e, List.mem_cons_of_mem _ he, hm⟩
/-- Of what was kept: one stands behind the other as its number is greater. -/
theorem kept_order {N : Int} {T : List Int} {es es0 : List En} (h : es.filter (Kept N T) = es0.filter (Kept N T)) (h0 : es0.Pairwise fun x y => 0 < x.2 → 0 < y.2 → x.2 < y.2) {i j : Nat} {x y : En} (hi : es[i]? = some x) (hj : es[j]? = some y) (kx : Kept N T x = true) (ky : Kept N T y = true) (hlt : x.2 < y.2) : i < j := by
  have h1 : (es0.filter (Kept N T)).Pairwise fun x y => x.2 < y.2 := by
    rw [List.pairwise_filter]
    exact h0.imp fun {a b} q ha hb => q (kept_iff.1 ha).1 (kept_iff.1 hb).1
  rw [← h, List.pairwise_filter] at h1
  have h2 := List.pairwise_iff_getElem.1 h1
  obtain ⟨li, ei⟩ := List.getElem?_eq_some_iff.1 hi
  obtain ⟨lj, ej⟩ := List.getElem?_eq_some_iff.1 hj
  rcases Nat.lt_trichotomy i j with q | q | q
  · exact q
  · subst q
    rw [ei] at ej
    rw [ej] at hlt; omega
  · have := h2 j i lj li q
    rw [ei, ej] at this
    have := this ky kx
    omega
/-- A number that no edit touched: its entry was there and is there. -/
theorem kept_there {N : Int} {T : List Int} {es es0 : List En} (h : es.filter (Kept N T) = es0.filter (Kept N T)) {n : Int} (h0 : ∃ e ∈ es0, e.2 = n) (hp : 0 < n) (hN : n < N) (ht : n ∉ T) : ∃ e : En, (∃ i : Nat, es0[i]? = some e) ∧ (∃ j : Nat, es[j]? = some e) ∧ e.2 = n ∧ Kept N T e = true := by
  obtain ⟨e, he, hn⟩ := h0
  have hk : Kept N T e = true := kept_iff.2 ⟨by omega, by omega, by rw [hn]; exact ht⟩
  have h1 : e ∈ es.filter (Kept N T) := by rw [h]; exact List.mem_filter.2 ⟨he, hk⟩
  exact ⟨e, List.getElem?_of_mem he, List.getElem?_of_mem (List.mem_filter.1 h1).1, hn, hk⟩
end Go.Proofs.YtiebbgbcojgeoaaGreatDoor
/- Stanzas side by side; the document's readers of a list: Items, Stanzas, Place, Get, Text. -/
namespace Go.Proofs.YtiebbgbcojgeoaaGreatDoor
open Go.RowKit Go.Shelf
attribute [local go_sem] Oper.semAt_some

/-- A slice of stanzas, readable. -/
def Szs (w : World) (v : Value) (rs : List Stz) : Prop :=
  ∃ A cap, v = .slice A rs.length cap ∧ rs.length ≤ cap ∧ ∀ (i : Nat) (s : Stz), rs[i]? = some s → ∃ b off fv, A = some ⟨b, off, none⟩ ∧ b < w.heap.size ∧ w.cell? ⟨b, off + i * 2, none⟩ = some (.int .i64 s.1) ∧ w.cell? ⟨b, off + i * 2 + 1, none⟩ = some fv ∧ Flds w fv s.2
theorem Szs.below {w w' : World} {v : Value} {rs : List Stz} {n : Nat} (h : Szs w v rs) (hb : Below n w w') (hn : w.heap.size ≤ n) : Szs w' v rs := by
  obtain ⟨A, cap, hv, hle, hc⟩ := h
  refine ⟨A, cap, hv, hle, fun i s hi => ?_⟩
  obtain ⟨b, off, fv, hA, hlt, c0, c1, hf⟩ := hc i s hi
  have hlt' := Nat.lt_of_lt_of_le hlt hn
  exact ⟨b, off, fv, hA, Nat.lt_of_lt_of_le hlt hb.size, (hb.cell (p := ⟨b, off + i * 2, none⟩) hlt').trans c0, (hb.cell (p := ⟨b, off + i * 2 + 1, none⟩) hlt').trans c1, hf.below hb hn⟩
theorem szs_of_own {w : World} {base : Nat} {v : Value} {rs : List Stz} {fvs : List Value} (h : w.ownsRow base 63 2 v rs.length (stzCells rs fvs)) (hl : fvs.length = rs.length) (he : ∀ (j : Nat) s x, rs[j]? = some s → fvs[j]? = some x → Flds w x s.2) : Szs w v rs := by
  rcases Joins.ownsRow_forms h with ⟨rfl, hn⟩ | ⟨g, cap, rfl⟩
  · have : rs = [] := List.length_eq_zero_iff.1 hn
    subst this
    exact ⟨none, 0, rfl, Nat.le_refl _, fun i s h => by simp at h⟩
  · refine ⟨_, cap, rfl, (by rcases h.2 with ⟨q, _⟩ | ⟨g', cap', cur, q, _, _, q2, _⟩; · cases q
                             · cases q; exact q2), fun i s hi => ?_⟩
    have hlt : i < rs.length := (List.getElem?_eq_some_iff.1 hi).1
    obtain ⟨x, hx⟩ : ∃ x, fvs[i]? = some x := ⟨_, List.getElem?_eq_getElem (by omega)⟩
    obtain ⟨a0, a1⟩ := stzCells_at rs fvs i s x hi hx
    exact ⟨g, 0, x, rfl, (World.ownsRow.lt h g rfl).2, by rw [Nat.zero_add, World.ownsRow.cellAt h (i * 2) (by omega)]; exact a0, by rw [Nat.zero_add, World.ownsRow.cellAt h (i * 2 + 1) (by omega)]; exact a1, he i s x hi hx⟩
theorem AccZ.szs {lo : Nat} {w wr : World} {v : Value} {fvs : List Value} {rs : List Stz} (h : AccZ lo w wr v fvs rs) : Szs wr v rs :=
  szs_of_own h.row h.len fun j s x h1 h2 => flds_of_own (h.each j s x h1 h2)
set_option maxRecDepth 100000 in
set_option maxHeartbeats 8000000 in
theorem stanzas_quiet (rs : List Stz) (v v' : Value) (w : World) (h : Szs w v rs) (h' : Szs w v' rs) (hn : rs.length ≤ 1000000) (hf : ∀ s ∈ rs, s.2.length ≤ 1000000) :
    Calls Tryz.prog 58 #[v, v'] w fun e w' => e = .returned (.bool true) ∧ ∃ m, w' = w.drewN m := by
  obtain ⟨A, cap, rfl, hle, hc⟩ := h
  obtain ⟨A', cap', rfl, hle', hc'⟩ := h'
  have PC := Lib.hid hc
  have PC' := Lib.hid hc'
  have HF := Lib.hid hf
  clear hc hc' hf
  go_enter Tryz.func58, Tryz.ntmps58
  go_wp2_with fail
  go_loopw [13] (fun i wr => ∃ k : Nat, k ≤ rs.length ∧ i = .int .i64 k ∧ ∃ m, wr = w.drewN m) (fun i _ => rs.length - (intOf i).toNat)
  case atStart => exact ⟨0, Nat.zero_le _, rfl, 0, rfl⟩
  case round =>
    obtain ⟨k, hk, rfl, nd, hwr⟩ := hrel
    by_cases hlt : k < rs.length
    · obtain ⟨st, hst⟩ : ∃ st, rs[k]? = some st := ⟨_, List.getElem?_eq_getElem hlt⟩
      obtain ⟨b, off, fv, rfl, hbb, c0, c1, hfl⟩ := PC.out k st hst
      obtain ⟨b', off', fv', rfl, hbb', c0', c1', hfl'⟩ := PC'.out k st hst
      have hm := HF.out st (List.mem_of_getElem? hst)
      have FQ0 : ∀ n, Calls Tryz.prog 21 #[fv, fv'] (wr.drewN n) fun e w' => e = .returned (.bool true) ∧ ∃ m, w' = (wr.drewN n).drewN m := by
        intro n
        rw [hwr]
        exact fields_quiet st.2 fv fv' ((w.drewN nd).drewN n) ((hfl.drewN nd).drewN n) ((hfl'.drewN nd).drewN n) hm
      have FQ := Lib.hid FQ0
      clear FQ0
      replace c0 : wr.cell? ⟨b, off + k * 2, none⟩ = some (.int .i64 st.1) := by rw [hwr]; exact c0
      replace c1 : wr.cell? ⟨b, off + k * 2 + 1, none⟩ = some fv := by rw [hwr]; exact c1
      replace c0' : wr.cell? ⟨b', off' + k * 2, none⟩ = some (.int .i64 st.1) := by rw [hwr]; exact c0'
      replace c1' : wr.cell? ⟨b', off' + k * 2 + 1, none⟩ = some fv' := by rw [hwr]; exact c1'
      have HW := Lib.hid hwr
      clear hst PC PC' hwr hfl hfl' HF
      generalize st.1 = K at *
      go_wp2_with (go_quiet ((go_at_call 21; exact Calls.quiet_of (FQ.out _))))
      go_roundw
      case rel => exact ⟨k + 1, hlt, by go_num, _, by rw [HW.out]; exact World.drewN_drewN _ _ _⟩
      case measure => simp [intOf]; omega
    · obtain rfl : k = rs.length := by omega
      clear PC PC'
      go_wp2_with fail
      go_ret
      exact ⟨rfl, nd, by first | rfl | exact hwr⟩
set_option maxRecDepth 100000 in
set_option maxHeartbeats 4000000 in
/-- The document's Items. -/
theorem refItems7_any (ps : List Pr) (v : Value) (nx : Int) (w : World) (h : EntsQ w v ps) (hps : ps.length ≤ 10000) :
    Calls Tryz.prog 61 #[.agg #[v, .int .i64 nx]] w fun e w' => ∃ u fvs, e = .returned u ∧ AccI w w' u fvs (itsP ps) := by
  obtain ⟨i0, hi, hz0, hz1, hz2⟩ := info_parts infoItem
  have H := Lib.hid h
  obtain ⟨A, cap, rfl, hle⟩ := h.empty
  have HB := Lib.hid ((Below.refl w.heap.size w).alloc (Nat.le_refl _) (.cells #[.slice A ps.length cap, .int .i64 nx] 32))
  have BX := Lib.hid (Cells.new w 32 #[.slice A ps.length cap, .int .i64 nx])
  clear h
  go_enter Tryz.func61, Tryz.ntmps61
  go_wp2_with fail
  go_loopw [3, 4] (fun u i wr => ∃ (k : Nat) (fvs : List Value), k ≤ ps.length ∧ i = .int .i64 k ∧ AccI w wr u fvs (itsP (ps.take k)) ∧ Cells wr w.heap.size 32 #[.slice A ps.length cap, .int .i64 nx]) (fun _ i _ => ps.length - (intOf i).toNat)
  case atStart => exact ⟨0, [], Nat.zero_le _, rfl, ⟨⟨rfl, .inl ⟨rfl, rfl⟩⟩, rfl, (fun j it x h => by simp [itsP] at h), HB.out⟩, BX.out⟩
  case round =>
    obtain ⟨k, fvs, hk, rfl, hacc, hbx⟩ := hrel
    have c0 : wr.cell? ⟨w.heap.size, 0, none⟩ = some (.slice A ps.length cap) := hbx.cell 0
    by_cases hlt : k < ps.length
    · obtain ⟨p, hp⟩ : ∃ p, ps[k]? = some p := ⟨_, List.getElem?_eq_getElem hlt⟩
      have hb := hacc.below
      have hE := H.out.below hb (Nat.le_refl _)
      obtain ⟨g, cap', pa, pc, e1, _, hg, e2, d0, d1, d2, d3⟩ := hE.here hp
      cases e1
      have hfr := H.out.each p (List.mem_of_getElem? hp)
      rw [e2] at d2 hfr
      have ACC := Lib.hid hacc
      have HFR := Lib.hid hfr
      have ITK := Lib.hid (show itsP (ps.take (k + 1)) = itsP (ps.take k) ++ [p.1.1] by unfold itsP; rw [List.take_add_one, hp]; simp)
      have hll : (itsP (ps.take k)).length = k := by unfold itsP; rw [List.length_map, List.length_take]; omega
      have hrow := hacc.row
      rw [hll] at hrow
      have HBX := Lib.hid hbx
      have HNE := Lib.hid (own_cells_ne hacc.row hbx (by decide))
      have HV := Lib.hid (cells_new_add wr 47 [.int .i64 p.1.1.kind, .string (B p.1.1.raw), .slice pa p.1.1.fields.length pc])
      have hsz := hb.size
      clear hacc hE hfr hp hbx e2 d3
      go_wp2_with (at_builtin; refine wpList_append_own _ rfl _ _ 55 rfl w.heap.size 47 i0 _ 3 48 Tryz.underlying55 hi hz0 hz1 hz2 rfl (by decide) _ _ _ rfl (hrow.alloc _) ⟨wr.heap.size, 0, none⟩ 1 1 _ rfl rfl HV.out ?c2 ?c3 ?c4 ?c5 ?_)
      case c2 => intro u hu; simp at hu; rcases hu with rfl | rfl | rfl <;> rfl
      case c3 => unfold maxLen; omega
      case c4 => omega
      case c5 => simp; omega
      intro v' w3 hown' hgrow _
      have hacc3 := ACC.out.snoc HFR.out (by rw [hll]; exact hown') _ hgrow
      have hbx3 := (HBX.out.alloc (.cells #[.int .i64 p.1.1.kind, .string (B p.1.1.raw), .slice pa p.1.1.fields.length pc] 47)).grown hgrow (fun e => HNE.out e.symm)
      obtain ⟨g', cap', rfl⟩ := ownsRow_succ hown'
      go_wp2_with fail
      go_roundw
      case rel => exact ⟨k + 1, _, hlt, by go_num, by rw [ITK.out]; exact hacc3, hbx3⟩
      case measure => simp [intOf]; omega
    · obtain rfl : k = ps.length := by omega
      rw [List.take_length] at hacc
      have HACC := Lib.hid hacc
      clear hacc hbx
      go_wp2_with fail
      go_ret
      exact ⟨_, fvs, rfl, HACC.out⟩
end Go.Proofs.YtiebbgbcojgeoaaGreatDoor
/- The document's Stanzas, Place, Text. -/
namespace Go.Proofs.YtiebbgbcojgeoaaGreatDoor
open Go.RowKit Go.Shelf
attribute [local go_sem] Oper.semAt_some

/-- The stanzas so far, of which each one's fields lie where they lay. -/
structure AccY (w wr : World) (v : Value) (fvs : List Value) (rs : List Stz) : Prop where
  row : wr.ownsRow w.heap.size 63 2 v rs.length (stzCells rs fvs)
  len : fvs.length = rs.length
  each : ∀ (j : Nat) s x, rs[j]? = some s → fvs[j]? = some x → Flds w x s.2
  below : Below w.heap.size w wr
theorem AccY.szs {w wr : World} {v : Value} {fvs : List Value} {rs : List Stz} (h : AccY w wr v fvs rs) : Szs wr v rs :=
  szs_of_own h.row h.len fun j s x h1 h2 => (h.each j s x h1 h2).below h.below (Nat.le_refl _)
theorem AccY.kept {w wr w2 : World} {v : Value} {fvs : List Value} {rs : List Stz} (h : AccY w wr v fvs rs) (hb : Below wr.heap.size wr w2) : AccY w w2 v fvs rs :=
  ⟨own_kept h.row hb (Nat.le_refl _), h.len, h.each, h.below.trans (hb.mono h.below.size)⟩
theorem AccY.snoc {w W W1 w3 : World} {v v' x : Value} {fvs : List Value} {rs : List Stz} {s : Stz} (h : AccY w W v fvs rs) (hx : Flds w x s.2) (ho : w3.ownsRow w.heap.size 63 2 v' (rs.length + 1) (stzCells rs fvs ++ [.int .i64 s.1, x])) (h1 : Below W.heap.size W W1) (hg : W1.grownBy w3 v.ownBlock) : AccY w w3 v' (fvs ++ [x]) (rs ++ [s]) := by
  have h' := h.kept h1
  refine ⟨by rw [List.length_append, stzCells_snoc _ _ _ _ h.len]; exact ho, by simp [h.len], fun j y z hy hz => ?_, h'.below.grown hg h'.below.size (fun k e => (h.row.lt k e).1)⟩
  rcases snoc_at hy with ⟨q, hy⟩ | ⟨q, rfl⟩
  · rw [List.getElem?_append_left (by rw [h.len]; exact q)] at hz
    exact h.each j y z hy hz
  · rw [q, ← h.len, List.getElem?_append_right (Nat.le_refl _)] at hz
    simp at hz
    subst hz; exact hx
theorem stzG_snd2 {α : Type} (κ : α → Int) : ∀ (k : Nat) (l : List α), (stzG κ k l).map Prod.snd = l.filter fun x => κ x == 3
  | k, [] => rfl
  | k, x :: r => by
    have ih := stzG_snd2 κ (k + 1) r
    unfold stzG
    rw [List.filter_cons]
    by_cases h : κ x = 3
    · rw [if_pos h, if_pos (by simpa using h), List.map_cons, ih]
    · rw [if_neg h, if_neg (by simpa using h), ih]
theorem own_base {W W' : World} {lo K n m : Nat} {t : TypeId} {sz : Nat} {v v' : Value} {xs ys : List Value} (h : W.ownsRow lo t sz v n xs) (ho : W'.ownsRow 0 t sz v' m ys) (hk : v'.ownBlock = v.ownBlock ∨ v'.ownBlock = some K) (hK : lo ≤ K) : W'.ownsRow lo t sz v' m ys := by
  rcases ho.2 with ⟨q, hn⟩ | ⟨g2, cap2, cur2, q, _, rest⟩
  · exact ⟨ho.1, .inl ⟨q, hn⟩⟩
  · refine ⟨ho.1, .inr ⟨g2, cap2, cur2, q, ?_, rest⟩⟩
    rcases hk with hk | hk
    · exact (h.lt g2 (by rw [← hk, q]; rfl)).1
    · rw [q] at hk
      have : g2 = K := Option.some.inj hk
      omega
/-- The stanzas among entries, by their numbers. -/
def stzN (ps : List Pr) : List Stz := (ps.filter fun p => decide (0 < p.1.2)).map fun p => (p.1.2, p.1.1.fields)
theorem stzN_snoc (ps : List Pr) (k : Nat) (p : Pr) (h : ps[k]? = some p) : stzN (ps.take (k + 1)) = stzN (ps.take k) ++ if 0 < p.1.2 then [(p.1.2, p.1.1.fields)] else [] := by
  unfold stzN
  rw [List.take_add_one, h, Option.toList_some, List.filter_append, List.map_append]
  congr 1
  by_cases hq : 0 < p.1.2
  · rw [if_pos hq, List.filter_cons, if_pos (by simpa using hq)]; rfl
  · rw [if_neg hq, List.filter_cons, if_neg (by simpa using hq)]; rfl
theorem stzN_len (ps : List Pr) : (stzN ps).length ≤ ps.length := by unfold stzN; rw [List.length_map]; exact List.length_filter_le _ _
theorem stzN_eq {ps : List Pr} (h : WF (ps.map Prod.fst)) : stzN ps = stzL (stzP 0 ps) := by
  unfold stzN stzL
  have h3 : (stzP 0 ps).map Prod.snd = ps.filter fun p => p.1.1.kind == 3 := stzG_snd2 _ 0 ps
  have h4 : ps.filter (fun p => decide (0 < p.1.2)) = ps.filter fun p => p.1.1.kind == 3 := by
    refine List.filter_congr fun p hp => ?_
    rcases h p.1 (List.mem_map_of_mem hp) with ⟨a, b⟩ | ⟨a, b⟩
    · simp [a, b]
    · simp [a, b]
  rw [h4, ← h3, List.map_map]; rfl
set_option maxRecDepth 100000 in
set_option maxHeartbeats 4000000 in
/-- The document's Stanzas. -/
theorem refStanzas7_any (ps : List Pr) (v : Value) (nx : Int) (w : World) (h : EntsQ w v ps) (hps : ps.length ≤ 10000) :
    Calls Tryz.prog 59 #[.agg #[v, .int .i64 nx]] w fun e w' => ∃ u fvs, e = .returned u ∧ AccY w w' u fvs (stzN ps) := by
  obtain ⟨i0, hi, hz0, hz1, hz2⟩ := info_parts infoStz
  have H := Lib.hid h
  obtain ⟨A, cap, rfl, hle⟩ := h.empty
  have HB := Lib.hid ((Below.refl w.heap.size w).alloc (Nat.le_refl _) (.cells #[.slice A ps.length cap, .int .i64 nx] 32))
  have BX := Lib.hid (Cells.new w 32 #[.slice A ps.length cap, .int .i64 nx])
  clear h
  go_enter Tryz.func59, Tryz.ntmps59
  go_wp2_with fail
  go_loopw [3, 4] (fun u i wr => ∃ (k : Nat) (fvs : List Value), k ≤ ps.length ∧ i = .int .i64 k ∧ AccY w wr u fvs (stzN (ps.take k)) ∧ Cells wr w.heap.size 32 #[.slice A ps.length cap, .int .i64 nx]) (fun _ i _ => ps.length - (intOf i).toNat)
  case atStart => exact ⟨0, [], Nat.zero_le _, rfl, ⟨⟨rfl, .inl ⟨rfl, rfl⟩⟩, rfl, (fun j it x h => by simp [stzN] at h), HB.out⟩, BX.out⟩
  case round =>
    obtain ⟨k, fvs, hk, rfl, hacc, hbx⟩ := hrel
    have c0 : wr.cell? ⟨w.heap.size, 0, none⟩ = some (.slice A ps.length cap) := hbx.cell 0
    by_cases hlt : k < ps.length
    · obtain ⟨p, hp⟩ : ∃ p, ps[k]? = some p := ⟨_, List.getElem?_eq_getElem hlt⟩
      have hb := hacc.below
      have hE := H.out.below hb (Nat.le_refl _)
      obtain ⟨g, cap', pa, pc, e1, _, hg, e2, d0, d1, d2, d3⟩ := hE.here hp
      cases e1
      have hfr := H.out.each p (List.mem_of_getElem? hp)
      rw [e2] at d2 hfr
      have HFR := Lib.hid hfr
      have SN := Lib.hid (stzN_snoc ps k p hp)
      have hsl := stzN_len (ps.take k)
      rw [List.length_take] at hsl
      have hsz := hb.size
      by_cases hq : 0 < p.1.2
      · have ACC := Lib.hid hacc
        have hrow := hacc.row
        have HO := Lib.hid (rowBase hacc.row (Nat.zero_le _))
        obtain ⟨ua, uc, rfl, _⟩ := own_slice hacc.row
        have HBX := Lib.hid hbx
        have HNE := Lib.hid (own_cells_ne hacc.row hbx (by decide))
        clear hacc hE hfr hp hbx e2 d0 d1 hb
        generalize (stzN (ps.take k)) = rs at *
        go_wp2_with fail
        go_region_law (refine step_append_own rfl (.tmp 19) (.tmp 34) 60 rfl 63 i0 _ 2 32 Tryz.underlying60 hi hz0 hz1 hz2 rfl (by decide) (.slice ua rs.length uc) rs.length (stzCells rs fvs) (by simp [Act.eval]) (by exact (HO.out.alloc _).drew) ⟨wr.heap.size, 0, none⟩ 1 1 [.int .i64 p.1.2, .slice pa p.1.1.fields.length pc] (by simp [Act.eval]) rfl (cells_new_add wr 63 [.int .i64 p.1.2, .slice pa p.1.1.fields.length pc]) (by intro u hu; simp at hu; rcases hu with rfl | rfl <;> rfl) (by unfold maxLen; omega) (by omega) ?_; intro v' w3 ho hgrow hbk; have hown' := Lib.hid (own_base hrow ho hbk (by simp; omega)); have hgr := Lib.hid hgrow; obtain ⟨g', cap', rfl⟩ := ownsRow_succ ho; clear ho hgrow hbk)
        all_goals go_wp2_with fail
        all_goals
          have hacc3 := ACC.out.snoc (s := (p.1.2, p.1.1.fields)) HFR.out hown'.out (((Below.refl wr.heap.size wr).alloc (Nat.le_refl _) _).drew) hgr.out
          have hbx3 := ((HBX.out.alloc (.cells #[.int .i64 p.1.2, .slice pa p.1.1.fields.length pc] 63)).drew).grown hgr.out (fun e => HNE.out e.symm)
          go_roundw
          case rel => exact ⟨k + 1, _, hlt, by go_num, by rw [SN.out, if_pos hq]; exact hacc3, hbx3⟩
          case measure => simp [intOf]; omega
      · have hq' : decide (0 < p.1.2) = false := decide_eq_false hq
        have ACC := Lib.hid hacc
        have HBX := Lib.hid hbx
        clear hacc hE hfr hp hbx e2 d0 d1 hb
        go_wp2_with fail
        go_roundw
        case rel => exact ⟨k + 1, _, hlt, by go_num, by rw [SN.out, if_neg hq, List.append_nil]; exact ACC.out, HBX.out⟩
        case measure => simp [intOf]; omega
    · obtain rfl : k = ps.length := by omega
      rw [List.take_length] at hacc
      have HACC := Lib.hid hacc
      clear hacc hbx
      go_wp2_with fail
      go_ret
      exact ⟨_, fvs, rfl, HACC.out⟩
end Go.Proofs.YtiebbgbcojgeoaaGreatDoor
/- A drawn region in which each operation yields a value of some kind, and the world may grow: by a table of what holds of each value. -/
namespace Go.Proofs.YtiebbgbcojgeoaaGreatDoor
open Go.RowKit

structure MTab (a0 : Act) (w0 : World) (n : Nat) (dst : Nat → Option Nat) (Pv : Nat → Value → World → Prop) (R : World → World → Prop) (l : Array Bool) (a : Act) (w : World) : Prop where
  dfr : a.defers = a0.defers
  sz : a.tmps.size = a0.tmps.size
  frm : ∀ j, (∀ k, k < n → dst k ≠ some j) → a.tmps[j]? = a0.tmps[j]?
  val : ∀ i d, l.getD i false = true → dst i = some d → ∃ v, a.tmps[d]? = some v ∧ Pv i v w
  wd : R w0 w
theorem wpAny_mono {P : Program} {ops : Array Oper} {Q : Exit → Act → World → Prop} (a0 : Act) (w0 : World) (dst : Nat → Option Nat) (Pv : Nat → Value → World → Prop) (R : World → World → Prop)
    (R0 : R w0 w0) (RT : ∀ x y, R w0 x → R x y → R w0 y) (PM : ∀ i v x y, R w0 x → R x y → Pv i v x → Pv i v y)
    (hd : ∀ i o, ops[i]? = some o → o.dst = dst i) (inj : ∀ i k d, i < ops.size → k < ops.size → dst i = some d → dst k = some d → i = k) (dlt : ∀ i d, i < ops.size → dst i = some d → d < a0.tmps.size)
    (hlow : ∀ i o e, ops[i]? = some o → e ∈ o.after → Region.binds .any e = true → e.on < i)
    (step : ∀ i o a w, ops[i]? = some o → a.tmps.size = a0.tmps.size → (∀ j, (∀ k, k < ops.size → dst k ≠ some j) → a.tmps[j]? = a0.tmps[j]?) → (∀ e ∈ o.after, Region.binds .any e = true → ∀ d, dst e.on = some d → ∃ v, a.tmps[d]? = some v ∧ Pv e.on v w) → R w0 w →
      (Region.wanted o (yielded ops a.tmps) = true ∧ ∀ K : Act → World → Prop, (∀ v w', R w w' → Pv i v w' → K (a.put (dst i) v) w') → Oper.wp P o a w K Q) ∨ (Region.wanted o (yielded ops a.tmps) = false ∧ Pv i undef w))
    (RR : ∀ w, R w0 w → R w w)
    (hQ : ∀ a w, a.defers = a0.defers → a.tmps.size = a0.tmps.size → (∀ j, (∀ k, k < ops.size → dst k ≠ some j) → a.tmps[j]? = a0.tmps[j]?) → (∀ i d, i < ops.size → dst i = some d → ∃ v, a.tmps[d]? = some v ∧ Pv i v w) → R w0 w → Q .normal a w) :
    wpAny P .any ops Q ops.size (Array.replicate ops.size false) a0 w0 := by
  refine wpAny_inv (MTab a0 w0 ops.size dst Pv R) ?step ?done ops.size _ a0 _ ?start (by simp) (by unfold todo; simp)
  case start =>
    have e : ∀ i, (Array.replicate ops.size false).getD i false = false := fun i => by
      rw [Array.getD_eq_getD_getElem?, Array.getElem?_replicate]; split <;> rfl
    exact ⟨rfl, rfl, fun _ _ => rfl, (fun i d h => absurd ((e i).symm.trans h) (by decide)), R0⟩
  case done =>
    intro l a w I hl hr
    have A := all_done hl hlow hr
    exact hQ a w I.dfr I.sz I.frm (fun i d hi h => I.val i d (A i hi) h) I.wd
  case step =>
    intro l i o a w I hl ho hli he
    have hil := lt_of_getD hli
    have hi : i < ops.size := by omega
    have dep : ∀ e ∈ o.after, Region.binds .any e = true → ∀ d, dst e.on = some d → ∃ v, a.tmps[d]? = some v ∧ Pv e.on v w := fun e h1 h2 d h3 => I.val e.on d (he e h1 h2) h3
    have key : ∀ v w', R w w' → Pv i v w' → MTab a0 w0 ops.size dst Pv R (l.setIfInBounds i true) (a.put (dst i) v) w' := by
      intro v w' hR hP
      have hwd := RT w w' I.wd hR
      cases hdi : dst i with
      | none =>
        refine ⟨I.dfr, I.sz, I.frm, fun k d hk hkd => ?_, hwd⟩
        rw [getD_set l i hil] at hk
        by_cases q : k = i
        · rw [q, hdi] at hkd; cases hkd
        · rw [if_neg q] at hk
          obtain ⟨u, h1, h2⟩ := I.val k d hk hkd
          exact ⟨u, h1, PM k u w w' I.wd hR h2⟩
      | some d0 =>
        have hd0 := dlt i d0 hi hdi
        have T : ∀ j, (a.put (some d0) v).tmps[j]? = if j = d0 then some v else a.tmps[j]? := fun j => by
          show (a.tmps.setIfInBounds d0 v)[j]? = _
          rw [Array.getElem?_setIfInBounds]
          by_cases h : d0 = j
          · subst h; simp [I.sz, hd0]
          · rw [if_neg h, if_neg (Ne.symm h)]
        refine ⟨I.dfr, ?_, fun j hj => ?_, fun k d hk hkd => ?_, hwd⟩
        · show (a.tmps.setIfInBounds d0 v).size = _
          simp [I.sz]
        · rw [T, if_neg (fun e => hj i hi (by rw [hdi, e]))]; exact I.frm j hj
        · rw [T]
          rw [getD_set l i hil] at hk
          by_cases q : k = i
          · subst q
            rw [hdi] at hkd
            rw [if_pos (Option.some.inj hkd).symm]
            exact ⟨v, rfl, hP⟩
          · rw [if_neg q] at hk
            have hkl : k < ops.size := by
              rcases Nat.lt_or_ge k ops.size with z | z
              · exact z
              · rw [Array.getD_eq_getD_getElem?, Array.getElem?_eq_none (by omega)] at hk; cases hk
            rw [if_neg (fun e => q (inj k i d hkl hi hkd (by rw [hdi, e])))]
            obtain ⟨u, h1, h2⟩ := I.val k d hk hkd
            exact ⟨u, h1, PM k u w w' I.wd hR h2⟩
    unfold wpOp
    rw [ho]
    dsimp only
    rcases step i o a w ho I.sz I.frm dep I.wd with ⟨h1, h2⟩ | ⟨h1, h2⟩
    · rw [if_pos h1]
      exact .inl (h2 _ key)
    · rw [if_neg (by rw [h1]; decide), hd i o ho]
      exact key undef w (RR w I.wd) h2
/-- What holds of each operation's value: by a list. -/
def pvL (L : List (Value → World → Prop)) (i : Nat) (v : Value) (w : World) : Prop := match L[i]? with | some P => P v w | none => True
def AllM : List (Value → World → Prop) → Prop
  | [] => True
  | P :: r => (∀ v x y, Below x.heap.size x y → P v x → P v y) ∧ AllM r
theorem pvL_mono : ∀ {L : List (Value → World → Prop)} (_ : AllM L) {i : Nat} {v : Value} {x y : World}, Below x.heap.size x y → pvL L i v x → pvL L i v y
  | [], _, i, v, x, y, _, _ => trivial
  | P :: r, h, 0, v, x, y, hb, hp => h.1 v x y hb hp
  | P :: r, h, i + 1, v, x, y, hb, hp => pvL_mono (L := r) h.2 (i := i) hb hp
end Go.Proofs.YtiebbgbcojgeoaaGreatDoor
/- What each operation of a drawn region yields. -/
namespace Go.Proofs.YtiebbgbcojgeoaaGreatDoor
open Go.RowKit Go.Shelf
attribute [local go_sem] Oper.semAt_some

theorem evT {a : Act} {i : Nat} {v : Value} (h : a.tmps[i]? = some v) : a.eval (.tmp i) = v := by
  show a.tmps.getD i undef = v
  rw [Array.getD_eq_getD_getElem?, h]; rfl
theorem wantN {ops : Array Oper} {o : Oper} {a : Act} (h : o.guard = none) : Region.wanted o (yielded ops a.tmps) = true := by
  unfold Region.wanted; rw [h]
theorem wantG {ops : Array Oper} {o : Oper} {a : Act} {i d : Nat} {b : Bool} (hg : o.guard = some (i, b)) (hd : ((ops[i]?).bind (·.dst)) = some d) (h : a.tmps[d]? = some (.bool b)) : Region.wanted o (yielded ops a.tmps) = true := by
  have y : yielded ops a.tmps i = some b := by
    unfold yielded
    rw [hd]
    show (match a.tmps[d]? with | some (.bool b) => some b | _ => none) = _
    rw [h]
  unfold Region.wanted
  rw [hg]
  show (yielded ops a.tmps i == some b) = true
  rw [y]; simp
theorem act_set : ∀ (L : List (Nat × Value)) (s t : Array Value), s.size = t.size → (∀ p ∈ L, s[p.1]? = some p.2) → (∀ j, j ∉ L.map Prod.fst → s[j]? = t[j]?) → s = L.foldl (fun u p => u.setIfInBounds p.1 p.2) t
  | [], s, t, _, _, h => Array.ext_getElem? (fun j => h j (by simp))
  | p :: L, s, t, hs, h1, h2 => by
    rw [List.foldl_cons]
    refine act_set L s _ (by simpa using hs) (fun q hq => h1 q (List.mem_cons_of_mem _ hq)) (fun j hj => ?_)
    rw [Array.getElem?_setIfInBounds]
    have hp := h1 p List.mem_cons_self
    by_cases q : p.1 = j
    · have : p.1 < t.size := by rw [← hs]; exact (Array.getElem?_eq_some_iff.1 hp).1
      rw [if_pos q, if_pos this, ← q]; exact hp
    · rw [if_neg q]
      exact h2 j (by rw [List.map_cons]; intro hm; rcases List.mem_cons.1 hm with e | e; exact q e.symm; exact hj e)
theorem act_set' {a a0 : Act} (L : List (Nat × Value)) (hd : a.defers = a0.defers) (hs : a.tmps.size = a0.tmps.size) (h1 : ∀ p ∈ L, a.tmps[p.1]? = some p.2) (h2 : ∀ j, j ∉ L.map Prod.fst → a.tmps[j]? = a0.tmps[j]?) : a = { a0 with tmps := L.foldl (fun u p => u.setIfInBounds p.1 p.2) a0.tmps } := by
  have := act_set L a.tmps a0.tmps hs h1 h2
  obtain ⟨t, d⟩ := a
  obtain ⟨t0, d0⟩ := a0
  simp only at this hd ⊢
  subst this hd
  rfl
section
variable {o : Oper} {a : Act} {w : World} {K : Act → World → Prop} {Q : Exit → Act → World → Prop}
theorem mo_run {v : Value} (e : (execOp a.eval o).run Tryz.prog w = .ok (.value v) w) (hK : K (a.put o.dst v) w) : Oper.wp Tryz.prog o a w K Q := by
  unfold Oper.wp
  rw [e]; exact hK
theorem mo_move {x : Operand} {v : Value} (ho : o.op = Op.move x) (hx : a.eval x = v) (hK : K (a.put o.dst v) w) : Oper.wp Tryz.prog o a w K Q :=
  mo_run (by simp only [execOp, ho, hx]; simp [go_sem]) hK
theorem mo_assign {x : Operand} {v : Value} (ho : o.op = Op.assign x) (hx : a.eval x = v) (hK : K (a.put o.dst v) w) : Oper.wp Tryz.prog o a w K Q :=
  mo_run (by simp only [execOp, ho, hx]; simp [go_sem]) hK
theorem mo_not {x : Operand} {b : Bool} (ho : o.op = Op.unOp UnOp.not 4 x) (hx : a.eval x = .bool b) (hK : K (a.put o.dst (.bool (!b))) w) : Oper.wp Tryz.prog o a w K Q :=
  mo_run (by simp only [execOp, ho, hx]; simp [go_sem]) hK
theorem mo_pick {c x y : Operand} {b : Bool} {v u z : Value} (ho : o.op = Op.pick c x y) (hc : a.eval c = .bool b) (hx : a.eval x = v) (hy : a.eval y = u) (hz : z = if b = true then v else u) (hK : K (a.put o.dst z) w) : Oper.wp Tryz.prog o a w K Q := by
  subst hz
  exact mo_run (by simp only [execOp, ho, hc, hx, hy]; cases b <;> simp [go_sem]) hK
theorem mo_eqlI {x y : Operand} {m n : Int} (ho : o.op = Op.binOp BinOp.eql 3 x y 3) (hx : a.eval x = .int .i64 m) (hy : a.eval y = .int .i64 n) (hK : K (a.put o.dst (.bool (m == n))) w) : Oper.wp Tryz.prog o a w K Q :=
  mo_run (by simp only [execOp, ho, hx, hy]; simp [go_sem]) hK
theorem mo_neqI {x y : Operand} {m n : Int} (ho : o.op = Op.binOp BinOp.neq 3 x y 3) (hx : a.eval x = .int .i64 m) (hy : a.eval y = .int .i64 n) (hK : K (a.put o.dst (.bool (m != n))) w) : Oper.wp Tryz.prog o a w K Q :=
  mo_run (by simp only [execOp, ho, hx, hy]; simp [go_sem]) hK
theorem mo_eqlS {x y : Operand} {m n : ByteArray} (ho : o.op = Op.binOp BinOp.eql 9 x y 9) (hx : a.eval x = .string m) (hy : a.eval y = .string n) (hK : K (a.put o.dst (.bool (m.toList == n.toList))) w) : Oper.wp Tryz.prog o a w K Q :=
  mo_run (by simp only [execOp, ho, hx, hy]; simp [go_sem]) hK
theorem mo_neqS {x y : Operand} {m n : ByteArray} (ho : o.op = Op.binOp BinOp.neq 9 x y 9) (hx : a.eval x = .string m) (hy : a.eval y = .string n) (hK : K (a.put o.dst (.bool (m.toList != n.toList))) w) : Oper.wp Tryz.prog o a w K Q :=
  mo_run (by simp only [execOp, ho, hx, hy]; simp [go_sem, bne]) hK
theorem mo_eqlB {x y : Operand} {m n : Bool} (ho : o.op = Op.binOp BinOp.eql 4 x y 4) (hx : a.eval x = .bool m) (hy : a.eval y = .bool n) (hK : K (a.put o.dst (.bool (m == n))) w) : Oper.wp Tryz.prog o a w K Q :=
  mo_run (by simp only [execOp, ho, hx, hy]; simp [go_sem]) hK
theorem mo_lenZ {x : Operand} {f : Option Addr} {n c : Nat} (ho : o.op = Op.call { callee := Callee.builtin Builtin.len, args := #[x], argTypes := #[60] }) (hx : a.eval x = .slice f n c) (hK : K (a.put o.dst (.int .i64 n)) w) : Oper.wp Tryz.prog o a w K Q :=
  mo_run (by
    generalize a.eval = ρ at hx ⊢
    simp only [execOp, ho]
    simp [go_sem, resolve, invoke, hx]) hK
theorem mo_lenI {x : Operand} {f : Option Addr} {n c : Nat} (ho : o.op = Op.call { callee := Callee.builtin Builtin.len, args := #[x], argTypes := #[55] }) (hx : a.eval x = .slice f n c) (hK : K (a.put o.dst (.int .i64 n)) w) : Oper.wp Tryz.prog o a w K Q :=
  mo_run (by
    generalize a.eval = ρ at hx ⊢
    simp only [execOp, ho]
    simp [go_sem, resolve, invoke, hx]) hK
theorem mo_field {x : Operand} {T : TypeId} {k b i j : Nat} (hf : (Instr.fieldAt T (.pointer (some ⟨b, i, none⟩)) k).run Tryz.prog w = .ok (.pointer (some ⟨b, j, none⟩)) w) (ho : o.op = Op.fieldAddr T x k) (hx : a.eval x = .pointer (some ⟨b, i, none⟩)) (hK : K (a.put o.dst (.pointer (some ⟨b, j, none⟩))) w) : Oper.wp Tryz.prog o a w K Q :=
  mo_run (by simp only [execOp, ho, hx]; simp [hf]) hK
theorem mo_load {x : Operand} {T : TypeId} {b i : Nat} {u : Value} (hl : (Instr.loadAt T (.pointer (some ⟨b, i, none⟩))).run Tryz.prog w = .ok u w) (ho : o.op = Op.load T x) (hx : a.eval x = .pointer (some ⟨b, i, none⟩)) (hK : K (a.put o.dst u) w) : Oper.wp Tryz.prog o a w K Q :=
  mo_run (by simp only [execOp, ho, hx]; simp [hl]) hK
theorem field_at {T b i k j : Nat} {w : World} (h : (Instr.fieldAt T (.pointer (some ⟨b, i, none⟩)) k).run Tryz.prog w = .ok (.pointer (some ⟨b, j, none⟩)) w) : (Instr.fieldAt T (.pointer (some ⟨b, i, none⟩)) k).run Tryz.prog w = .ok (.pointer (some ⟨b, j, none⟩)) w := h
theorem load_int {w : World} {b i : Nat} {n : Int} (c : w.cell? ⟨b, i, none⟩ = some (.int .i64 n)) : (Instr.loadAt 3 (.pointer (some ⟨b, i, none⟩))).run Tryz.prog w = .ok (.int .i64 n) w := by simp [go_sem, c]
theorem load_str {w : World} {b i : Nat} {n : ByteArray} (c : w.cell? ⟨b, i, none⟩ = some (.string n)) : (Instr.loadAt 9 (.pointer (some ⟨b, i, none⟩))).run Tryz.prog w = .ok (.string n) w := by simp [go_sem, c]
theorem load_flds {w : World} {b i : Nat} {f : Option Addr} {n m : Nat} (c : w.cell? ⟨b, i, none⟩ = some (.slice f n m)) : (Instr.loadAt 36 (.pointer (some ⟨b, i, none⟩))).run Tryz.prog w = .ok (.slice f n m) w := by simp [go_sem, c]
theorem load_lst {w : World} {b : Nat} {u z : Value} (c0 : w.cell? ⟨b, 0, none⟩ = some u) (c1 : w.cell? ⟨b, 1, none⟩ = some z) : (Instr.loadAt 32 (.pointer (some ⟨b, 0, none⟩))).run Tryz.prog w = .ok (.agg #[u, z]) w := by simp [go_sem, c0, c1]
theorem field_lst {w : World} {b : Nat} : (Instr.fieldAt 32 (.pointer (some ⟨b, 0, none⟩)) 1).run Tryz.prog w = .ok (.pointer (some ⟨b, 1, none⟩)) w := by simp [go_sem]
theorem field_it1 {w : World} {b : Nat} : (Instr.fieldAt 47 (.pointer (some ⟨b, 0, none⟩)) 1).run Tryz.prog w = .ok (.pointer (some ⟨b, 1, none⟩)) w := by simp [go_sem]
theorem field_it2 {w : World} {b : Nat} : (Instr.fieldAt 47 (.pointer (some ⟨b, 0, none⟩)) 2).run Tryz.prog w = .ok (.pointer (some ⟨b, 2, none⟩)) w := by simp [go_sem]
theorem field_stz0 {w : World} {b : Nat} : (Instr.fieldAt 63 (.pointer (some ⟨b, 0, none⟩)) 0).run Tryz.prog w = .ok (.pointer (some ⟨b, 0, none⟩)) w := by simp [go_sem]
end
section
variable {o : Oper} {a : Act} {w : World} {K : Act → World → Prop} {Q : Exit → Act → World → Prop} {T : Value → World → Prop}
theorem mo_call1 {x : Operand} {u : Value} (F : Nat) {T1 : TypeId} (ho : o.op = Op.call { callee := Callee.value (Operand.func F), args := #[x], argTypes := #[T1] }) (hx : a.eval x = u)
    (en : ∀ args w, (callFunc F args).run Tryz.prog w = .ok (.enter F args) w) (hC : Calls Tryz.prog F #[u] w fun e w' => ∃ v, e = .returned v ∧ T v w') (hK : ∀ v w', T v w' → K (a.put o.dst v) w') : Oper.wp Tryz.prog o a w K Q := by
  unfold Oper.wp
  have e : (execOp a.eval o).run Tryz.prog w = .ok (.enter F #[u]) w := by
    have hf : a.eval (.func F) = .func (.func F) #[] #[] := rfl
    generalize a.eval = ρ at hx hf ⊢
    simp only [execOp, ho]
    simp [go_sem, resolve, invoke, hx, hf, en]
  rw [e]
  refine hC.mono ?_
  rintro e w' ⟨v, rfl, h⟩
  exact hK v w' h
theorem mo_call2 {x y : Operand} {u z : Value} (F : Nat) {T1 T2 : TypeId} (ho : o.op = Op.call { callee := Callee.value (Operand.func F), args := #[x, y], argTypes := #[T1, T2] }) (hx : a.eval x = u) (hy : a.eval y = z)
    (en : ∀ args w, (callFunc F args).run Tryz.prog w = .ok (.enter F args) w) (hC : Calls Tryz.prog F #[u, z] w fun e w' => ∃ v, e = .returned v ∧ T v w') (hK : ∀ v w', T v w' → K (a.put o.dst v) w') : Oper.wp Tryz.prog o a w K Q := by
  unfold Oper.wp
  have e : (execOp a.eval o).run Tryz.prog w = .ok (.enter F #[u, z]) w := by
    have hf : a.eval (.func F) = .func (.func F) #[] #[] := rfl
    generalize a.eval = ρ at hx hy hf ⊢
    simp only [execOp, ho]
    simp [go_sem, resolve, invoke, hx, hy, hf, en]
  rw [e]
  refine hC.mono ?_
  rintro e w' ⟨v, rfl, h⟩
  exact hK v w' h
theorem mo_call3 {x y z : Operand} {u v2 v3 : Value} (F : Nat) {T1 T2 T3 : TypeId} (ho : o.op = Op.call { callee := Callee.value (Operand.func F), args := #[x, y, z], argTypes := #[T1, T2, T3] }) (hx : a.eval x = u) (hy : a.eval y = v2) (hz : a.eval z = v3)
    (en : ∀ args w, (callFunc F args).run Tryz.prog w = .ok (.enter F args) w) (hC : Calls Tryz.prog F #[u, v2, v3] w fun e w' => ∃ v, e = .returned v ∧ T v w') (hK : ∀ v w', T v w' → K (a.put o.dst v) w') : Oper.wp Tryz.prog o a w K Q := by
  unfold Oper.wp
  have e : (execOp a.eval o).run Tryz.prog w = .ok (.enter F #[u, v2, v3]) w := by
    have hf : a.eval (.func F) = .func (.func F) #[] #[] := rfl
    generalize a.eval = ρ at hx hy hz hf ⊢
    simp only [execOp, ho]
    simp [go_sem, resolve, invoke, hx, hy, hz, hf, en]
  rw [e]
  refine hC.mono ?_
  rintro e w' ⟨v, rfl, h⟩
  exact hK v w' h
end
end Go.Proofs.YtiebbgbcojgeoaaGreatDoor
