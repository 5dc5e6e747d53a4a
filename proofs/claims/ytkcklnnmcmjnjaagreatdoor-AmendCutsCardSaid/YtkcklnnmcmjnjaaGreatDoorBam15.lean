/- Texts put together: UI, UJ, UL, TM. -/
import Derived.Shelf.Spec.SlicesInsertGrow
import Derived.ArgAppend
import Derived.Test.YtkcklnnmcmjnjaaGreatDoorBam10
import Derived.Test.YtkcklnnmcmjnjaaGreatDoorBam11
import Derived.Test.YtkcklnnmcmjnjaaGreatDoorBam14
set_option linter.unusedVariables false
namespace Go.Proofs.YtkcklnnmcmjnjaaGreatDoor
open Go.RowKit Go.Shelf

/-- Values laid over an array from a place on. -/
def layV (cur : Array Value) : Nat → List Value → Array Value
  | _, [] => cur
  | o, v :: r => layV (cur.setIfInBounds o v) (o + 1) r
theorem layV_size : ∀ (vs : List Value) (cur : Array Value) (o : Nat), (layV cur o vs).size = cur.size
  | [], _, _ => rfl
  | v :: r, cur, o => by
    show (layV (cur.setIfInBounds o v) (o + 1) r).size = _
    rw [layV_size r]; simp
theorem layV_at : ∀ (vs : List Value) (cur : Array Value) (o j : Nat), o + vs.length ≤ cur.size → (layV cur o vs)[j]? = if o ≤ j ∧ j < o + vs.length then vs[j - o]? else cur[j]?
  | [], cur, o, j, _ => by
    show cur[j]? = _
    rw [if_neg (by simp only [List.length_nil]; omega)]
  | v :: r, cur, o, j, h => by
    show (layV (cur.setIfInBounds o v) (o + 1) r)[j]? = _
    rw [layV_at r _ _ _ (by simp at h ⊢; omega)]
    simp only [List.length_cons] at h ⊢
    by_cases h1 : o + 1 ≤ j ∧ j < o + 1 + r.length
    · rw [if_pos h1, if_pos (by omega), show j - o = (j - (o + 1)) + 1 by omega, List.getElem?_cons_succ]
    · rw [if_neg h1]
      by_cases h2 : o = j
      · subst h2
        rw [if_pos (by omega), Nat.sub_self, List.getElem?_cons_zero, Array.getElem?_setIfInBounds]
        simp
        omega
      · rw [if_neg (by omega), Array.getElem?_setIfInBounds, if_neg h2]
theorem Cells.lay {W : World} {b : Nat} {t : TypeId} : ∀ (vs : List Value) {cur : Array Value} (o : Nat), Cells W b t cur → Cells (W.setCells b o vs) b t (layV cur o vs)
  | [], _, _, h => h
  | v :: r, cur, o, h => by
    have := Cells.lay (W := W.setCell ⟨b, o, none⟩ v) r (o + 1) (h.set o v)
    exact this
theorem only_lay {S : Nat → Prop} {X Y : World} {b : Nat} (hb : S b ∨ X.heap.size ≤ b) : ∀ (vs : List Value) (o : Nat), Only S X Y → Only S X (Y.setCells b o vs)
  | [], _, h => h
  | v :: r, o, h => by
    have := only_lay (Y := Y.setCell ⟨b, o, none⟩ v) hb r (o + 1) (h.setCell (p := ⟨b, o, none⟩) hb v)
    exact this
theorem infoEnt : (Tryz.prog.info? 118).map (fun i => (i.zero, i.size, i.bytes)) = some (some (.agg #[.int .i64 0, .string ⟨#[]⟩, .slice none 0 0, .int .i64 0]), 4, 56) := by kernel_rfl
theorem run_clear4 (w : World) (b o c : Nat) (ty : TypeId) (hc : ∀ j, j < 4 → (w.cell? ⟨b, o + j, none⟩).isSome = true) (hf : ∀ j, j < 4 → w.frozen? ⟨b, o + j, none⟩ = false) :
    (Builtin.clear_ #[115] ty #[.slice (some ⟨b, o, none⟩) 1 c]).run Tryz.prog w = .ok (.tuple #[]) (w.setCells b o [.int .i64 0, .string ⟨#[]⟩, .slice none 0 0, .int .i64 0]) := by
  obtain ⟨i0, hi, hz0, hz1, hz2⟩ := info_parts infoEnt
  have hst := run_storeCells_cells (P := Tryz.prog) b o [.int .i64 0, .string ⟨#[]⟩, .slice none 0 0, .int .i64 0] 0 w (by simpa using hc) (by simpa using hf) (by intro v hv; simp at hv; rcases hv with rfl | rfl | rfl | rfl <;> rfl)
  simp only [Nat.add_zero] at hst
  have hu : Tryz.prog.underlying 115 = some (.slice 118) := Tryz.underlying115
  have hzv : (zeroValue 118).run Tryz.prog w = .ok (.agg #[.int .i64 0, .string ⟨#[]⟩, .slice none 0 0, .int .i64 0]) w := by simp [zeroValue, typeInfo, hi, hz0]
  have hzc : (Builtin.zeroCells (Value.agg #[.int .i64 0, .string ⟨#[]⟩, .slice none 0 0, .int .i64 0]).cells 1).toList = [.int .i64 0, .string ⟨#[]⟩, .slice none 0 0, .int .i64 0] := by kernel_rfl
  simp only [Builtin.clear_]
  simp [run_underlying hu, hzv, hzc, hst]
/-- append, where its run is known, as one step of a region that draws. -/
theorem step_append_runI {P : Program} {ops : Array Oper} {o : Oper} {a : Act} {w : World} {K : Act → World → Prop} {Q : Exit → Act → World → Prop} {E : Prop}
    (hg : o.guard = none) (d x : Operand) (dT sT : TypeId) (hop : o.op = Op.call { callee := Callee.builtin Builtin.append, args := #[d, x], argTypes := #[dT, sT] })
    (v u : Value) (hd : a.eval d = v) (hx : a.eval x = u) {v' : Value} {w' : World} (hr : (Builtin.append_ #[dT, sT] o.type #[v, u]).run P w = .ok v' w') (hK : K (a.put o.dst v') w') :
    if Region.wanted o (yielded ops a.tmps) = true then Oper.wp P o a w K Q else E := by
  have hw : Region.wanted o (yielded ops a.tmps) = true := by simp [Region.wanted, hg]
  rw [if_pos hw]
  unfold Oper.wp
  simp [execOp, hop, resolve, invoke, builtin, hd, hx, hr, Result.andThen]
  exact hK
set_option maxRecDepth 100000 in
set_option maxHeartbeats 4000000 in
theorem delete7_any (lo g n cap i : Nat) (xs : List Value) (w : World) (hrow : w.ownsRow lo 118 4 (sl g n cap) n xs) (hone : ∀ u ∈ xs, u.oneCell' = true) (hi : i < n) (hn : n ≤ 1000000) :
    Calls Tryz.prog 170 #[sl g n cap, .int .i64 (i : Nat), .int .i64 (i + 1 : Nat)] w fun e w' => e = .returned (sl g (n - 1) cap) ∧ w'.ownsRow lo 118 4 (sl g (n - 1) cap) (n - 1) (xs.take (i * 4) ++ xs.drop ((i + 1) * 4)) ∧ Only (· = g) w w' := by
  obtain ⟨i0, hi0, hz0, hz1, hz2⟩ := info_parts infoEnt
  have hlen := hrow.1
  obtain ⟨cur, hlo, hg, hle, hcm, hcs, htk⟩ : ∃ cur, lo ≤ g ∧ Cells w g 118 cur ∧ n ≤ cap ∧ cap ≤ maxLen ∧ cur.size = cap * 4 ∧ cur.toList.take (n * 4) = xs := by
    rcases hrow.2 with ⟨q, _⟩ | ⟨g', cap', cur, q, a, b, c, d, e, f⟩
    · cases q
    · cases q; exact ⟨cur, a, b, c, d, e, f⟩
  have hat : ∀ j, j < n * 4 → xs[j]? = cur[j]? := fun j hj => by rw [← htk, List.getElem?_take, if_pos hj]; simp
  -- the cells that are moved to the left
  obtain ⟨news, hnews⟩ : ∃ news, news = xs.drop ((i + 1) * 4) := ⟨_, rfl⟩
  have hnl : news.length = (n - (i + 1)) * i0.size := by rw [hz1, hnews, List.length_drop, hlen]; omega
  have hnl4 : news.length = (n - (i + 1)) * 4 := by rw [hnl, hz1]
  have hn1 : ∀ u ∈ news, u.oneCell' = true := fun u hu => hone u (by rw [hnews] at hu; exact List.mem_of_mem_drop hu)
  have hnat : ∀ j u, news[j]? = some u → cur[(i + 1) * 4 + j]? = some u := fun j u hj => by
    have hjl := (List.getElem?_eq_some_iff.1 hj).1
    rw [hnews, List.getElem?_drop] at hj
    rw [← hat _ (by omega)]; exact hj
  obtain ⟨A, hA, hsrc⟩ : ∃ A : Addr, (if cap = i + 1 then some (⟨g, 0, none⟩ : Addr) else some ⟨g, (i + 1) * 4, none⟩) = some A ∧ Hid (∀ j u, news[j]? = some u → w.drew.cell? (A.add j) = some u) := by
    by_cases h : cap = i + 1
    · refine ⟨⟨g, 0, none⟩, by simp [h], fun j u hu => ?_⟩
      have h0 : news.length = 0 := by rw [hnl4]; omega
      rw [List.length_eq_zero_iff.1 h0] at hu
      simp at hu
    · refine ⟨⟨g, (i + 1) * 4, none⟩, by simp [h], fun j u hu => ?_⟩
      rw [Addr.add_lit]
      exact (hg.cell _).trans (hnat j u hu)
  have hc : Hid (∀ j, j < news.length → (w.drew.cell? ⟨g, 0 + i * i0.size + j, none⟩).isSome = true) := fun j hj => by
    show (w.cell? _).isSome = true
    rw [hg.cell, hz1, Array.getElem?_eq_getElem (by omega)]; rfl
  have hf : Hid (∀ j, j < news.length → w.drew.frozen? ⟨g, 0 + i * i0.size + j, none⟩ = false) := fun j hj => hg.frozen _
  have hu : Tryz.prog.underlying 115 = some (.slice 118) := Tryz.underlying115
  obtain ⟨W1, hW1⟩ : ∃ W1, W1 = w.drew.setCells g (i * 4) news := ⟨_, rfl⟩
  have C1 : Cells W1 g 118 (layV cur (i * 4) news) := by rw [hW1]; exact Cells.lay news _ (show Cells w.drew g _ cur from hg)
  have hsz1 : (layV cur (i * 4) news).size = cap * 4 := by rw [layV_size, hcs]
  have CLR := Lib.hid (fun (c : Nat) (ty : TypeId) => run_clear4 W1 g ((n - 1) * 4) c ty (fun j hj => by rw [C1.cell, Array.getElem?_eq_getElem (by omega)]; rfl) (fun j hj => C1.frozen _))
  have hap : Hid (∀ ty, (Builtin.append_ #[115, 115] ty #[.slice (some ⟨g, 0, none⟩) i cap, .slice (some A) (n - (i + 1)) (cap - (i + 1))]).run Tryz.prog w.drew = .ok (.slice (some ⟨g, 0, none⟩) (n - 1) cap) W1) := fun ty => by
    have := run_append_room_cells (w := w.drew) 115 ty 118 i0 hu hi0 g 0 i cap A (n - (i + 1)) (cap - (i + 1)) news hnl hsrc.out hn1 (by omega) hc.out hf.out
    rw [this, hW1, show i + (n - (i + 1)) = n - 1 by omega, hz1, Nat.zero_add]
  have FIN : w.drew.heap.size = w.heap.size := rfl
  have HW := Lib.hid hW1
  have HC1 := Lib.hid C1
  have HL := Lib.hid hlen
  have HNW := Lib.hid hnews
  have HAT := Lib.hid hat
  have HNL := Lib.hid hnl4
  clear hc hf hsrc hnat hn1 hnl hnews hat htk hg C1 hrow hone hW1 hlen hnl4
  unfold sl
  unfold maxLen at hcm
  have hb1 : (i : Int) ≤ (i : Int) + 1 := by omega
  have hb2 : ((i : Int) + 1) ≤ (n : Int) := by omega
  have hb3 : ¬ (n = i) := by omega
  have hic : i ≤ cap := by omega
  have hjc : i + 1 ≤ cap := by omega
  have hjn : i + 1 ≤ n := by omega
  have hb0 : (0 : Int) ≤ (i : Int) + 1 := by omega
  have hlast : ¬ (cap = n - 1) := by omega
  have hn1c : n - 1 ≤ cap := by omega
  have hnn : n - (n - 1) = 1 := by omega
  have hn1n : (((n - 1 : Nat) : Int)) ≤ (n : Int) := by omega
  have hncap : n ≤ cap := hle
  have hb4 : ((i : Int) == (i : Int) + 1) = false := beq_eq_false_iff_ne.2 (by omega)
  go_enter Tryz.func170, Tryz.ntmps170
  go_wp2_with fail
  go_region_law (refine step_append_runI rfl (.tmp 22) (.tmp 25) 115 115 rfl (.slice (some ⟨g, 0, none⟩) i cap) (.slice (some A) (n - (i + 1)) (cap - (i + 1))) (by simp [Act.eval, Act.put]) (by simp [Act.eval, Act.put]) (hap.out _) ?_)
  have hcl := fun (ty : TypeId) => CLR.out (cap - (n - 1)) ty
  go_wp2_with fail
  go_ret
  obtain ⟨W2, hW2⟩ : ∃ W2, W2 = W1.setCells g ((n - 1) * 4) [.int .i64 0, .string ⟨#[]⟩, .slice none 0 0, .int .i64 0] := ⟨_, rfl⟩
  have C2 : Cells W2 g 118 (layV (layV cur (i * 4) news) ((n - 1) * 4) [.int .i64 0, .string ⟨#[]⟩, .slice none 0 0, .int .i64 0]) := by rw [hW2]; exact Cells.lay _ _ HC1.out
  refine ⟨rfl, ?_, ?_⟩
  · rw [← hW2]
    refine ⟨by rw [List.length_append, List.length_take, List.length_drop, HL.out]; omega, .inr ⟨g, cap, _, rfl, hlo, C2, hn1c, by unfold maxLen; omega, by rw [layV_size, layV_size, hcs], ?_⟩⟩
    apply List.ext_getElem?
    intro j
    rw [List.getElem?_take]
    split
    · rename_i hj
      rw [Array.getElem?_toList, layV_at _ _ _ _ (by rw [layV_size, hcs]; simp only [List.length_cons, List.length_nil]; omega), if_neg (by omega), layV_at _ _ _ _ (by rw [HNL.out, hcs]; omega)]
      split
      · rename_i h2
        rw [List.getElem?_append_right (by rw [List.length_take, HL.out]; omega), List.length_take, HL.out, HNW.out, List.getElem?_drop, List.getElem?_drop]
        congr 1; omega
      · rename_i h2
        rw [HNL.out] at h2
        rw [List.getElem?_append_left (by rw [List.length_take, HL.out]; omega), List.getElem?_take, if_pos (by omega), HAT.out j (by omega)]
    · rename_i hj
      rw [List.getElem?_eq_none]
      rw [List.length_append, List.length_take, List.length_drop, HL.out]; omega
  · rw [HW.out]
    exact only_lay (S := (· = g)) (b := g) (.inl rfl) _ _ (only_lay (S := (· = g)) (b := g) (.inl rfl) _ _ (Only.refl _ w).drew)
end Go.Proofs.YtkcklnnmcmjnjaaGreatDoor

namespace Go.Proofs.YtkcklnnmcmjnjaaGreatDoor
open Go.RowKit Go.Shelf Go.Lib

/-- copy between rows of elements of some cells. -/
theorem run_copy_cellsN {P : Program} (w : World) (dT sT ty elem : TypeId) (i : TypeInfo) (b o dLen dCap : Nat) (a : Addr) (sLen sCap n : Nat) (cs : List Value)
    (hu : P.underlying dT = some (.slice elem)) (hi : P.info? elem = some i) (hm : Nat.min sLen dLen = n) (hn : cs.length = n * i.size)
    (hsrc : ∀ j v, cs[j]? = some v → w.cell? (a.add j) = some v) (hc : ∀ j, j < cs.length → (w.cell? ⟨b, o + j, none⟩).isSome = true) (hf : ∀ j, j < cs.length → w.frozen? ⟨b, o + j, none⟩ = false) (h1 : ∀ v ∈ cs, v.oneCell' = true) :
    (Builtin.copy_ #[dT, sT] ty #[.slice (some ⟨b, o, none⟩) dLen dCap, .slice (some a) sLen sCap]).run P w = .ok (goInt n) (w.setCells b o cs) := by
  have hl := run_loadCells_list (P := P) w a cs hsrc
  have hst := run_storeCells_cells (P := P) b o cs 0 w (by simpa using hc) (by simpa using hf) h1
  rw [hn] at hl
  simp [Builtin.copy_, run_underlying hu, Builtin.lenOf, Builtin.firstCells, sizeOf, typeInfo, hi, hm, hl, hst]
theorem shape_of {W : World} {b : Nat} {t : TypeId} {cur : Array Value} (h : Cells W b t cur) : W.shape? b = some (t, cur.size) := by
  unfold World.shape?
  rw [show W.heap[b]? = _ from h]
/-- An append onto a slice that is owned, as the walk meets it: where the row lies then is told, too. -/
theorem wpList_append_at {P : Program} {w : World} {ops : Array Oper} {rest : List Oper} {o : Oper} {a : Act} {Q : Exit → Act → World → Prop} (hgd : o.guard = none) (s x : Operand) (t : TypeId)
    (hop : o.op = Op.call { callee := Callee.builtin Builtin.append, args := #[s, x], argTypes := #[t, t] }) (base : Nat)
    (e : TypeId) (i : TypeInfo) (z : Value) (size bytes : Nat) (ht : P.underlying t = some (.slice e)) (hi : P.info? e = some i) (hz : i.zero = some z)
    (hsize : i.size = size) (hby : i.bytes = bytes) (hzs : z.cells.size = size) (hsz : 0 < size)
    (v : Value) (n : Nat) (xs : List Value) (hs : a.eval s = v) (hown : w.ownsRow base e size v n xs)
    (ad : Addr) (m c : Nat) (news : List Value) (hx : a.eval x = .slice (some ad) m c) (hl : news.length = m * size) (hnews : ∀ j u, news[j]? = some u → w.cell? (ad.add j) = some u) (h1 : ∀ u ∈ news, u.oneCell' = true)
    (h63 : n + m ≤ maxLen) (hbytes : (n + m) * bytes ≤ 140737488355328) (hb : base ≤ w.heap.size)
    (h : ∀ v' w', w'.ownsRow base e size v' (n + m) (xs ++ news) → w.grownBy w' v.ownBlock → Hid (v'.ownBlock = v.ownBlock ∨ v'.ownBlock = some w.heap.size) → wpList P ops Q rest (a.put o.dst v') w') : wpList P ops Q (o :: rest) a w := by
  refine wpList_plain hgd fun K hK => ?_
  obtain ⟨v', w', hr, h2, h3, h4, h5⟩ := run_append_own_at (P := P) w base t o.type e i z size bytes ht hi hz hsize hby hzs hsz v n xs hown ad m c news hl hnews h1 h63 hbytes hb
  unfold Oper.wp
  simp [execOp, hop, resolve, invoke, builtin, hs, hx, hr, Result.andThen]
  exact hK _ _ (h v' w' h2 h3 h5)
/-- What Insert comes to. -/
def InsR (lo : Nat) (v : Value) (n i : Nat) (xs ys : List Value) (w : World) (e : Ending) (w' : World) : Prop :=
  ∃ v', e = .returned v' ∧ w'.ownsRow lo 118 4 v' (n + 1) (xs.take (i * 4) ++ (ys ++ xs.drop (i * 4))) ∧ Only (fun r => v.ownBlock = some r) w w' ∧ (v'.ownBlock = v.ownBlock ∨ v'.ownBlock = some w.heap.size)
set_option maxRecDepth 100000 in
set_option maxHeartbeats 4000000 in
theorem insert_end (lo : Nat) (v : Value) (n vb : Nat) (xs ys : List Value) (w : World) (hrow : w.ownsRow lo 118 4 v n xs) (hn : n ≤ 1000000) (hlo : lo ≤ w.heap.size) (hy : ys.length = 4) (hvb : Cells w vb 118 ys.toArray) (hy1 : ∀ u ∈ ys, u.oneCell' = true) :
    Calls Tryz.prog 172 #[v, .int .i64 (n : Nat), sl vb 1 1] w fun e w' => InsR lo v n n xs ys w e w' := by
  obtain ⟨i0, hi, hz0, hz1, hz2⟩ := info_parts infoEnt
  have HV : ∀ j u, ys[j]? = some u → w.cell? ((⟨vb, 0, none⟩ : Addr).add j) = some u := fun j u h => by
    have ea : (⟨vb, 0, none⟩ : Addr).add j = ⟨vb, j, none⟩ := by unfold Addr.add; split <;> simp_all
    rw [ea, hvb.cell j]; simpa using h
  have HV := Lib.hid HV
  have HR := Lib.hid hrow
  have hlen := hrow.1
  have HL := Lib.hid hlen
  have E1 : xs.take (n * 4) = xs := List.take_of_length_le (by omega)
  have E2 : xs.drop (n * 4) = [] := List.drop_of_length_le (by omega)
  have E := Lib.hid (And.intro E1 E2)
  clear E1 E2 hlen
  unfold sl
  rcases Joins.ownsRow_forms hrow with ⟨rfl, rfl⟩ | ⟨g, cap, rfl⟩
  · clear hrow
    go_enter Tryz.func172, Tryz.ntmps172
    go_wp2_with (at_builtin; refine wpList_append_at rfl _ _ 115 rfl lo 118 i0 _ 4 56 Tryz.underlying115 hi hz0 hz1 hz2 rfl (by decide) _ _ _ rfl HR.out ⟨vb, 0, none⟩ 1 1 _ rfl (by rw [hy]) HV.out hy1 ?c3 ?c4 ?c5 ?_)
    case c3 => unfold maxLen; omega
    case c4 => omega
    case c5 => exact hlo
    intro v' w3 hown' hgrow hbk
    obtain ⟨g', cap', rfl⟩ := ownsRow_succ hown'
    go_wp2_with fail
    go_ret
    exact ⟨_, rfl, by rw [E.out.1, E.out.2, List.append_nil]; exact hown', (Only.refl _ _).grown hgrow (fun k hk => .inl hk), hbk.out⟩
  · have hle : n ≤ cap := by
      rcases hrow.2 with ⟨q, _⟩ | ⟨g', cap', cur, q, _, _, h, _⟩
      · cases q
      · cases q; exact h
    clear hrow
    go_enter Tryz.func172, Tryz.ntmps172
    go_wp2_with (at_builtin; refine wpList_append_at rfl _ _ 115 rfl lo 118 i0 _ 4 56 Tryz.underlying115 hi hz0 hz1 hz2 rfl (by decide) _ _ _ rfl HR.out ⟨vb, 0, none⟩ 1 1 _ rfl (by rw [hy]) HV.out hy1 ?c3 ?c4 ?c5 ?_)
    all_goals first | (show n + 1 ≤ maxLen; unfold maxLen; omega) | (show (n + 1) * 56 ≤ 140737488355328; omega) | exact hlo | skip
    all_goals
      intro v' w3 hown' hgrow hbk
      obtain ⟨g', cap', rfl⟩ := ownsRow_succ hown'
      go_wp2_with fail
      go_ret
      exact ⟨_, rfl, by rw [E.out.1, E.out.2, List.append_nil]; exact hown', (Only.refl _ _).grown hgrow (fun k hk => .inl hk), hbk.out⟩
theorem overlaps_no (w : World) (vb g off lb cb : Nat) (cur cur' : Array Value) (hne : vb ≠ g) (hv : Cells w vb 118 cur') (hg : Cells w g 118 cur) (h0 : cur.size ≠ 0) :
    (callFunc 191 #[.slice (some ⟨vb, 0, none⟩) 1 1, .slice (some ⟨g, off, none⟩) lb cb]).run Tryz.prog w = .ok (.value (.bool false)) w := by
  obtain ⟨i0, hi, hz0, hz1, hz2⟩ := info_parts infoEnt
  rw [run_callFunc_extern Tryz.func191 (by kernel_rfl) (by kernel_rfl) (by kernel_rfl) (e := Extern.SlicesOverlaps.overlaps #[115, 115] #[4]) (by kernel_rfl),
    Lib.run_overlaps_apart w 115 4 118 Tryz.underlying115 4 (fun w => by simp [sizeOf, typeInfo, hi, hz1]) ⟨vb, 0, none⟩ ⟨g, off, none⟩ 1 1 lb cb hne 118 118 _ _ (shape_of hv) (shape_of hg) h0 (hv.frozen 0) (hv.frozen _)]
  rfl
set_option maxRecDepth 100000 in
set_option maxHeartbeats 4000000 in
theorem insert_shift (lo g n cap i vb : Nat) (xs ys : List Value) (w : World) (hrow : w.ownsRow lo 118 4 (sl g n cap) n xs) (hone : ∀ u ∈ xs, u.oneCell' = true) (hi : i < n) (hn : n ≤ 1000000) (hroom : n + 1 ≤ cap) (hy : ys.length = 4) (hvb : Cells w vb 118 ys.toArray) (hne : vb ≠ g) (hy1 : ∀ u ∈ ys, u.oneCell' = true) :
    Calls Tryz.prog 172 #[sl g n cap, .int .i64 (i : Nat), sl vb 1 1] w fun e w' => InsR lo (sl g n cap) n i xs ys w e w' := by
  obtain ⟨i0, hi0, hz0, hz1, hz2⟩ := info_parts infoEnt
  have hlen := hrow.1
  obtain ⟨cur, hlo, hg, hle, hcm, hcs, htk⟩ : ∃ cur, lo ≤ g ∧ Cells w g 118 cur ∧ n ≤ cap ∧ cap ≤ maxLen ∧ cur.size = cap * 4 ∧ cur.toList.take (n * 4) = xs := by
    rcases hrow.2 with ⟨q, _⟩ | ⟨g', cap', cur, q, a, b, c, d, e, f⟩
    · cases q
    · cases q; exact ⟨cur, a, b, c, d, e, f⟩
  have hat : ∀ j, j < n * 4 → xs[j]? = cur[j]? := fun j hj => by rw [← htk, List.getElem?_take, if_pos hj]; simp
  have hu : Tryz.prog.underlying 115 = some (.slice 118) := Tryz.underlying115
  -- what is moved to the right
  obtain ⟨news, hnews⟩ : ∃ news, news = xs.drop (i * 4) := ⟨_, rfl⟩
  have hnl : news.length = (n - i) * 4 := by rw [hnews, List.length_drop, hlen]; omega
  have hn1 : ∀ u ∈ news, u.oneCell' = true := fun u hu => hone u (by rw [hnews] at hu; exact List.mem_of_mem_drop hu)
  have hnat : ∀ j u, news[j]? = some u → cur[i * 4 + j]? = some u := fun j u hj => by
    have hjl := (List.getElem?_eq_some_iff.1 hj).1
    rw [hnews, List.getElem?_drop] at hj
    rw [← hat _ (by omega)]; exact hj
  have hcp1 : Hid (∀ ty dc sc, (Builtin.copy_ #[115, 115] ty #[.slice (some ⟨g, (i + 1) * 4, none⟩) (n - i) dc, .slice (some ⟨g, i * 4, none⟩) (n + 1 - i) sc]).run Tryz.prog w.drew =   .ok (goInt ((n - i : Nat) : Int)) (w.drew.setCells g ((i + 1) * 4) news)) := fun ty dc sc =>
    run_copy_cellsN w.drew _ _ ty 118 i0 g ((i + 1) * 4) (n - i) dc ⟨g, i * 4, none⟩ (n + 1 - i) sc (n - i) news hu hi0 (by show min (n + 1 - i) (n - i) = n - i; omega) (by rw [hz1, hnl])
      (fun j u hj => by rw [Addr.add_lit]; exact (hg.cell _).trans (hnat j u hj))
      (fun j hj => by show (w.cell? _).isSome = true; rw [hg.cell, Array.getElem?_eq_getElem (by omega)]; rfl) (fun j hj => hg.frozen _) hn1
  obtain ⟨W1, hW1⟩ : ∃ W1, W1 = w.drew.setCells g ((i + 1) * 4) news := ⟨_, rfl⟩
  have C1 : Cells W1 g 118 (layV cur ((i + 1) * 4) news) := by rw [hW1]; exact Cells.lay news _ (show Cells w.drew g _ cur from hg)
  have hsz1 : (layV cur ((i + 1) * 4) news).size = cap * 4 := by rw [layV_size, hcs]
  have O1 : Only (· = g) w W1 := by rw [hW1]; exact only_lay (S := (· = g)) (b := g) (.inl rfl) _ _ (Only.refl _ w).drew
  have V1 : Cells W1 vb 118 ys.toArray := hvb.only O1 hne
  have hcp2 : Hid (∀ ty dc, (Builtin.copy_ #[115, 115] ty #[.slice (some ⟨g, i * 4, none⟩) (n + 1 - i) dc, .slice (some ⟨vb, 0, none⟩) 1 1]).run Tryz.prog W1 = .ok (goInt 1) (W1.setCells g (i * 4) ys)) := fun ty dc =>
    run_copy_cellsN W1 _ _ ty 118 i0 g (i * 4) (n + 1 - i) dc ⟨vb, 0, none⟩ 1 1 1 ys hu hi0 (by show min 1 (n + 1 - i) = 1; omega) (by rw [hz1, hy])
      (fun j u hj => by
        have ea : (⟨vb, 0, none⟩ : Addr).add j = ⟨vb, j, none⟩ := by unfold Addr.add; split <;> simp_all
        rw [ea, V1.cell j]; simpa using hj)
      (fun j hj => by rw [C1.cell, Array.getElem?_eq_getElem (by omega)]; rfl) (fun j hj => C1.frozen _) hy1
  have OV := Lib.hid (fun lb cb off => overlaps_no w vb g off lb cb cur ys.toArray hne hvb hg (by omega))
  rw [← hW1] at hcp1
  have HL := Lib.hid hlen
  have HNW := Lib.hid hnews
  have HAT := Lib.hid hat
  have HNL := Lib.hid hnl
  have HC1 := Lib.hid C1
  have HO1 := Lib.hid O1
  have HCS := Lib.hid hcs
  have HSZ := Lib.hid hsz1
  clear hnat hn1 hnl hnews hat htk hg C1 hrow hone hW1 hlen V1 hvb hcs hsz1 O1
  unfold sl
  unfold maxLen at hcm
  have hz2 : ¬ ((i : Int) = (n : Int)) := by omega
  have hw1 : IntKind.i64.wrap ((i : Int) + 1) = (i : Int) + 1 := IntWalk.i64_in _ (by omega)
  have hb1 : (0 : Int) ≤ (i : Int) + 1 := by omega
  have hin : i ≤ n := by omega
  have htn : ((i : Int) + 1).toNat = i + 1 := by omega
  have hb2 : ¬ (cap = i + 1) := by omega
  have hb3 : (i : Int) ≤ (n : Int) + 1 := by omega
  have hb4 : ¬ (cap = i) := by omega
  have hov := OV.out
  go_enter Tryz.func172, Tryz.ntmps172
  go_wp2_with (simp only [hov])
  go_region_law (refine step_copy_runI rfl (.tmp 73) (.tmp 76) 115 115 rfl (.slice (some ⟨g, (i + 1) * 4, none⟩) (n - i) (cap - (i + 1))) (.slice (some ⟨g, i * 4, none⟩) (n + 1 - i) (cap - i)) (by simp [Act.eval, Act.put]) (by simp [Act.eval, Act.put]) (hcp1.out _ _ _) ?_)
  have hq := fun ty => hcp2.out ty (cap - i)
  go_wp2_with fail
  go_ret
  obtain ⟨W2, hW2⟩ : ∃ W2, W2 = W1.setCells g (i * 4) ys := ⟨_, rfl⟩
  have C2 : Cells W2 g 118 (layV (layV cur ((i + 1) * 4) news) (i * 4) ys) := by rw [hW2]; exact Cells.lay _ _ HC1.out
  refine ⟨.slice (some ⟨g, 0, none⟩) (n + 1) cap, rfl, ?_, ?_, .inl rfl⟩
  · rw [← hW2]
    have hll : (xs.take (i * 4) ++ (ys ++ xs.drop (i * 4))).length = (n + 1) * 4 := by rw [List.length_append, List.length_append, List.length_take, List.length_drop, HL.out, hy]; omega
    refine ⟨hll, .inr ⟨g, cap, _, rfl, hlo, C2, hroom, by unfold maxLen; omega, by rw [layV_size, HSZ.out], ?_⟩⟩
    apply List.ext_getElem?
    intro j
    rw [List.getElem?_take]
    split
    · rename_i hj
      rw [Array.getElem?_toList, layV_at _ _ _ _ (by rw [HSZ.out, hy]; omega), hy]
      split
      · rename_i h2
        rw [List.getElem?_append_right (by rw [List.length_take, HL.out]; omega), List.length_take, HL.out, List.getElem?_append_left (by omega)]
        congr 1; omega
      · rename_i h2
        rw [layV_at _ _ _ _ (by rw [HNL.out, HCS.out]; omega), HNL.out]
        split
        · rename_i h3
          rw [List.getElem?_append_right (by rw [List.length_take, HL.out]; omega), List.length_take, HL.out, List.getElem?_append_right (by omega), hy, HNW.out, List.getElem?_drop, List.getElem?_drop]
          congr 1; omega
        · rename_i h3
          rw [List.getElem?_append_left (by rw [List.length_take, HL.out]; omega), List.getElem?_take, if_pos (by omega), HAT.out j (by omega)]
    · rename_i hj
      rw [List.getElem?_eq_none (by omega)]
  · refine (only_lay (S := (· = g)) (b := g) (.inl rfl) _ _ HO1.out).mono (fun r _ e => ?_)
    rw [e]; rfl
theorem setCells_heap (b : Nat) : ∀ (vs : List Value) (o : Nat) (W W' : World), W.heap = W'.heap → (W.setCells b o vs).heap = (W'.setCells b o vs).heap
  | [], _, _, _, h => h
  | v :: r, o, W, W', h => setCells_heap b r (o + 1) (W.setCell ⟨b, o, none⟩ v) (W'.setCell ⟨b, o, none⟩ v) (by unfold World.setCell; simp only [h])
theorem os_cells (b : Nat) : ∀ (vs : List Value) (o : Nat) (W : World), (W.setCells b o vs).os = W.os
  | [], _, _ => rfl
  | v :: r, o, W => (os_cells b r (o + 1) (W.setCell ⟨b, o, none⟩ v)).trans rfl
theorem tape_cells (b : Nat) : ∀ (vs : List Value) (o : Nat) (W : World), (W.setCells b o vs).tape = W.tape
  | [], _, _ => rfl
  | v :: r, o, W => (tape_cells b r (o + 1) (W.setCell ⟨b, o, none⟩ v)).trans rfl
theorem output_cells (b : Nat) : ∀ (vs : List Value) (o : Nat) (W : World), (W.setCells b o vs).output = W.output
  | [], _, _ => rfl
  | v :: r, o, W => (output_cells b r (o + 1) (W.setCell ⟨b, o, none⟩ v)).trans rfl
theorem zeroCells_size (Z : Array Value) (k : Nat) : (Builtin.zeroCells Z k).size = k * Z.size := by simp [Builtin.zeroCells]
set_option maxRecDepth 100000 in
set_option maxHeartbeats 4000000 in
theorem insert_grow (lo g n cap i vb : Nat) (xs ys : List Value) (w : World) (hrow : w.ownsRow lo 118 4 (sl g n cap) n xs) (hone : ∀ u ∈ xs, u.oneCell' = true) (hi : i < n) (hn : n ≤ 1000000) (hroom : cap < n + 1) (hlow : lo ≤ w.heap.size) (hy : ys.length = 4) (hvb : Cells w vb 118 ys.toArray) (hy1 : ∀ u ∈ ys, u.oneCell' = true) :
    Calls Tryz.prog 172 #[sl g n cap, .int .i64 (i : Nat), sl vb 1 1] w fun e w' => InsR lo (sl g n cap) n i xs ys w e w' := by
  obtain ⟨i0, hi0, hz0, hz1, hz2⟩ := info_parts infoEnt
  have hlen := hrow.1
  obtain ⟨cur, hlo, hg, hle, hcm, hcs, htk⟩ : ∃ cur, lo ≤ g ∧ Cells w g 118 cur ∧ n ≤ cap ∧ cap ≤ maxLen ∧ cur.size = cap * 4 ∧ cur.toList.take (n * 4) = xs := by
    rcases hrow.2 with ⟨q, _⟩ | ⟨g', cap', cur, q, a, b, c, d, e, f⟩
    · cases q
    · cases q; exact ⟨cur, a, b, c, d, e, f⟩
  obtain rfl : cap = n := by omega
  have hat : ∀ j, j < cap * 4 → xs[j]? = cur[j]? := fun j hj => by rw [← htk, List.getElem?_take, if_pos hj]; simp
  have hu : Tryz.prog.underlying 115 = some (.slice 118) := Tryz.underlying115
  have hgw := hg.lt
  have hvw := hvb.lt
  obtain ⟨Z, hZ⟩ : ∃ Z : Array Value, Z = (Value.agg #[.int .i64 0, .string ⟨#[]⟩, .slice none 0 0, .int .i64 0]).cells := ⟨_, rfl⟩
  have hZs : Z.size = 4 := by rw [hZ]; rfl
  obtain ⟨G, hG⟩ : ∃ G, G = grownCap w (cap + 1) cap 118 := ⟨_, rfl⟩
  obtain ⟨ROW, hROW⟩ : ∃ ROW : Array Value, ROW = (xs.take (i * 4)).toArray ++ Builtin.zeroCells Z (cap + 1 - i) ++ Builtin.zeroCells Z (G - (cap + 1)) := ⟨_, rfl⟩
  have hGn : cap + 1 ≤ G := by rw [hG]; exact grownCap_ge w _ _ _
  have hG63 : G ≤ 9223372036854775807 := by
    have := grownCap_le_maxLen w (cap + 1) cap 118 (by unfold maxLen; omega)
    rw [← hG] at this
    unfold maxLen at this
    omega
  have hrz : Hid (∀ ty, (Builtin.append_ #[115, 3] ty #[.slice (some ⟨g, 0, none⟩) i cap, .int .i64 ((cap : Int) + 1 - (i : Int))]).run Tryz.prog w = .ok (.slice (some ⟨w.heap.size, 0, none⟩) (cap + 1) G) (w.drew.alloc (.cells ROW 118))) := fun ty => by
    have hold : (Builtin.firstCells i0.size i (.slice (some ⟨g, 0, none⟩) i cap)).run Tryz.prog w.drew = .ok (xs.take (i * 4)).toArray w.drew :=
      run_firstCells_some w.drew i0.size i ⟨g, 0, none⟩ i cap (xs.take (i * 4)) (by rw [List.length_take, hlen, hz1]; omega) (fun j v hj => by
        have ea : (⟨g, 0, none⟩ : Addr).add j = ⟨g, j, none⟩ := by unfold Addr.add; split <;> simp_all
        rw [List.getElem?_take] at hj
        split at hj
        · rename_i h2
          rw [ea]
          show w.cell? _ = _
          rw [hg.cell, ← hat j (by omega)]; exact hj
        · cases hj)
    have h := Lib.run_append_grow_zeros w 115 3 ty 118 i0 _ .i64 .i64 hu Tryz.underlying3 hi0 hz0 (some ⟨g, 0, none⟩) i cap (xs.take (i * 4)) hold (cap + 1 - i) (by omega) (by omega) (by omega) (by omega) (by rw [hz2]; omega) (by rw [hz2, show i + (cap + 1 - i) = cap + 1 by omega]; exact growslice_fits (by omega) (by omega))
    rw [show i + (cap + 1 - i) = cap + 1 by omega, ← hG, ← hZ, ← hROW] at h
    rw [show (cap : Int) + 1 - (i : Int) = ((cap + 1 - i : Nat) : Int) by omega]
    exact h
  have hRs : ROW.size = G * 4 := by
    rw [hROW, Array.size_append, Array.size_append, zeroCells_size, zeroCells_size, hZs, List.size_toArray, List.length_take, hlen]
    omega
  have hRat : ∀ j, j < i * 4 → ROW[j]? = xs[j]? := fun j hj => by
    rw [hROW, Array.append_assoc, Array.getElem?_append_left (by rw [List.size_toArray, List.length_take, hlen]; omega), List.getElem?_toArray, List.getElem?_take, if_pos hj]
  obtain ⟨news, hnews⟩ : ∃ news, news = xs.drop (i * 4) := ⟨_, rfl⟩
  have hnl : news.length = (cap - i) * 4 := by rw [hnews, List.length_drop, hlen]; omega
  have hn1 : ∀ u ∈ news, u.oneCell' = true := fun u hu => hone u (by rw [hnews] at hu; exact List.mem_of_mem_drop hu)
  have hnat : ∀ j u, news[j]? = some u → cur[i * 4 + j]? = some u := fun j u hj => by
    have hjl := (List.getElem?_eq_some_iff.1 hj).1
    rw [hnews, List.getElem?_drop] at hj
    rw [← hat _ (by omega)]; exact hj
  obtain ⟨W1, hW1⟩ : ∃ W1, W1 = w.drew.alloc (.cells ROW 118) := ⟨_, rfl⟩
  have C1 : Cells W1 w.heap.size 118 ROW := by rw [hW1]; exact Cells.new w.drew _ _
  have G1 : Cells W1 g 118 cur := by rw [hW1]; exact (show Cells w.drew g _ cur from hg).alloc _
  have V1 : Cells W1 vb 118 ys.toArray := by rw [hW1]; exact (show Cells w.drew vb _ _ from hvb).alloc _
  have hgN : g ≠ w.heap.size := by omega
  have hcpA : Hid (∀ (W : World), W.heap = W1.heap → ∀ ty dc, (Builtin.copy_ #[115, 115] ty #[.slice (some ⟨w.heap.size, i * 4, none⟩) (cap + 1 - i) dc, .slice (some ⟨vb, 0, none⟩) 1 1]).run Tryz.prog W = .ok (goInt 1) (W.setCells w.heap.size (i * 4) ys)) := fun W hW ty dc =>
    have CW : Cells W w.heap.size 118 ROW := by show W.heap[_]? = _; rw [hW]; exact C1
    have VW : Cells W vb 118 ys.toArray := by show W.heap[_]? = _; rw [hW]; exact V1
    run_copy_cellsN W _ _ ty 118 i0 w.heap.size (i * 4) (cap + 1 - i) dc ⟨vb, 0, none⟩ 1 1 1 ys hu hi0 (by show min 1 (cap + 1 - i) = 1; omega) (by rw [hz1, hy])
      (fun j u hj => by
        have ea : (⟨vb, 0, none⟩ : Addr).add j = ⟨vb, j, none⟩ := by unfold Addr.add; split <;> simp_all
        rw [ea, VW.cell j]; simpa using hj)
      (fun j hj => by rw [CW.cell, Array.getElem?_eq_getElem (by omega)]; rfl) (fun j hj => CW.frozen _) hy1
  obtain ⟨W2, hW2⟩ : ∃ W2, W2 = W1.setCells w.heap.size (i * 4) ys := ⟨_, rfl⟩
  have C2 : Cells W2 w.heap.size 118 (layV ROW (i * 4) ys) := by rw [hW2]; exact Cells.lay ys _ C1
  have O2 : Only (· = w.heap.size) W1 W2 := by rw [hW2]; exact only_lay (S := (· = w.heap.size)) (b := w.heap.size) (.inl rfl) _ _ (Only.refl _ _)
  have G2 : Cells W2 g 118 cur := G1.only O2 hgN
  have hs2 : (layV ROW (i * 4) ys).size = G * 4 := by rw [layV_size, hRs]
  have hcpB : Hid (∀ (W : World), W.heap = W2.heap → ∀ ty dc sc, (Builtin.copy_ #[115, 115] ty #[.slice (some ⟨w.heap.size, (i + 1) * 4, none⟩) (cap - i) dc, .slice (some ⟨g, i * 4, none⟩) (cap - i) sc]).run Tryz.prog W = .ok (goInt ((cap - i : Nat) : Int)) (W.setCells w.heap.size ((i + 1) * 4) news)) := fun W hW ty dc sc =>
    have CW : Cells W w.heap.size 118 (layV ROW (i * 4) ys) := by show W.heap[_]? = _; rw [hW]; exact C2
    have GW : Cells W g 118 cur := by show W.heap[_]? = _; rw [hW]; exact G2
    run_copy_cellsN W _ _ ty 118 i0 w.heap.size ((i + 1) * 4) (cap - i) dc ⟨g, i * 4, none⟩ (cap - i) sc (cap - i) news hu hi0 (by show min (cap - i) (cap - i) = cap - i; omega) (by rw [hz1, hnl])
      (fun j u hj => by rw [Addr.add_lit]; exact (GW.cell _).trans (hnat j u hj))
      (fun j hj => by rw [CW.cell, Array.getElem?_eq_getElem (by omega)]; rfl) (fun j hj => CW.frozen _) hn1
  have FIN : Hid (∀ (W' : World), W'.os = w.os → W'.tape = w.tape → W'.output = w.output → W'.heap = (W2.setCells w.heap.size ((i + 1) * 4) news).heap → InsR lo (sl g cap cap) cap i xs ys w (.returned (.slice (some ⟨w.heap.size, 0, none⟩) (cap + 1) G)) W') := by
    intro W' e1 e2 e3 e4
    have C3 : Cells W' w.heap.size 118 (layV (layV ROW (i * 4) ys) ((i + 1) * 4) news) := by show W'.heap[_]? = _; rw [e4]; exact Cells.lay news _ C2
    have O3 : Only (· = w.heap.size) W1 (W2.setCells w.heap.size ((i + 1) * 4) news) := only_lay (S := (· = w.heap.size)) (b := w.heap.size) (.inl rfl) _ _ O2
    refine ⟨_, rfl, ?_, ⟨e1, e2, e3, ?_, ?_⟩, .inr rfl⟩
    · have hll : (xs.take (i * 4) ++ (ys ++ xs.drop (i * 4))).length = (cap + 1) * 4 := by rw [List.length_append, List.length_append, List.length_take, List.length_drop, hlen, hy]; omega
      refine ⟨hll, .inr ⟨w.heap.size, G, _, rfl, hlow, C3, hGn, by unfold maxLen; omega, by rw [layV_size, hs2], ?_⟩⟩
      apply List.ext_getElem?
      intro j
      rw [List.getElem?_take]
      split
      · rename_i hj
        rw [Array.getElem?_toList, layV_at _ _ _ _ (by rw [hs2, hnl]; omega), hnl]
        split
        · rename_i h2
          rw [List.getElem?_append_right (by rw [List.length_take, hlen]; omega), List.length_take, hlen, List.getElem?_append_right (by omega), hy, hnews, List.getElem?_drop, List.getElem?_drop]
          congr 1; omega
        · rename_i h2
          rw [layV_at _ _ _ _ (by rw [hRs, hy]; omega), hy]
          split
          · rename_i h3
            rw [List.getElem?_append_right (by rw [List.length_take, hlen]; omega), List.length_take, hlen, List.getElem?_append_left (by omega)]
            congr 1; omega
          · rename_i h3
            rw [List.getElem?_append_left (by rw [List.length_take, hlen]; omega), List.getElem?_take, if_pos (by omega), hRat j (by omega)]
      · rename_i hj
        rw [List.getElem?_eq_none (by omega)]
    · have := O3.size
      rw [e4]
      have h1 : W1.heap.size = w.heap.size + 1 := by rw [hW1]; show (w.drew.alloc _).heap.size = _; rw [World.size_alloc]; rfl
      omega
    · intro r hr _
      have h1 : W1.heap.size = w.heap.size + 1 := by rw [hW1]; show (w.drew.alloc _).heap.size = _; rw [World.size_alloc]; rfl
      rw [e4, O3.same r (by omega) (by omega), hW1]
      exact Below.heap_alloc w.drew _ r hr
  have HW1 := Lib.hid hW1
  have HW2 := Lib.hid hW2
  clear hnat hn1 hnl hnews hat htk hg C1 hrow hone hW1 hlen V1 hvb hcs G1 C2 O2 G2 hs2 hRs hRat hROW hZ hZs hG hW2
  unfold sl
  unfold maxLen at hcm
  have hz2 : ¬ ((i : Int) = (cap : Int)) := by omega
  have hw1 : IntKind.i64.wrap ((i : Int) + 1) = (i : Int) + 1 := IntWalk.i64_in _ (by omega)
  have hb1 : (0 : Int) ≤ (i : Int) + 1 := by omega
  have hin : i ≤ cap := by omega
  have htn : ((i : Int) + 1).toNat = i + 1 := by omega
  have hb3 : (i : Int) ≤ (cap : Int) := by omega
  have hGi : ¬ (G = i) := by omega
  have hGim : ¬ (G = i + 1) := by omega
  have hci : ¬ (cap = i) := by omega
  go_enter Tryz.func172, Tryz.ntmps172
  have hA1 : ((w.alloc (.cells ROW 118)).drew).heap = W1.heap := by rw [HW1.out]; rfl
  have hqA := fun ty => hcpA.out _ hA1 ty (G - i)
  have hB1 : (((w.alloc (.cells ROW 118)).drew.setCells w.heap.size (i * 4) ys).drew).heap = W2.heap := by
    rw [HW2.out]
    exact setCells_heap _ _ _ _ _ hA1
  go_wp2_with (at_builtin; refine Lib.wpList_append_run _ rfl _ _ _ _ rfl _ _ rfl rfl _ _ (hrz.out _) ?_)
  go_region_law (refine step_copy_runI rfl (.tmp 50) (.tmp 53) 115 115 rfl (.slice (some ⟨w.heap.size, (i + 1) * 4, none⟩) (cap - i) (G - (i + 1))) (.slice (some ⟨g, i * 4, none⟩) (cap - i) (cap - i)) (by simp [Act.eval, Act.put]) (by simp [Act.eval, Act.put]) (hcpB.out _ hB1 3 _ _) ?_)
  go_wp2_with fail
  go_ret
  exact FIN.out _ (by rw [os_cells]; show (((w.alloc (.cells ROW 118)).drew.setCells w.heap.size (i * 4) ys)).os = _; rw [os_cells]; rfl) (by rw [tape_cells]; show (((w.alloc (.cells ROW 118)).drew.setCells w.heap.size (i * 4) ys)).tape = _; rw [tape_cells]; rfl) (by rw [output_cells]; show (((w.alloc (.cells ROW 118)).drew.setCells w.heap.size (i * 4) ys)).output = _; rw [output_cells]; rfl) (setCells_heap _ _ _ _ _ hB1)
/-- Insert of one entry, whatever the row. -/
theorem insert7_any (lo : Nat) (v : Value) (n i vb : Nat) (xs ys : List Value) (w : World) (hrow : w.ownsRow lo 118 4 v n xs) (hone : ∀ u ∈ xs, u.oneCell' = true) (hi : i ≤ n) (hn : n ≤ 1000000) (hlow : lo ≤ w.heap.size) (hy : ys.length = 4) (hvb : Cells w vb 118 ys.toArray) (hne : v.ownBlock ≠ some vb) (hy1 : ∀ u ∈ ys, u.oneCell' = true) :
    Calls Tryz.prog 172 #[v, .int .i64 (i : Nat), sl vb 1 1] w fun e w' => InsR lo v n i xs ys w e w' := by
  rcases Nat.lt_or_ge i n with h | h
  · obtain ⟨g, cap, rfl⟩ := Joins.ownsRow_form hrow (by omega)
    rcases Nat.lt_or_ge cap (n + 1) with h2 | h2
    · exact insert_grow lo g n cap i vb xs ys w hrow hone h hn h2 hlow hy hvb hy1
    · exact insert_shift lo g n cap i vb xs ys w hrow hone h hn h2 hy hvb (fun e => hne (by rw [e]; rfl)) hy1
  · obtain rfl : i = n := by omega
    exact insert_end lo v i vb xs ys w hrow hn hlow hy hvb hy1
end Go.Proofs.YtkcklnnmcmjnjaaGreatDoor

namespace Go.Proofs.YtkcklnnmcmjnjaaGreatDoor
open Go.RowKit Go.Shelf
attribute [local go_sem] Oper.semAt_some errV_0

theorem Flds.only {w w' : World} {v : Value} {fs : List Fld} {S : Nat → Prop} (h : Flds w v fs) (g : Only S w w') (hs : fs ≠ [] → ∀ b, v.ownBlock = some b → ¬ S b) : Flds w' v fs := by
  obtain ⟨A, cap, hv, hle, hc⟩ := h
  refine ⟨A, cap, hv, hle, fun i s hi => ?_⟩
  obtain ⟨b, off, hA, hlt, c0, c1⟩ := hc i s hi
  have hb : w'.heap[b]? = w.heap[b]? := g.same b hlt (hs (fun e => by rw [e] at hi; simp at hi) b (by rw [hv, hA]; rfl))
  exact ⟨b, off, hA, Nat.lt_of_lt_of_le hlt g.size, (World.cell?_of_block (w := w) (a := ⟨b, off + i * 2, none⟩) hb).trans c0, (World.cell?_of_block (w := w) (a := ⟨b, off + i * 2 + 1, none⟩) hb).trans c1⟩
theorem FldR.only {w w' : World} {v : Value} {fs : List Fld} {S : Nat → Prop} (h : FldR w v fs) (g : Only S w w') (hs : fs ≠ [] → ∀ b, v.ownBlock = some b → ¬ S b) : FldR w' v fs := ⟨h.1.only g hs, h.2⟩
theorem Flds.lt {w : World} {v : Value} {fs : List Fld} (h : Flds w v fs) (hne : fs ≠ []) : ∀ b, v.ownBlock = some b → b < w.heap.size := by
  obtain ⟨A, cap, hv, hle, hc⟩ := h
  intro b hb
  cases fs with
  | nil => exact absurd rfl hne
  | cons f r =>
    obtain ⟨b', off, hA, hlt, _⟩ := hc 0 f rfl
    rw [hv, hA] at hb
    cases hb; exact hlt
/-- A list in memory that may be written: the fields of its entries lie in neither of its two blocks. -/
structure LA (w : World) (lb : Nat) (ev : Value) (ps : List Pr) (nx : Int) : Prop where
  lr : LR w lb ev ps nx
  apart : ∀ p ∈ ps, p.1.1.fields ≠ [] → ∀ b, p.2.ownBlock = some b → b ≠ lb ∧ ev.ownBlock ≠ some b
theorem LR.row_ne {w : World} {lb : Nat} {ev : Value} {ps : List Pr} {nx : Int} (h : LR w lb ev ps nx) : ev.ownBlock ≠ some lb := by
  intro e
  rcases h.ents.row.2 with ⟨q, _⟩ | ⟨g, cap, cur, q, _, hg, _⟩
  · rw [q] at e; cases e
  · rw [q] at e
    have : g = lb := Option.some.inj e
    subst this
    have := hg.symm.trans h.head
    simp at this
theorem LA.below {w w' : World} {lb : Nat} {ev : Value} {ps : List Pr} {nx : Int} {n : Nat} (h : LA w lb ev ps nx) (hb : Below n w w') (hn : w.heap.size ≤ n) : LA w' lb ev ps nx := ⟨h.lr.below hb hn, h.apart⟩
def numE (it : It) (nx : Int) : Int := if it.kind = 3 then nx else 0
def nextE (it : It) (nx : Int) : Int := if it.kind = 3 then nx + 1 else nx
set_option maxRecDepth 100000 in
theorem ret_ent {fn : Func} {p : Tmp} (h : fn.results = #[.cell p 118]) (tmps : Array Value) (w : World) (b : Nat) (cur : Array Value) (hp : tmps.getD p undef = .pointer (some ⟨b, 0, none⟩))
    (hc : Cells w b 118 cur) (hz : cur.size = 4) : (results fn tmps).run Tryz.prog w = .ok (.agg cur) w := by
  have L := run_loadVar_row (P := Tryz.prog) w b 118 118 cur (0, 0) _ hc Tryz.underlying118 rfl (by rw [hz]; kernel_rfl)
  rw [results_cell1 h, hp]
  show (loadVar _ _).run _ _ = _
  exact L
theorem set4 (c0 c1 c2 c3 v0 v1 v2 v3 : Value) : ((((#[c0, c1, c2, c3].setIfInBounds 0 v0).setIfInBounds 1 v1).setIfInBounds 2 v2).setIfInBounds 3 v3) = #[v0, v1, v2, v3] := by
  simp [List.setIfInBounds_toArray, List.set]
set_option maxRecDepth 100000 in
set_option maxHeartbeats 1000000 in
theorem enter7_any (it : It) (fa : Option Addr) (fn fc lb : Nat) (ev : Value) (nx : Int) (w : World) (hc : Cells w lb 153 #[ev, .int .i64 (nx - 1)]) (hn : -1000000 ≤ nx ∧ nx ≤ 1000000) :
    Calls Tryz.prog 86 #[ptr lb, .agg #[.int .i64 it.kind, .string (B it.raw), .slice fa fn fc]] w fun e w' => e = .returned (.agg #[.int .i64 it.kind, .string (B it.raw), .slice fa fn fc, .int .i64 (numE it nx)]) ∧ Cells w' lb 153 #[ev, .int .i64 (nextE it nx - 1)] ∧ Only (· = lb) w w' := by
  obtain ⟨kd, raw, fs⟩ := it
  unfold numE nextE
  dsimp only
  generalize B raw = rw_ at *
  have hll := hc.lt
  have BX := Lib.hid ((Cells.new w 105 #[.int .i64 kd, .string rw_, .slice fa fn fc]).alloc (.cells #[.int .i64 0, .string ⟨#[]⟩, .slice none 0 0, .int .i64 0] 118))
  have BR := Lib.hid (Cells.new (w.alloc (.cells #[.int .i64 kd, .string rw_, .slice fa fn fc] 105)) 118 #[.int .i64 0, .string ⟨#[]⟩, .slice none 0 0, .int .i64 0])
  have HC := Lib.hid ((hc.alloc (.cells #[.int .i64 kd, .string rw_, .slice fa fn fc] 105)).alloc (.cells #[.int .i64 0, .string ⟨#[]⟩, .slice none 0 0, .int .i64 0] 118))
  have O0 := Lib.hid ((((Only.refl (· = lb) w).alloc (.cells #[.int .i64 kd, .string rw_, .slice fa fn fc] 105))).alloc (.cells #[.int .i64 0, .string ⟨#[]⟩, .slice none 0 0, .int .i64 0] 118))
  by_cases hk : kd = 3
  · subst hk
    rw [if_pos rfl, if_pos rfl]
    have c1 : w.cell? ⟨lb, 1, none⟩ = some (.int .i64 (nx - 1)) := hc.cell 1
    have f1 := hc.frozen 1
    have hw : IntKind.i64.wrap (nx - 1 + 1) = nx := by rw [show nx - 1 + 1 = nx by omega]; exact IntWalk.i64_in _ (by omega)
    have hw2 : nx - 1 + 1 = nx := by omega
    have HC0 := Lib.hid hc
    clear hc
    unfold ptr
    go_enter Tryz.func86, Tryz.ntmps86
    go_wp2_with fail
    obtain ⟨w2, hw2⟩ : ∃ w2, w2 = ((w.setCell ⟨lb, 1, none⟩ (.int .i64 nx)).alloc (.cells #[.int .i64 3, .string rw_, .slice fa fn fc] 105)).alloc (.cells #[.int .i64 0, .string ⟨#[]⟩, .slice none 0 0, .int .i64 0] 118) := ⟨_, rfl⟩
    have CL : Cells w2 lb 153 #[ev, .int .i64 nx] := by
      have := (((HC0.out.set 1 (.int .i64 nx)).alloc (.cells #[.int .i64 3, .string rw_, .slice fa fn fc] 105)).alloc (.cells #[.int .i64 0, .string ⟨#[]⟩, .slice none 0 0, .int .i64 0] 118))
      rw [hw2]
      simpa [List.setIfInBounds_toArray, List.set] using this
    have CI : Cells w2 w.heap.size 105 #[.int .i64 3, .string rw_, .slice fa fn fc] := by
      have := (Cells.new (w.setCell ⟨lb, 1, none⟩ (.int .i64 nx)) 105 #[.int .i64 3, .string rw_, .slice fa fn fc]).alloc (.cells #[.int .i64 0, .string ⟨#[]⟩, .slice none 0 0, .int .i64 0] 118)
      rw [hw2]
      simpa [World.setCell] using this
    have CR : Cells w2 (w.heap.size + 1) 118 #[.int .i64 0, .string ⟨#[]⟩, .slice none 0 0, .int .i64 0] := by
      have := Cells.new ((w.setCell ⟨lb, 1, none⟩ (.int .i64 nx)).alloc (.cells #[.int .i64 3, .string rw_, .slice fa fn fc] 105)) 118 #[.int .i64 0, .string ⟨#[]⟩, .slice none 0 0, .int .i64 0]
      rw [hw2]
      rw [World.size_alloc] at this
      simpa [World.setCell] using this
    have O2 : Only (· = lb) w w2 := by rw [hw2]; exact (((Only.refl (· = lb) w).cellS 1 _).alloc _).alloc _
    rw [← hw2]
    clear hw2 c1 f1
    have g1 : w2.cell? ⟨lb, 1, none⟩ = some (.int .i64 nx) := CL.cell 1
    have i0 : w2.cell? ⟨w.heap.size, 0, none⟩ = some (.int .i64 3) := CI.cell 0
    have i1 : w2.cell? ⟨w.heap.size, 1, none⟩ = some (.string rw_) := CI.cell 1
    have i2 : w2.cell? ⟨w.heap.size, 2, none⟩ = some (.slice fa fn fc) := CI.cell 2
    have r0 : w2.cell? ⟨w.heap.size + 1, 0, none⟩ = some (.int .i64 0) := CR.cell 0
    have r1 : w2.cell? ⟨w.heap.size + 1, 1, none⟩ = some (.string ⟨#[]⟩) := CR.cell 1
    have r2 : w2.cell? ⟨w.heap.size + 1, 2, none⟩ = some (.slice none 0 0) := CR.cell 2
    have r3 : w2.cell? ⟨w.heap.size + 1, 3, none⟩ = some (.int .i64 0) := CR.cell 3
    have s0 := CR.frozen 0
    have s1 := CR.frozen 1
    have s2 := CR.frozen 2
    have s3 := CR.frozen 3
    have HCL := Lib.hid CL
    have HCR := Lib.hid CR
    have HO2 := Lib.hid O2
    clear CL CI CR O2
    go_region_law (skip)
    all_goals go_wp2_with fail
    all_goals
      have RE := (((HCR.out.drew.set 0 (.int .i64 3)).set 1 (.string rw_)).set 2 (.slice fa fn fc)).set 3 (.int .i64 nx)
      rw [set4] at RE
      refine bodyPost_ret (ret_ent rfl _ _ (w.heap.size + 1) _ rfl RE rfl) rfl ?_
      refine ⟨rfl, ?_, ?_⟩
      · have := ((((HCL.out.drew.other (p := ⟨w.heap.size + 1, 0, none⟩) (by show lb ≠ w.heap.size + 1; omega) (.int .i64 3)).other (p := ⟨w.heap.size + 1, 1, none⟩) (by show lb ≠ w.heap.size + 1; omega) (.string rw_)).other (p := ⟨w.heap.size + 1, 2, none⟩) (by show lb ≠ w.heap.size + 1; omega) (.slice fa fn fc)).other (p := ⟨w.heap.size + 1, 3, none⟩) (by show lb ≠ w.heap.size + 1; omega) (.int .i64 nx))
        rw [show nx + 1 - 1 = nx by omega]
        exact this
      · exact ((((HO2.out.drew.setCell (p := ⟨w.heap.size + 1, 0, none⟩) (.inr (by show w.heap.size ≤ w.heap.size + 1; omega)) _).setCell (p := ⟨w.heap.size + 1, 1, none⟩) (.inr (by show w.heap.size ≤ w.heap.size + 1; omega)) _).setCell (p := ⟨w.heap.size + 1, 2, none⟩) (.inr (by show w.heap.size ≤ w.heap.size + 1; omega)) _).setCell (p := ⟨w.heap.size + 1, 3, none⟩) (.inr (by show w.heap.size ≤ w.heap.size + 1; omega)) _)
  · rw [if_neg hk, if_neg hk]
    have hk' : ((kd : Int) == 3) = false := beq_eq_false_iff_ne.2 hk
    have HC0 := Lib.hid hc
    clear hc
    unfold ptr
    go_enter Tryz.func86, Tryz.ntmps86
    go_wp2_with fail
    have RE := Cells.new (w.alloc (.cells #[.int .i64 kd, .string rw_, .slice fa fn fc] 105)) 118 #[.int .i64 kd, .string rw_, .slice fa fn fc, .int .i64 0]
    rw [World.size_alloc] at RE
    refine bodyPost_ret (ret_ent rfl _ _ (w.heap.size + 1) _ rfl RE rfl) rfl ?_
    exact ⟨rfl, (HC0.out.alloc _).alloc _, ((Only.refl (· = lb) w).alloc _).alloc _⟩
end Go.Proofs.YtkcklnnmcmjnjaaGreatDoor

namespace Go.Proofs.YtkcklnnmcmjnjaaGreatDoor
open Go.RowKit Go.Shelf

theorem parseNo {w w' : World} {t : List UInt8} {e : Ending} {a n : Nat} (h : Parsed w t e w') (hp : parseL t = .error (a, n)) : Below w.heap.size w w' ∧ ∃ v, e = .returned (.tuple #[.slice none 0 0, v]) ∧ FaultAt w.heap.size w' v a n := by
  obtain ⟨h1, h2⟩ := h
  rw [hp] at h2
  exact ⟨h1, h2⟩
theorem parseYes {w w' : World} {t : List UInt8} {e : Ending} {its : List It} (h : Parsed w t e w') (hp : parseL t = .ok its) : Below w.heap.size w w' ∧ ∃ v, e = .returned (.tuple #[v, .nilIface]) ∧ Its w' v its ∧ NilI w' v its := by
  obtain ⟨h1, h2⟩ := h
  rw [hp] at h2
  exact ⟨h1, h2⟩
theorem Its.rest {w : World} {b off n cap : Nat} {its : List It} (h : Its w (.slice (some ⟨b, off, none⟩) n cap) its) (k : Nat) (hk : k ≤ its.length) : Its w (.slice (some ⟨b, off + k * 3, none⟩) (its.length - k) (cap - k)) (its.drop k) := by
  obtain ⟨A', cap', e, hle, hc⟩ := h
  cases e
  refine ⟨_, cap - k, by rw [List.length_drop], by rw [List.length_drop]; omega, fun i it hi => ?_⟩
  rw [List.getElem?_drop] at hi
  obtain ⟨b', off', fv, e, h1, h2, h3, h4, h5⟩ := hc _ it hi
  cases e
  refine ⟨b, off + k * 3, fv, rfl, h1, ?_, ?_, ?_, h5⟩
  · rw [show off + k * 3 + i * 3 = off + (k + i) * 3 by omega]; exact h2
  · rw [show off + k * 3 + i * 3 + 1 = off + (k + i) * 3 + 1 by omega]; exact h3
  · rw [show off + k * 3 + i * 3 + 1 + 1 = off + (k + i) * 3 + 1 + 1 by omega]; exact h4
theorem Its.empty (w : World) (A : Option Addr) (cap : Nat) : Its w (.slice A 0 cap) [] := ⟨A, cap, rfl, Nat.zero_le _, fun i it h => by simp at h⟩
theorem ItsIn.here {w : World} {v : Value} {its : List It} (h : ItsIn w v its) {i : Nat} {it : It} (hi : its[i]? = some it) : ∃ b off cap fa fc, v = .slice (some ⟨b, off, none⟩) its.length cap ∧ b < w.heap.size ∧ w.cell? ⟨b, off + i * 3, none⟩ = some (.int .i64 it.kind) ∧ w.cell? ⟨b, off + i * 3 + 1, none⟩ = some (.string (B it.raw)) ∧ w.cell? ⟨b, off + i * 3 + 1 + 1, none⟩ = some (.slice fa it.fields.length fc) ∧ FldsIn w (.slice fa it.fields.length fc) it.fields := by
  obtain ⟨A, cap, rfl, hle, hc⟩ := h.is_
  obtain ⟨b, off, fv, rfl, hlt, c0, c1, c2, hf⟩ := hc i it hi
  obtain ⟨b', off', n, cap', fv', e, c2', hin⟩ := h.each i it hi
  cases e
  have e2 : fv = fv' := Option.some.inj (c2.symm.trans c2')
  subst e2
  obtain ⟨fa, fc, rfl, _, _⟩ := id hf
  exact ⟨b, off, cap, fa, fc, rfl, hlt, c0, c1, c2, hin⟩
end Go.Proofs.YtkcklnnmcmjnjaaGreatDoor

