/- Texts put together: YY. -/
import Derived.Test.YtembondddgfpcaaBvp13
set_option linter.unusedVariables false
namespace Go.Proofs.Ytembondddgfpcaa
open Go.RowKit Go.Maps
attribute [local go_sem] World.cell?_alloc_some

/-- The reference's disk behind k bytes of a Write, without its file; g: its power is gone. -/
def partM (M : RefM) (k : Nat) (g : Bool) : RefM := { M with units := M.units + k, left := (if M.armed then M.left - k else M.left), gone := g }
theorem partM_zero (M : RefM) : partM M 0 M.gone = M := by
  obtain ⟨room, files, sure, waits, units, left, armed, gone, acts⟩ := M
  unfold partM; cases armed <;> simp
theorem RefAt.part {w : World} {M : RefM} {f s m a : Tri} (h : RefAt w M f s m a) (k : Nat) (g : Bool) : RefAt w (partM M k g) f s m a := ⟨h.files, h.sure, h.moves, h.acts⟩
theorem partM_done (M : RefM) (k : Nat) (g : Bool) : doneM (partM M k g) = partM M (k + 1) g := by
  obtain ⟨room, files, sure, waits, units, left, armed, gone, acts⟩ := M
  unfold partM doneM
  cases armed <;> simp <;> omega
theorem partM_can (M : RefM) (k : Nat) (g : Bool) : canM (partM M k g) = !(M.armed && decide (M.left - k = 0)) := by
  unfold canM partM
  cases h : M.armed <;> simp
theorem append_copy {P : Program} {w : World} {ops : Array Oper} {rest : List Oper} {o : Oper} {a : Act} {Q : Exit → Act → World → Prop} (hgd : o.guard = none) (s x : Operand) (t : TypeId)
    (ho : o.op = .call { callee := .builtin .append, args := #[s, x], argTypes := #[t, t] })
    (base : Nat) (e : TypeId) (i : TypeInfo) (z : Value) (size bytes : Nat) (ht : P.underlying t = some (.slice e)) (hi : P.info? e = some i) (hz : i.zero = some z)
    (hsize : i.size = size) (hby : i.bytes = bytes) (hzs : z.cells.size = size) (hsz : 0 < size)
    (v : Value) (hs : a.eval s = v) (hown : w.ownsRow base e size v 0 []) (u : Value) (n : Nat) (xs : List Value) (hx : a.eval x = u) (hrow : w.ownsRow 0 e size u n xs) (h1 : ∀ u ∈ xs, u.oneCell' = true)
    (h63 : n ≤ maxLen) (hbytes : n * bytes ≤ 140737488355328) (hbase : base ≤ w.heap.size)
    (h : ∀ v' w', w'.ownsRow base e size v' n xs → w.grownBy w' v.ownBlock → wpList P ops Q rest (a.put o.dst v') w') : wpList P ops Q (o :: rest) a w := by
  have hlen := hrow.1
  rcases hrow.2 with ⟨q, hn⟩ | ⟨g, cap, cur, q, _⟩
  · subst q
    have hn0 : n = 0 := by first | exact hn | exact hn.symm | omega
    subst hn0
    have hx0 : xs = [] := List.eq_nil_of_length_eq_zero (by rw [hlen]; omega)
    subst hx0
    exact wpList_append_own_none hgd s x t ho base e i size ht hi v 0 [] hs hown hx (h v w hown ⟨rfl, rfl, rfl, Nat.le_refl _, fun _ _ _ => rfl⟩)
  · subst q
    refine wpList_append_own _ hgd s x t ho base e i z size bytes ht hi hz hsize hby hzs hsz v 0 [] hs hown ⟨g, 0, none⟩ n cap xs hx hlen (fun j u hj => hrow.cells (g := g) rfl j u hj) h1 (by omega) (by rw [Nat.zero_add]; exact hbytes) hbase ?_
    intro v' w' ho' hg _
    rw [Nat.zero_add, List.nil_append] at ho'
    exact h v' w' ho' hg
theorem asked_alive {M : RefM} {zs : List ByteArray} {z : ByteArray} (h : (askedM M zs z).2 = 0) : M.gone = false := by
  cases hg : M.gone with
  | false => rfl
  | true =>
    exfalso
    have e : readyE M.gone zs = 3 ∨ readyE M.gone zs = 1 := by unfold readyE; rw [hg]; split <;> simp
    unfold askedM findR at h
    rcases e with e | e <;> rw [e] at h <;> simp at h
theorem spent_can (M : RefM) (n k : Nat) (hl : 0 ≤ M.left) (hk : k < (spent M.armed M.left n).toNat) (g : Bool) : canM (partM M k g) = true := by
  rw [partM_can]
  unfold spent at hk
  cases h : M.armed with
  | false => rfl
  | true =>
    rw [h] at hk
    have : ¬ M.left - (k : Int) = 0 := by
      by_cases q : M.left < (n : Int)
      · rw [decide_eq_true q] at hk
        simp only [Bool.and_self, if_true] at hk
        omega
      · rw [decide_eq_false q] at hk
        simp only [Bool.and_false, Bool.false_eq_true, if_false] at hk
        omega
    rw [decide_eq_false this]; rfl
theorem spent_cant (M : RefM) (n : Nat) (hl : 0 ≤ M.left) (hk : (spent M.armed M.left n).toNat < n) (g : Bool) : canM (partM M (spent M.armed M.left n).toNat g) = false := by
  rw [partM_can]
  unfold spent at hk ⊢
  cases h : M.armed with
  | false => rw [h] at hk; simp only [Bool.false_and, Bool.false_eq_true, if_false] at hk; omega
  | true =>
    rw [h] at hk
    by_cases q : M.left < (n : Int)
    · rw [decide_eq_true q] at hk ⊢
      simp only [Bool.and_self, if_true] at hk ⊢
      have : M.left - (M.left.toNat : Int) = 0 := by omega
      rw [decide_eq_true this]; rfl
    · rw [decide_eq_false q] at hk
      simp only [Bool.and_false, Bool.false_eq_true, if_false] at hk
      omega
theorem spentM_le (M : RefM) (n : Nat) (hl : 0 ≤ M.left) : (spent M.armed M.left n).toNat ≤ n := by
  unfold spent
  by_cases q : M.left < (n : Int)
  · cases M.armed
    · simp
    · rw [decide_eq_true q]; simp only [Bool.and_self, if_true]; omega
  · rw [decide_eq_false q]; simp
theorem partM_left (M : RefM) (n k : Nat) (hl : 0 ≤ M.left ∧ M.left ≤ 9223372036854775807) (hk : k ≤ (spent M.armed M.left n).toNat) (g : Bool) : 0 ≤ (partM M k g).left ∧ (partM M k g).left ≤ 9223372036854775807 := by
  unfold partM
  dsimp only
  unfold spent at hk
  cases h : M.armed with
  | false => simp only [Bool.false_eq_true, if_false]; exact hl
  | true =>
    rw [h] at hk
    simp only [if_true]
    by_cases q : M.left < (n : Int)
    · rw [decide_eq_true q] at hk
      simp only [Bool.and_self, if_true] at hk
      omega
    · rw [decide_eq_false q] at hk
      simp only [Bool.and_false, Bool.false_eq_true, if_false] at hk
      omega
def okN (v : Value) : Nat := match v with | .bool true => 1 | _ => 0
theorem own_rebase {w : World} {base size n g cap : Nat} {e : TypeId} {xs : List Value} (h : w.ownsRow 0 e size (.slice (some ⟨g, 0, none⟩) n cap) n xs) (hg : base ≤ g) : w.ownsRow base e size (.slice (some ⟨g, 0, none⟩) n cap) n xs := by
  refine ⟨h.1, ?_⟩
  rcases h.2 with ⟨q, _⟩ | ⟨g', cap', cur, q, _, rest⟩
  · cases q
  · cases q; exact .inr ⟨g, cap, cur, rfl, hg, rest⟩
theorem take_byte (tx : ByteArray) (k : Nat) (h : k < tx.size) (l : List WaitM) : waitsCells (l ++ (tx.data.toList.take (k + 1)).map byteM) = waitsCells (l ++ (tx.data.toList.take k).map byteM) ++ [.int .u8 (tx[k]'h).toNat, .int .i64 0, .bool false] := by
  have h2 : k < tx.data.toList.length := by rw [← Lib.size_eq]; exact h
  rw [List.take_succ_eq_append_getElem h2, List.map_append, ← List.append_assoc]
  show waitsCells (_ ++ [byteM _]) = _
  rw [waitsCells_snoc]
  rfl
theorem infoWait3 : (Try.prog.info? 127).map (fun i => (i.zero, i.size, i.bytes)) = some (some (.agg #[.int .u8 0, .int .i64 0, .bool false]), 3, 24) := by kernel_rfl
set_option maxRecDepth 100000 in
set_option maxHeartbeats 8000000 in
theorem refwrite_any {M : RefM} {f s m a : Tri} (hF : Fit' M) (hmw : ∀ x ∈ M.files, x.waits.length ≤ 100000) (z : ByteArray) (tx : ByteArray) (hz : z.size ≤ 1000) (w : World) (h : RefAt w M f s m a) (hroom : 0 ≤ M.room ∧ M.room ≤ 9223372036854775807) (htx : tx.size ≤ 1000000) (hun : M.units + tx.size ≤ 1000000000) :
    Calls Try.prog 30 #[slices f s m a M.room M.units M.left M.armed M.gone, .string z, .string tx] w (ResR w (writeM M z tx).1 (writeM M z tx).2) := by
  have O := Lib.hid (OpW.start h)
  have A := Lib.hid (fun (W : World) (hb : Below w.heap.size w W) => asked_call hF.fit z hz W (h.below hb (Nat.le_refl _)))
  have FH := Lib.hid hF
  have FR := Lib.hid (fun (W : World) (hb : Below w.heap.size w W) => reffree_any M f s m a hF.fit hroom W (h.below hb (Nat.le_refl _)))
  have hcode := asked_codes M [z] z
  have hlt := fun hq => hF.fit.asked_lt (zs := [z]) (z := z) hq
  obtain ⟨f1, f2, f3⟩ := f
  obtain ⟨s1, s2, s3⟩ := s
  obtain ⟨m1, m2, m3⟩ := m
  obtain ⟨a1, a2, a3⟩ := a
  unfold writeM
  unfold askedI at A
  generalize hq : askedM M [z] z = q at *
  obtain ⟨q1, q2⟩ := q
  dsimp only at A hcode hlt ⊢
  by_cases h0 : q2 = 0
  · subst h0
    have hgone := Lib.hid (asked_alive (M := M) (zs := [z]) (z := z) (by rw [hq]))
    have hq1 := hlt rfl
    simp only [if_true, ne_eq, not_true_eq_false, if_false] at A ⊢
    clear hcode hlt hq
    obtain ⟨l, hl, hfr⟩ := h.files
    have hql : q1 < l.length := by rw [← hl] at hq1; simpa using hq1
    unfold sliceV at hfr
    dsimp only at hfr
    obtain ⟨gb, cap, ⟨⟩, _⟩ := Joins.ownsRow_form hfr.1 (by omega)
    have SM := Lib.hid (FH.out.fit.files l[q1].1 (by rw [← hl]; exact List.mem_map.2 ⟨l[q1], List.getElem_mem hql, rfl⟩))
    obtain ⟨⟨t1, t2, t3⟩, ht, htn⟩ := row_tri (hfr.2 _ (List.getElem_mem hql))
    have htn : t2 = l[q1].1.waits.length := htn
    subst htn
    have HFR := Lib.hid hfr
    have HT := Lib.hid ht
    have HL := Lib.hid hl
    have hln : l.length ≤ 100000 := by have := FH.out.files; rw [← hl] at this; simpa using this
    have hmany : l[q1].1.waits.length ≤ 100000 := hmw _ (by rw [← hl]; exact List.mem_map.2 ⟨l[q1], List.getElem_mem hql, rfl⟩)
    have HA := Lib.hid h
    clear h hF hfr ht hl hq1
    by_cases hfree : freeM M < (tx.size : Int)
    · have hd : decide (freeM M < (tx.size : Int)) = true := decide_eq_true hfree
      simp only [hfree, if_true]
      unfold slices refA at A FR ⊢
      dsimp only at FR
      generalize freeM M = fr at *
      go_enter Try.func30, Try.ntmps30
      go_wp2_with fail
      refine (A.out _ O.out.bel).mono ?_
      rintro e w1 ⟨rfl, hb1⟩
      have O1 := Lib.hid (O.out.below hb1)
      clear hb1 O  A
      obtain ⟨b0, b1, b2, b3, b4, b5, b6, b7, b8⟩ := cells9 O1.out.cells
      have bl := O1.out.c0.lt
      go_wp2_with fail
      refine (FR.out _ O1.out.bel).mono ?_
      rintro e w2 ⟨rfl, hb2⟩
      have O2 := Lib.hid (O1.out.below hb2)
      clear hb2 O1 b0 b1 b2 b3 b4 b5 b6 b7 b8 bl FR
      obtain ⟨b0, b1, b2, b3, b4, b5, b6, b7, b8⟩ := cells9 O2.out.cells
      have bl := O2.out.c0.lt
      obtain ⟨x0, x1, x2, x3, x4, x5, x6, x7, x8, xl, y0, y1, y2, y3, y4, y5, y6, y7, y8⟩ := Box9.of O2.out.c1
      go_wp2
      refine bodyPost_ret (ret_box rfl _ _ (w.heap.size + 1) _ rfl (setBox_to O2.out.c1 _ _ _ _ _ _ _ _ _) rfl) rfl ?_
      exact O2.out.res _
    · have hd : decide (freeM M < (tx.size : Int)) = false := decide_eq_false hfree
      simp only [hfree, if_false]
      have HK := Lib.hid (spent_cases M.armed M.left tx.size FH.out.fit.left.1)
      generalize hbad : (if (spent M.armed M.left tx.size).toNat < tx.size then 3 else 0) = bad
      have HBAD := Lib.hid hbad
      clear hbad
      unfold slices refA at A FR ⊢
      dsimp only at FR
      generalize freeM M = fr at *
      go_enter Try.func30, Try.ntmps30
      go_wp2_with fail
      refine (A.out _ O.out.bel).mono ?_
      rintro e w1 ⟨rfl, hb1⟩
      have O1 := Lib.hid (O.out.below hb1)
      clear hb1 O  A
      obtain ⟨b0, b1, b2, b3, b4, b5, b6, b7, b8⟩ := cells9 O1.out.cells
      have bl := O1.out.c0.lt
      go_wp2_with fail
      refine (FR.out _ O1.out.bel).mono ?_
      rintro e w2 ⟨rfl, hb2⟩
      have O2 := Lib.hid (O1.out.below hb2)
      clear hb2 O1 b0 b1 b2 b3 b4 b5 b6 b7 b8 bl FR
      obtain ⟨b0, b1, b2, b3, b4, b5, b6, b7, b8⟩ := cells9 O2.out.cells
      have bl := O2.out.c0.lt
      have HFW := HFR.out.below O2.out.bel (Nat.le_refl _)
      obtain ⟨c0, c1⟩ := filesM_at l q1 hql
      rw [HT.out] at c1
      unfold sliceV at c1
      have r0 := row_at HFW.1 c0
      have r1 := row_at HFW.1 c1
      have rl := (HFW.1.lt gb rfl).2
      have hii : (q1 : Int) < (l.length : Int) := by omega
      clear c0 c1 HFW
      go_upto_region 9 with fail
      obtain ⟨W3, hW3⟩ : ∃ W, w2.alloc (.cells #[.string l[q1].1.sure, .slice t1 l[q1].1.waits.length t3] 87) = W := ⟨_, rfl⟩
      rw [hW3]
      have ws2 := O2.out.bel.size
      have ws3 := O2.out.c1.lt
      have FB : Cells W3 w2.heap.size 87 #[.string l[q1].1.sure, .slice t1 l[q1].1.waits.length t3] := by rw [← hW3]; exact Cells.new _ _ _
      have O3 : OpW w W3 M (some ⟨gb, 0, none⟩, l.length, f3) (s1, s2, s3) (m1, m2, m3) (a1, a2, a3) := by rw [← hW3]; exact O2.out.below ((Below.refl _ _).alloc (Nat.le_refl _) _)
      generalize hfb : w2.heap.size = fb at *
      have HFW := HFR.out.below O3.bel (Nat.le_refl _)
      have RW := HFW.2 _ (List.getElem_mem hql)
      rw [HT.out] at RW
      unfold sliceV at RW
      have RW := Lib.hid RW
      have O3 := Lib.hid O3
      clear hW3 O2 r0 r1 rl hii HFW hfb b0 b1 b2 b3 b4 b5 b6 b7 b8 bl
      have f1 := FB.cell 1
      have fl := FB.lt
      have FB := Lib.hid FB
      dsimp at f1
      have hoN : (W3.alloc (.cells #[] 127)).ownsRow W3.heap.size 127 3 (.slice (some ⟨W3.heap.size, 0, none⟩) 0 0) 0 [] := World.ownsRow_lit W3 #[] 0 (Nat.le_refl _) (by decide) rfl
      have hb4 := Lib.hid ((Below.refl W3.heap.size W3).alloc (Nat.le_refl _) (.cells #[] 127))
      have RW4 := Lib.hid (row_below RW.out hb4.out (Nat.le_refl _))
      obtain ⟨i0, hi0, hz0, hz1, hz2⟩ := info_parts infoWait3
      go_wp2_with (at_builtin; refine append_copy rfl _ _ 85 rfl W3.heap.size 127 i0 _ 3 24 Try.underlying85 hi0 hz0 hz1 hz2 rfl (by decide) _ rfl hoN _ l[q1].1.waits.length (waitsCells l[q1].1.waits) rfl RW4.out (waits_one _) ?c3 ?c4 ?c5 ?_)
      case c3 => unfold maxLen; omega
      case c4 => omega
      intro v5 w5 hown5 hgrow5
      have hb5 : Below W3.heap.size W3 w5 := hb4.out.grown hgrow5 (by simp) (fun j ej => (World.ownsRow.lt hoN j ej).1)
      obtain ⟨⟨v1, v2, v3⟩, hv5, hv2⟩ := row_tri hown5
      have hv2 : v2 = l[q1].1.waits.length := hv2
      subst hv2
      subst hv5
      unfold sliceV at hown5 ⊢
      dsimp only at hown5 ⊢
      have P5 := Lib.hid (O3.out.below hb5)
      have FB5 := FB.out.below hb5 FB.out.lt
      have f51 := FB5.cell 1
      have ff := FB5.frozen 1
      have fl5 := FB5.lt
      dsimp at f51
      have FB6 := FB5.set 1 (.slice v1 l[q1].1.waits.length v3)
      simp only [List.setIfInBounds_toArray, List.set_cons_zero, List.set_cons_succ] at FB6
      have FB6 := Lib.hid FB6
      have C0 := Lib.hid (P5.out.c0.other (p := ⟨fb, 1, none⟩) (by dsimp only; omega) (.slice v1 l[q1].1.waits.length v3))
      have C1 := Lib.hid (P5.out.c1.other (p := ⟨fb, 1, none⟩) (by dsimp only; omega) (.slice v1 l[q1].1.waits.length v3))
      have BL := Lib.hid (P5.out.bel.setCell (p := ⟨fb, 1, none⟩) (by dsimp only; omega) (.slice v1 l[q1].1.waits.length v3))
      have OW := Lib.hid (DidRows.rowBase (row_cell hown5 (p := ⟨fb, 1, none⟩) (box_ne hown5 FB5 (by decide)) (.slice v1 l[q1].1.waits.length v3)) O3.out.bel.size)
      clear hown5 hgrow5 hb5 P5 FB5 RW4 RW FB hb4 hoN f1 fl O3 hz0 hz1 hz2 hi0
      go_wp2_with fail
      clear f51 ff fl5
      generalize w5.setCell _ _ = W6 at *
      have KC := Lib.hid (fun k => spent_can M tx.size k FH.out.fit.left.1)
      have KN := Lib.hid (spent_cant M tx.size FH.out.fit.left.1)
      have hKs := spentM_le M tx.size FH.out.fit.left.1
      have PL := Lib.hid (fun k h g => partM_left M tx.size k FH.out.fit.left h g)
      have UN := Lib.hid hun
      clear hun
      generalize hKK : (spent M.armed M.left (tx.size : Int)).toNat = K at *
      go_loopw [10, 11] (fun n ok wr => ∃ (k : Nat) (b : Bool) (r1 : Option Addr) (r3 : Nat), k ≤ K ∧ n = .int .i64 (k : Nat) ∧ ok = .bool b ∧ (b = false → k = K ∧ K < tx.size) ∧ Cells wr w.heap.size 37 (curM (partM M k (!b)) (some ⟨gb, 0, none⟩, l.length, f3) (s1, s2, s3) (m1, m2, m3) (a1, a2, a3)) ∧ Cells wr (w.heap.size + 1) 37 rows9 ∧ Cells wr fb 87 #[.string l[q1].1.sure, .slice r1 (l[q1].1.waits.length + k) r3] ∧ wr.ownsRow w.heap.size 127 3 (.slice r1 (l[q1].1.waits.length + k) r3) (l[q1].1.waits.length + k) (waitsCells (l[q1].1.waits ++ (tx.data.toList.take k).map byteM)) ∧ Below w.heap.size w wr) (fun n ok _ => 2 * (tx.size - (intOf n).toNat) + okN ok)
      case atStart =>
        have PZ : partM M 0 (!true) = M := by rw [show (!true) = M.gone from hgone.out.symm]; exact partM_zero M
        refine ⟨0, true, v1, v3, Nat.zero_le _, rfl, rfl, fun h => Bool.noConfusion h, ?_, C1.out, FB6.out, ?_, BL.out⟩
        · rw [PZ]; exact C0.out
        · simpa using OW.out
      case round =>
        obtain ⟨k, b, r1, r3, hkK, rfl, rfl, hb, c0, c1, cf, ow, bel⟩ := hrel
        cases b with
        | false =>
          obtain ⟨hkk, hlt⟩ := hb rfl
          subst hkk
          have hd3 : decide ((k : Int) < (tx.size : Int)) = true := decide_eq_true (by omega)
          by_cases hz0 : k = 0
          · have hp0 := hz0
            have hk0 : k = 0 := by omega
            subst hk0
            have c0 : Cells wr w.heap.size 37 (curM (partM M 0 true) (some ⟨gb, 0, none⟩, l.length, f3) (s1, s2, s3) (m1, m2, m3) (a1, a2, a3)) := c0
            have X0 : OpW w wr (partM M 0 true) (some ⟨gb, 0, none⟩, l.length, f3) (s1, s2, s3) (m1, m2, m3) (a1, a2, a3) := ⟨c0, c1, (HA.out.below bel (Nat.le_refl _)).part 0 true, bel⟩
            have HW : WaitsRow wr (.slice r1 (l[q1].1.waits.length + 0) r3) (l[q1].1.more ((tx.data.toList.take 0).map byteM)).waits := by
              have e : (l[q1].1.more ((tx.data.toList.take 0).map byteM)).waits.length = l[q1].1.waits.length + 0 := by
                have := Lib.size_eq tx
                unfold FileM.more; simp <;> omega
              unfold WaitsRow; rw [e]; exact row0 ow
            have HFL := HFR.out.below bel (Nat.le_refl _)
            have WI := refwith_any (partM M 0 true).room (partM M 0 true).units (partM M 0 true).left (partM M 0 true).armed (partM M 0 true).gone (some ⟨gb, 0, none⟩, l.length, f3) (s1, s2, s3) (m1, m2, m3) (a1, a2, a3) l q1 (l[q1].1.more ((tx.data.toList.take 0).map byteM)) (r1, l[q1].1.waits.length + 0, r3) wr HFL HW hql hln
            unfold slices refA sliceV at WI
            dsimp only at WI
            have WI := Lib.hid WI
            have DI := Lib.hid (fun (ff : Tri) (W : World) => refdid_any (partM M 0 true).room (partM M 0 true).units (partM M 0 true).left (partM M 0 true).armed (partM M 0 true).gone ff (s1, s2, s3) (m1, m2, m3) (a1, a2, a3) M.acts ⟨2, z, ⟨#[]⟩, tx.extract 0 0, 0⟩ W)
            unfold slices refA at DI
            have fl0 := cf.cell 0
            have fl1 := cf.cell 1
            have fll := cf.lt
            dsimp at fl0 fl1
            have X0 := Lib.hid X0
            clear c0 c1 cf ow bel HW HFL
            obtain ⟨b0, b1, b2, b3, b4, b5, b6, b7, b8⟩ := cells9 X0.out.cells
            have bl := X0.out.c0.lt
            go_wp2_with fail
            refine (WI.out).mono ?_
            rintro e w7 ⟨⟨⟨p1, p2, p3⟩, rfl, hfr5⟩, hb7⟩
            have O7 := Lib.hid (X0.out.below hb7)
            have RA := Lib.hid (O7.out.at_.filed (f' := (p1, p2, p3)) (fs := modM M.files q1 fun f => f.more ((tx.data.toList.take 0).map byteM)) (files_mod HL.out hql (fun f => f.more ((tx.data.toList.take 0).map byteM)) _) hfr5)
            clear hb7 X0 b0 b1 b2 b3 b4 b5 b6 b7 b8 bl WI hfr5 fl0 fl1 fll
            obtain ⟨b0, b1, b2, b3, b4, b5, b6, b7, b8⟩ := cells9 O7.out.cells
            have bl := O7.out.c0.lt
            have g0 := O7.out.c0.frozen 0
            have g1 := O7.out.c0.frozen 1
            have g2 := O7.out.c0.frozen 2
            have g3 := O7.out.c0.frozen 3
            have g4 := O7.out.c0.frozen 4
            have g5 := O7.out.c0.frozen 5
            have g6 := O7.out.c0.frozen 6
            have g7 := O7.out.c0.frozen 7
            have g8 := O7.out.c0.frozen 8
            obtain ⟨x0, x1, x2, x3, x4, x5, x6, x7, x8, xl, y0, y1, y2, y3, y4, y5, y6, y7, y8⟩ := Box9.of O7.out.c1
            try dsimp only
            have O7s := Lib.hid (O7.out.set RA.out)
            clear O7
            clear RA
            have FIN0 : wroteM M q1 z tx 0 = { partM M 0 true with files := modM M.files q1 fun f => f.more ((tx.data.toList.take 0).map byteM) } := by
              unfold wroteM partM; simp [hgone.out, hlt]
            have FIN := Lib.hid FIN0
            clear FIN0
            have hbad := HBAD.out
            rw [if_pos hlt] at hbad
            subst hbad
            go_wp2
            refine bodyPost_ret (ret_box rfl _ _ (w.heap.size + 1) _ rfl (setBox_to O7s.out.c1 _ _ _ _ _ _ _ _ _) rfl) rfl ?_
            rw [FIN.out]
            exact O7s.out.res _
          · have hp0 : (0 : Int) < (k : Int) := by omega
            have c0 : Cells wr w.heap.size 37 (curM (partM M k true) (some ⟨gb, 0, none⟩, l.length, f3) (s1, s2, s3) (m1, m2, m3) (a1, a2, a3)) := c0
            have X0 : OpW w wr (partM M k true) (some ⟨gb, 0, none⟩, l.length, f3) (s1, s2, s3) (m1, m2, m3) (a1, a2, a3) := ⟨c0, c1, (HA.out.below bel (Nat.le_refl _)).part k true, bel⟩
            have HW : WaitsRow wr (.slice r1 (l[q1].1.waits.length + k) r3) (l[q1].1.more ((tx.data.toList.take k).map byteM)).waits := by
              have e : (l[q1].1.more ((tx.data.toList.take k).map byteM)).waits.length = l[q1].1.waits.length + k := by
                have := Lib.size_eq tx
                unfold FileM.more; simp <;> omega
              unfold WaitsRow; rw [e]; exact row0 ow
            have HFL := HFR.out.below bel (Nat.le_refl _)
            have WI := refwith_any (partM M k true).room (partM M k true).units (partM M k true).left (partM M k true).armed (partM M k true).gone (some ⟨gb, 0, none⟩, l.length, f3) (s1, s2, s3) (m1, m2, m3) (a1, a2, a3) l q1 (l[q1].1.more ((tx.data.toList.take k).map byteM)) (r1, l[q1].1.waits.length + k, r3) wr HFL HW hql hln
            unfold slices refA sliceV at WI
            dsimp only at WI
            have WI := Lib.hid WI
            have DI := Lib.hid (fun (ff : Tri) (W : World) => refdid_any (partM M k true).room (partM M k true).units (partM M k true).left (partM M k true).armed (partM M k true).gone ff (s1, s2, s3) (m1, m2, m3) (a1, a2, a3) M.acts ⟨2, z, ⟨#[]⟩, tx.extract 0 k, 0⟩ W)
            unfold slices refA at DI
            have fl0 := cf.cell 0
            have fl1 := cf.cell 1
            have fll := cf.lt
            dsimp at fl0 fl1
            have X0 := Lib.hid X0
            clear c0 c1 cf ow bel HW HFL
            obtain ⟨b0, b1, b2, b3, b4, b5, b6, b7, b8⟩ := cells9 X0.out.cells
            have bl := X0.out.c0.lt
            go_wp2_with fail
            refine (WI.out).mono ?_
            rintro e w7 ⟨⟨⟨p1, p2, p3⟩, rfl, hfr5⟩, hb7⟩
            have O7 := Lib.hid (X0.out.below hb7)
            have RA := Lib.hid (O7.out.at_.filed (f' := (p1, p2, p3)) (fs := modM M.files q1 fun f => f.more ((tx.data.toList.take k).map byteM)) (files_mod HL.out hql (fun f => f.more ((tx.data.toList.take k).map byteM)) _) hfr5)
            clear hb7 X0 b0 b1 b2 b3 b4 b5 b6 b7 b8 bl WI hfr5 fl0 fl1 fll
            obtain ⟨b0, b1, b2, b3, b4, b5, b6, b7, b8⟩ := cells9 O7.out.cells
            have bl := O7.out.c0.lt
            have g0 := O7.out.c0.frozen 0
            have g1 := O7.out.c0.frozen 1
            have g2 := O7.out.c0.frozen 2
            have g3 := O7.out.c0.frozen 3
            have g4 := O7.out.c0.frozen 4
            have g5 := O7.out.c0.frozen 5
            have g6 := O7.out.c0.frozen 6
            have g7 := O7.out.c0.frozen 7
            have g8 := O7.out.c0.frozen 8
            try dsimp only
            have O7s := Lib.hid (O7.out.set RA.out)
            clear O7
            clear RA
            have FIN0 : wroteM M q1 z tx k = didM { partM M k true with files := modM M.files q1 fun f => f.more ((tx.data.toList.take k).map byteM) } ⟨2, z, ⟨#[]⟩, tx.extract 0 k, 0⟩ := by
              have hp1 : 0 < k := by omega
              unfold wroteM partM didM; simp [hgone.out, hlt, hp1]
            have FIN := Lib.hid FIN0
            clear FIN0
            have hbad := HBAD.out
            rw [if_pos hlt] at hbad
            subst hbad
            go_upto_region 17 with fail
            obtain ⟨W9, hW9⟩ : ∃ W, setBox w7 w.heap.size (.int .i64 (partM M k true).room) (.slice p1 p2 p3) (.slice s1 s2 s3) (.slice m1 m2 m3) (.int .i64 (partM M k true).units) (.int .i64 (partM M k true).left) (.bool (partM M k true).armed) (.bool (partM M k true).gone) (.slice a1 a2 a3) = W := ⟨_, rfl⟩
            have P := O7s.out
            try dsimp only at P
            rw [hW9] at P
            unfold setBox at hW9
            rw [hW9]
            have P := Lib.hid P.drew
            clear hW9 O7s b0 b1 b2 b3 b4 b5 b6 b7 b8 bl g0 g1 g2 g3 g4 g5 g6 g7 g8
            refine wp_region_any (by kernel_rfl) ?_
            refine Vm.region_wr17 _ W9.drew w.heap.size k (partM M k true).room (partM M k true).units (partM M k true).left (partM M k true).armed (partM M k true).gone p2 p3 s2 s3 m2 m3 a2 a3 p1 s1 m1 a1 z tx _ rfl rfl rfl rfl rfl ?hD (by omega) ?hQ
            case hD => exact fun W hb => cells9 (P.out.below hb).cells
            case hQ =>
              intro y0 y1 y2 y3 y4 y5 W4 hb4 hy0 hy5
              try dsimp only at hy0 hy5
              subst hy0 hy5
              have Q4 := Lib.hid (P.out.below hb4)
              clear P hb4
              simp only [List.foldl, List.setIfInBounds_toArray, List.set_cons_zero, List.set_cons_succ]
              obtain ⟨b0, b1, b2, b3, b4, b5, b6, b7, b8⟩ := cells9 Q4.out.cells
              have bl := Q4.out.c0.lt
              have g0 := Q4.out.c0.frozen 0
              have g1 := Q4.out.c0.frozen 1
              have g2 := Q4.out.c0.frozen 2
              have g3 := Q4.out.c0.frozen 3
              have g4 := Q4.out.c0.frozen 4
              have g5 := Q4.out.c0.frozen 5
              have g6 := Q4.out.c0.frozen 6
              have g7 := Q4.out.c0.frozen 7
              have g8 := Q4.out.c0.frozen 8
              go_wp2_with fail
              refine (DI.out (p1, p2, p3) _ Q4.out.at_.acts FH.out.acts).mono ?_
              rintro e w9 ⟨⟨db, dc, rfl, down⟩, hb9⟩
              have O9 := Lib.hid (Q4.out.below hb9)
              have R2 := Lib.hid ((O9.out.at_).did (x := ⟨2, z, ⟨#[]⟩, tx.extract 0 k, 0⟩) (a' := slT db (M.acts.length + 1) dc) (by rw [snoc_len]; exact down))
              clear hb9 Q4 b0 b1 b2 b3 b4 b5 b6 b7 b8 bl g0 g1 g2 g3 g4 g5 g6 g7 g8 down DI
              obtain ⟨b0, b1, b2, b3, b4, b5, b6, b7, b8⟩ := cells9 O9.out.cells
              have bl := O9.out.c0.lt
              have g0 := O9.out.c0.frozen 0
              have g1 := O9.out.c0.frozen 1
              have g2 := O9.out.c0.frozen 2
              have g3 := O9.out.c0.frozen 3
              have g4 := O9.out.c0.frozen 4
              have g5 := O9.out.c0.frozen 5
              have g6 := O9.out.c0.frozen 6
              have g7 := O9.out.c0.frozen 7
              have g8 := O9.out.c0.frozen 8
              obtain ⟨x0, x1, x2, x3, x4, x5, x6, x7, x8, xl, y0, y1, y2, y3, y4, y5, y6, y7, y8⟩ := Box9.of O9.out.c1
              have O9s := Lib.hid (O9.out.set R2.out)
              clear O9
              clear R2
              go_wp2
              refine bodyPost_ret (ret_box rfl _ _ (w.heap.size + 1) _ rfl (setBox_to O9s.out.c1 _ _ _ _ _ _ _ _ _) rfl) rfl ?_
              rw [FIN.out]
              exact O9s.out.res _
        | true =>
          by_cases hlt : k < tx.size
          · by_cases hK : k < K
            · have U := Lib.hid (refunit_yes (KC.out k hK false) (some ⟨gb, 0, none⟩, l.length, f3) (s1, s2, s3) (m1, m2, m3) (a1, a2, a3) (by have := UN.out; have := FH.out.fit.units; unfold partM; dsimp only; omega) (PL.out k (by omega) false))
              rw [partM_done] at U
              unfold slices refA at U
              have c0 : Cells wr w.heap.size 37 (curM (partM M k false) (some ⟨gb, 0, none⟩, l.length, f3) (s1, s2, s3) (m1, m2, m3) (a1, a2, a3)) := c0
              unfold curM at c0
              dsimp only at U c0
              obtain ⟨b0, b1, b2, b3, b4, b5, b6, b7, b8⟩ := cells9 c0
              have bl := c0.lt
              have hkk : decide ((k : Int) < (tx.size : Int)) = true := decide_eq_true (by omega)
              have hK2 : (k : Int) < (tx.size : Int) := by omega
              have HC := Lib.hid c0
              have H1 := Lib.hid c1
              have HCF := Lib.hid cf
              have HOW := Lib.hid ow
              have HBEL := Lib.hid bel
              clear c0 c1 cf ow bel
              go_wp2_with fail
              refine (U.out _).mono ?_
              rintro e w6 ⟨rfl, hb6⟩
              have D0 := HC.out.below hb6 HC.out.lt
              clear b0 b1 b2 b3 b4 b5 b6 b7 b8 bl
              obtain ⟨b0, b1, b2, b3, b4, b5, b6, b7, b8⟩ := cells9 D0
              have bl := D0.lt
              have g0 := D0.frozen 0
              have g1 := D0.frozen 1
              have g2 := D0.frozen 2
              have g3 := D0.frozen 3
              have g4 := D0.frozen 4
              have g5 := D0.frozen 5
              have g6 := D0.frozen 6
              have g7 := D0.frozen 7
              have g8 := D0.frozen 8
              have HD0 := Lib.hid D0
              have HB6 := Lib.hid hb6
              clear D0 hb6
              go_upto_region 13 with fail
              have E0 := setBox_to HD0.out (.int .i64 (partM M (k + 1) false).room) (.slice (some ⟨gb, 0, none⟩) l.length f3) (.slice s1 s2 s3) (.slice m1 m2 m3) (.int .i64 (partM M (k + 1) false).units) (.int .i64 (partM M (k + 1) false).left) (.bool (partM M (k + 1) false).armed) (.bool (partM M (k + 1) false).gone) (.slice a1 a2 a3)
              have E1 := setBox_other (H1.out.below HB6.out H1.out.lt) (b := w.heap.size) (by omega) (.int .i64 (partM M (k + 1) false).room) (.slice (some ⟨gb, 0, none⟩) l.length f3) (.slice s1 s2 s3) (.slice m1 m2 m3) (.int .i64 (partM M (k + 1) false).units) (.int .i64 (partM M (k + 1) false).left) (.bool (partM M (k + 1) false).armed) (.bool (partM M (k + 1) false).gone) (.slice a1 a2 a3)
              have E2 := setBox_other (HCF.out.below HB6.out HCF.out.lt) (b := w.heap.size) (by omega) (.int .i64 (partM M (k + 1) false).room) (.slice (some ⟨gb, 0, none⟩) l.length f3) (.slice s1 s2 s3) (.slice m1 m2 m3) (.int .i64 (partM M (k + 1) false).units) (.int .i64 (partM M (k + 1) false).left) (.bool (partM M (k + 1) false).armed) (.bool (partM M (k + 1) false).gone) (.slice a1 a2 a3)
              have E3 := setBox_own (row_below HOW.out HB6.out (Nat.le_refl _)) HD0.out (by decide) (.int .i64 (partM M (k + 1) false).room) (.slice (some ⟨gb, 0, none⟩) l.length f3) (.slice s1 s2 s3) (.slice m1 m2 m3) (.int .i64 (partM M (k + 1) false).units) (.int .i64 (partM M (k + 1) false).left) (.bool (partM M (k + 1) false).armed) (.bool (partM M (k + 1) false).gone) (.slice a1 a2 a3)
              have E4 := setBox_below (HBEL.out.trans (HB6.out.mono HBEL.out.size)) (b := w.heap.size) (Nat.le_refl _) (.int .i64 (partM M (k + 1) false).room) (.slice (some ⟨gb, 0, none⟩) l.length f3) (.slice s1 s2 s3) (.slice m1 m2 m3) (.int .i64 (partM M (k + 1) false).units) (.int .i64 (partM M (k + 1) false).left) (.bool (partM M (k + 1) false).armed) (.bool (partM M (k + 1) false).gone) (.slice a1 a2 a3)
              clear b0 b1 b2 b3 b4 b5 b6 b7 b8 bl g0 g1 g2 g3 g4 g5 g6 g7 g8 HD0 HB6 HC H1 HCF HOW HBEL
              unfold setBox at E0 E1 E2 E3 E4
              generalize (World.setCell (World.setCell (World.setCell (World.setCell (World.setCell (World.setCell (World.setCell (World.setCell (World.setCell w6 _ _) _ _) _ _) _ _) _ _) _ _) _ _) _ _) _ _) = W7 at *
              have f0 := E2.cell 0
              have f1 := E2.cell 1
              have ff := E2.frozen 1
              have fl := E2.lt
              dsimp at f0 f1
              have n1 := World.new_ne W7 _ f1
              obtain ⟨i0, hi0, hz0, hz1, hz2⟩ := info_parts infoWait3
              have ROW := Lib.hid (row0 E3)
              have HE2 := Lib.hid E2
              have NE := Lib.hid (box_ne E3 E2 (by decide))
              have HE0 := Lib.hid E0
              have HE1 := Lib.hid E1
              have HE3 := Lib.hid E3
              have HE4 := Lib.hid E4
              clear E0 E1 E2 E3 E4
              go_region_law ((refine step_append_own rfl (.tmp 53) (.tmp 58) 85 rfl 127 i0 _ 3 24 Try.underlying85 hi0 hz0 hz1 hz2 rfl (by decide) (.slice r1 (l[q1].1.waits.length + k) r3) (l[q1].1.waits.length + k) _ rfl (by exact (ROW.out.alloc _).drew) ⟨W7.heap.size, 0, none⟩ 1 1 [_, .int .i64 0, .bool false] rfl rfl (by exact new_at _ (by simp) _ _) (by intro u hu; simp at hu; rcases hu with rfl | rfl | rfl <;> rfl) (by unfold maxLen; omega) (by omega) ?_); intro v' w' ho hgr hbk; obtain ⟨g', cap', rfl⟩ := slice_of_own ho; have HX := Lib.hid (And.intro ho (And.intro hgr hbk)); have E5 := Cells.grown (HE2.out.below (((Below.refl _ _).alloc (Nat.le_refl _) _).drew) fl) hgr (fun e => NE.out e.symm); have d1 := E5.cell 1; have df := E5.frozen 1; have dl := E5.lt; clear ho hgr hbk)
              all_goals
                obtain ⟨ho, hgr, hbk⟩ := HX.out
                have hbd := ((Below.refl W7.heap.size W7).alloc (Nat.le_refl _) (.cells #[.int .u8 (tx[k]'hlt).toNat, .int .i64 0, .bool false] 127)).drew
                have hr : ∀ j, (Value.slice r1 (l[q1].1.waits.length + k) r3).ownBlock = some j → w.heap.size ≤ j := fun j ej => (World.ownsRow.lt HE3.out j ej).1
                have BN := Lib.hid ((HE4.out.trans (hbd.mono HE4.out.size)).grown hgr (by have := HE4.out.size; have := hbd.size; omega) hr)
                have G0 := Cells.grown (HE0.out.below hbd HE0.out.lt) hgr (fun e => box_ne HE3.out HE0.out (by decide) e.symm)
                have G1 := Cells.grown (HE1.out.below hbd HE1.out.lt) hgr (fun e => box_ne HE3.out HE1.out (by decide) e.symm)
                have hgl : w.heap.size ≤ g' := by
                  rcases hbk with q | q
                  · exact hr g' q.symm
                  · have h1 := Option.some.inj q
                    have h2 := HE4.out.size
                    first | omega | (simp at h1; omega)
                have GO := own_rebase (base := w.heap.size) ho hgl
                clear hgl
                rw [← take_byte tx k hlt l[q1].1.waits] at GO
                have GO := Lib.hid GO
                have G0 := Lib.hid G0
                have G1 := Lib.hid G1
                have E5H := Lib.hid E5
                clear ho hgr hbk hbd hr HX HE0 HE1 HE3 HE4 HE2 ROW NE E5 f0 f1 ff fl n1
                go_wp2_with fail
                have CF := E5H.out.set 1 (.slice (some ⟨g', 0, none⟩) (l[q1].1.waits.length + k + 1) cap')
                simp only [List.setIfInBounds_toArray, List.set_cons_zero, List.set_cons_succ] at CF
                refine ⟨⟨k + 1, true, some ⟨g', 0, none⟩, cap', by omega, by go_num, rfl, fun h => Bool.noConfusion h, G0.out.other (p := ⟨fb, 1, none⟩) (by dsimp only; omega) _, G1.out.other (p := ⟨fb, 1, none⟩) (by dsimp only; omega) _, CF, row_cell GO.out (p := ⟨fb, 1, none⟩) (box_ne GO.out E5H.out (by decide)) _, BN.out.setCell (p := ⟨fb, 1, none⟩) (by dsimp only; omega) _⟩, by simp [okN, intOf]; omega⟩
            · obtain rfl : k = K := by omega
              have U := Lib.hid (refunit_no (KN.out hlt (!true)) (some ⟨gb, 0, none⟩, l.length, f3) (s1, s2, s3) (m1, m2, m3) (a1, a2, a3) (by have := UN.out; have := FH.out.fit.units; unfold partM; dsimp only; omega) (PL.out k (Nat.le_refl _) (!true)))
              unfold slices refA at U
              unfold curM at c0
              dsimp only at U c0
              obtain ⟨b0, b1, b2, b3, b4, b5, b6, b7, b8⟩ := cells9 c0
              have bl := c0.lt
              have hkk : decide ((k : Int) < (tx.size : Int)) = true := decide_eq_true (by omega)
              have hK2 : (k : Int) < (tx.size : Int) := by omega
              have HC := Lib.hid c0
              have H1 := Lib.hid c1
              have HCF := Lib.hid cf
              have HOW := Lib.hid ow
              have HBEL := Lib.hid bel
              clear c0 c1 cf ow bel
              go_wp2_with fail
              refine (U.out _).mono ?_
              rintro e w6 ⟨rfl, hb6⟩
              have D0 := HC.out.below hb6 HC.out.lt
              clear b0 b1 b2 b3 b4 b5 b6 b7 b8 bl
              obtain ⟨b0, b1, b2, b3, b4, b5, b6, b7, b8⟩ := cells9 D0
              have bl := D0.lt
              have g0 := D0.frozen 0
              have g1 := D0.frozen 1
              have g2 := D0.frozen 2
              have g3 := D0.frozen 3
              have g4 := D0.frozen 4
              have g5 := D0.frozen 5
              have g6 := D0.frozen 6
              have g7 := D0.frozen 7
              have g8 := D0.frozen 8
              have HD0 := Lib.hid D0
              have HB6 := Lib.hid hb6
              clear D0 hb6
              go_wp2_with fail
              refine ⟨⟨k, false, r1, r3, Nat.le_refl _, rfl, rfl, fun _ => ⟨rfl, hlt⟩, setBox_to HD0.out _ _ _ _ _ _ _ _ _, setBox_other (H1.out.below HB6.out H1.out.lt) (by omega) _ _ _ _ _ _ _ _ _, setBox_other (HCF.out.below HB6.out HCF.out.lt) (by omega) _ _ _ _ _ _ _ _ _, setBox_own (row_below HOW.out HB6.out (Nat.le_refl _)) HD0.out (by decide) _ _ _ _ _ _ _ _ _, setBox_below (HBEL.out.trans (HB6.out.mono HBEL.out.size)) (Nat.le_refl _) _ _ _ _ _ _ _ _ _⟩, by simp [okN]⟩
          · obtain hkk : k = K := by omega
            subst hkk
            have hd3 : decide ((k : Int) < (tx.size : Int)) = false := decide_eq_false (by omega)
            have hd4 : ¬ (k : Int) < (tx.size : Int) := by omega
            by_cases hz0 : k = 0
            · have hp0 := hz0
              have hk0 : k = 0 := by omega
              subst hk0
              have c0 : Cells wr w.heap.size 37 (curM (partM M 0 false) (some ⟨gb, 0, none⟩, l.length, f3) (s1, s2, s3) (m1, m2, m3) (a1, a2, a3)) := c0
              have X0 : OpW w wr (partM M 0 false) (some ⟨gb, 0, none⟩, l.length, f3) (s1, s2, s3) (m1, m2, m3) (a1, a2, a3) := ⟨c0, c1, (HA.out.below bel (Nat.le_refl _)).part 0 false, bel⟩
              have HW : WaitsRow wr (.slice r1 (l[q1].1.waits.length + 0) r3) (l[q1].1.more ((tx.data.toList.take 0).map byteM)).waits := by
                have e : (l[q1].1.more ((tx.data.toList.take 0).map byteM)).waits.length = l[q1].1.waits.length + 0 := by
                  have := Lib.size_eq tx
                  unfold FileM.more; simp <;> omega
                unfold WaitsRow; rw [e]; exact row0 ow
              have HFL := HFR.out.below bel (Nat.le_refl _)
              have WI := refwith_any (partM M 0 false).room (partM M 0 false).units (partM M 0 false).left (partM M 0 false).armed (partM M 0 false).gone (some ⟨gb, 0, none⟩, l.length, f3) (s1, s2, s3) (m1, m2, m3) (a1, a2, a3) l q1 (l[q1].1.more ((tx.data.toList.take 0).map byteM)) (r1, l[q1].1.waits.length + 0, r3) wr HFL HW hql hln
              unfold slices refA sliceV at WI
              dsimp only at WI
              have WI := Lib.hid WI
              have DI := Lib.hid (fun (ff : Tri) (W : World) => refdid_any (partM M 0 false).room (partM M 0 false).units (partM M 0 false).left (partM M 0 false).armed (partM M 0 false).gone ff (s1, s2, s3) (m1, m2, m3) (a1, a2, a3) M.acts ⟨2, z, ⟨#[]⟩, tx.extract 0 0, 0⟩ W)
              unfold slices refA at DI
              have fl0 := cf.cell 0
              have fl1 := cf.cell 1
              have fll := cf.lt
              dsimp at fl0 fl1
              have X0 := Lib.hid X0
              clear c0 c1 cf ow bel HW HFL
              obtain ⟨b0, b1, b2, b3, b4, b5, b6, b7, b8⟩ := cells9 X0.out.cells
              have bl := X0.out.c0.lt
              go_wp2_with fail
              refine (WI.out).mono ?_
              rintro e w7 ⟨⟨⟨p1, p2, p3⟩, rfl, hfr5⟩, hb7⟩
              have O7 := Lib.hid (X0.out.below hb7)
              have RA := Lib.hid (O7.out.at_.filed (f' := (p1, p2, p3)) (fs := modM M.files q1 fun f => f.more ((tx.data.toList.take 0).map byteM)) (files_mod HL.out hql (fun f => f.more ((tx.data.toList.take 0).map byteM)) _) hfr5)
              clear hb7 X0 b0 b1 b2 b3 b4 b5 b6 b7 b8 bl WI hfr5 fl0 fl1 fll
              obtain ⟨b0, b1, b2, b3, b4, b5, b6, b7, b8⟩ := cells9 O7.out.cells
              have bl := O7.out.c0.lt
              have g0 := O7.out.c0.frozen 0
              have g1 := O7.out.c0.frozen 1
              have g2 := O7.out.c0.frozen 2
              have g3 := O7.out.c0.frozen 3
              have g4 := O7.out.c0.frozen 4
              have g5 := O7.out.c0.frozen 5
              have g6 := O7.out.c0.frozen 6
              have g7 := O7.out.c0.frozen 7
              have g8 := O7.out.c0.frozen 8
              obtain ⟨x0, x1, x2, x3, x4, x5, x6, x7, x8, xl, y0, y1, y2, y3, y4, y5, y6, y7, y8⟩ := Box9.of O7.out.c1
              try dsimp only
              have O7s := Lib.hid (O7.out.set RA.out)
              clear O7
              clear RA
              have FIN0 : wroteM M q1 z tx 0 = { partM M 0 false with files := modM M.files q1 fun f => f.more ((tx.data.toList.take 0).map byteM) } := by
                unfold wroteM partM; simp [hgone.out, hlt]
              have FIN := Lib.hid FIN0
              clear FIN0
              have hbad := HBAD.out
              rw [if_neg hlt] at hbad
              subst hbad
              go_wp2
              refine bodyPost_ret (ret_box rfl _ _ (w.heap.size + 1) _ rfl (setBox_to O7s.out.c1 _ _ _ _ _ _ _ _ _) rfl) rfl ?_
              rw [FIN.out]
              exact O7s.out.res _
            · have hp0 : (0 : Int) < (k : Int) := by omega
              have c0 : Cells wr w.heap.size 37 (curM (partM M k false) (some ⟨gb, 0, none⟩, l.length, f3) (s1, s2, s3) (m1, m2, m3) (a1, a2, a3)) := c0
              have X0 : OpW w wr (partM M k false) (some ⟨gb, 0, none⟩, l.length, f3) (s1, s2, s3) (m1, m2, m3) (a1, a2, a3) := ⟨c0, c1, (HA.out.below bel (Nat.le_refl _)).part k false, bel⟩
              have HW : WaitsRow wr (.slice r1 (l[q1].1.waits.length + k) r3) (l[q1].1.more ((tx.data.toList.take k).map byteM)).waits := by
                have e : (l[q1].1.more ((tx.data.toList.take k).map byteM)).waits.length = l[q1].1.waits.length + k := by
                  have := Lib.size_eq tx
                  unfold FileM.more; simp <;> omega
                unfold WaitsRow; rw [e]; exact row0 ow
              have HFL := HFR.out.below bel (Nat.le_refl _)
              have WI := refwith_any (partM M k false).room (partM M k false).units (partM M k false).left (partM M k false).armed (partM M k false).gone (some ⟨gb, 0, none⟩, l.length, f3) (s1, s2, s3) (m1, m2, m3) (a1, a2, a3) l q1 (l[q1].1.more ((tx.data.toList.take k).map byteM)) (r1, l[q1].1.waits.length + k, r3) wr HFL HW hql hln
              unfold slices refA sliceV at WI
              dsimp only at WI
              have WI := Lib.hid WI
              have DI := Lib.hid (fun (ff : Tri) (W : World) => refdid_any (partM M k false).room (partM M k false).units (partM M k false).left (partM M k false).armed (partM M k false).gone ff (s1, s2, s3) (m1, m2, m3) (a1, a2, a3) M.acts ⟨2, z, ⟨#[]⟩, tx.extract 0 k, 0⟩ W)
              unfold slices refA at DI
              have fl0 := cf.cell 0
              have fl1 := cf.cell 1
              have fll := cf.lt
              dsimp at fl0 fl1
              have X0 := Lib.hid X0
              clear c0 c1 cf ow bel HW HFL
              obtain ⟨b0, b1, b2, b3, b4, b5, b6, b7, b8⟩ := cells9 X0.out.cells
              have bl := X0.out.c0.lt
              go_wp2_with fail
              refine (WI.out).mono ?_
              rintro e w7 ⟨⟨⟨p1, p2, p3⟩, rfl, hfr5⟩, hb7⟩
              have O7 := Lib.hid (X0.out.below hb7)
              have RA := Lib.hid (O7.out.at_.filed (f' := (p1, p2, p3)) (fs := modM M.files q1 fun f => f.more ((tx.data.toList.take k).map byteM)) (files_mod HL.out hql (fun f => f.more ((tx.data.toList.take k).map byteM)) _) hfr5)
              clear hb7 X0 b0 b1 b2 b3 b4 b5 b6 b7 b8 bl WI hfr5 fl0 fl1 fll
              obtain ⟨b0, b1, b2, b3, b4, b5, b6, b7, b8⟩ := cells9 O7.out.cells
              have bl := O7.out.c0.lt
              have g0 := O7.out.c0.frozen 0
              have g1 := O7.out.c0.frozen 1
              have g2 := O7.out.c0.frozen 2
              have g3 := O7.out.c0.frozen 3
              have g4 := O7.out.c0.frozen 4
              have g5 := O7.out.c0.frozen 5
              have g6 := O7.out.c0.frozen 6
              have g7 := O7.out.c0.frozen 7
              have g8 := O7.out.c0.frozen 8
              try dsimp only
              have O7s := Lib.hid (O7.out.set RA.out)
              clear O7
              clear RA
              have FIN0 : wroteM M q1 z tx k = didM { partM M k false with files := modM M.files q1 fun f => f.more ((tx.data.toList.take k).map byteM) } ⟨2, z, ⟨#[]⟩, tx.extract 0 k, 0⟩ := by
                have hp1 : 0 < k := by omega
                unfold wroteM partM didM; simp [hgone.out, hlt, hp1]
              have FIN := Lib.hid FIN0
              clear FIN0
              have hbad := HBAD.out
              rw [if_neg hlt] at hbad
              subst hbad
              go_upto_region 17 with fail
              obtain ⟨W9, hW9⟩ : ∃ W, setBox w7 w.heap.size (.int .i64 (partM M k false).room) (.slice p1 p2 p3) (.slice s1 s2 s3) (.slice m1 m2 m3) (.int .i64 (partM M k false).units) (.int .i64 (partM M k false).left) (.bool (partM M k false).armed) (.bool (partM M k false).gone) (.slice a1 a2 a3) = W := ⟨_, rfl⟩
              have P := O7s.out
              try dsimp only at P
              rw [hW9] at P
              unfold setBox at hW9
              rw [hW9]
              have P := Lib.hid P.drew
              clear hW9 O7s b0 b1 b2 b3 b4 b5 b6 b7 b8 bl g0 g1 g2 g3 g4 g5 g6 g7 g8
              refine wp_region_any (by kernel_rfl) ?_
              refine Vm.region_wr17 _ W9.drew w.heap.size k (partM M k false).room (partM M k false).units (partM M k false).left (partM M k false).armed (partM M k false).gone p2 p3 s2 s3 m2 m3 a2 a3 p1 s1 m1 a1 z tx _ rfl rfl rfl rfl rfl ?hD (by omega) ?hQ
              case hD => exact fun W hb => cells9 (P.out.below hb).cells
              case hQ =>
                intro y0 y1 y2 y3 y4 y5 W4 hb4 hy0 hy5
                try dsimp only at hy0 hy5
                subst hy0 hy5
                have Q4 := Lib.hid (P.out.below hb4)
                clear P hb4
                simp only [List.foldl, List.setIfInBounds_toArray, List.set_cons_zero, List.set_cons_succ]
                obtain ⟨b0, b1, b2, b3, b4, b5, b6, b7, b8⟩ := cells9 Q4.out.cells
                have bl := Q4.out.c0.lt
                have g0 := Q4.out.c0.frozen 0
                have g1 := Q4.out.c0.frozen 1
                have g2 := Q4.out.c0.frozen 2
                have g3 := Q4.out.c0.frozen 3
                have g4 := Q4.out.c0.frozen 4
                have g5 := Q4.out.c0.frozen 5
                have g6 := Q4.out.c0.frozen 6
                have g7 := Q4.out.c0.frozen 7
                have g8 := Q4.out.c0.frozen 8
                go_wp2_with fail
                refine (DI.out (p1, p2, p3) _ Q4.out.at_.acts FH.out.acts).mono ?_
                rintro e w9 ⟨⟨db, dc, rfl, down⟩, hb9⟩
                have O9 := Lib.hid (Q4.out.below hb9)
                have R2 := Lib.hid ((O9.out.at_).did (x := ⟨2, z, ⟨#[]⟩, tx.extract 0 k, 0⟩) (a' := slT db (M.acts.length + 1) dc) (by rw [snoc_len]; exact down))
                clear hb9 Q4 b0 b1 b2 b3 b4 b5 b6 b7 b8 bl g0 g1 g2 g3 g4 g5 g6 g7 g8 down DI
                obtain ⟨b0, b1, b2, b3, b4, b5, b6, b7, b8⟩ := cells9 O9.out.cells
                have bl := O9.out.c0.lt
                have g0 := O9.out.c0.frozen 0
                have g1 := O9.out.c0.frozen 1
                have g2 := O9.out.c0.frozen 2
                have g3 := O9.out.c0.frozen 3
                have g4 := O9.out.c0.frozen 4
                have g5 := O9.out.c0.frozen 5
                have g6 := O9.out.c0.frozen 6
                have g7 := O9.out.c0.frozen 7
                have g8 := O9.out.c0.frozen 8
                obtain ⟨x0, x1, x2, x3, x4, x5, x6, x7, x8, xl, y0, y1, y2, y3, y4, y5, y6, y7, y8⟩ := Box9.of O9.out.c1
                have O9s := Lib.hid (O9.out.set R2.out)
                clear O9
                clear R2
                go_wp2
                refine bodyPost_ret (ret_box rfl _ _ (w.heap.size + 1) _ rfl (setBox_to O9s.out.c1 _ _ _ _ _ _ _ _ _) rfl) rfl ?_
                rw [FIN.out]
                exact O9s.out.res _
  · simp only [ne_eq, h0, not_false_eq_true, if_true, if_false] at A ⊢
    have hne : ((q2 : Int) == 0) = false := by rw [beq_eq_false_iff_ne]; omega
    clear h hF hlt hq FR
    unfold slices refA at A ⊢
    go_enter Try.func30, Try.ntmps30
    go_wp2_with fail
    refine (A.out _ O.out.bel).mono ?_
    rintro e w1 ⟨rfl, hb1⟩
    have O1 := Lib.hid (O.out.below hb1)
    clear hb1 O  A
    obtain ⟨b0, b1, b2, b3, b4, b5, b6, b7, b8⟩ := cells9 O1.out.cells
    have bl := O1.out.c0.lt
    obtain ⟨x0, x1, x2, x3, x4, x5, x6, x7, x8, xl, y0, y1, y2, y3, y4, y5, y6, y7, y8⟩ := Box9.of O1.out.c1
    go_wp2
    refine bodyPost_ret (ret_box rfl _ _ (w.heap.size + 1) _ rfl (setBox_to O1.out.c1 _ _ _ _ _ _ _ _ _) rfl) rfl ?_
    exact O1.out.res _
end Go.Proofs.Ytembondddgfpcaa

