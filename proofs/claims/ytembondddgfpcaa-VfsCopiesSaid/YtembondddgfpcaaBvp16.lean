/- Texts put together: YJ, YK, ZM, XT, XU, XW. -/
import Derived.WideShapes
import Derived.Deep.DeepCutAuto
import Derived.Test.YtembondddgfpcaaBvp15
set_option linter.unusedVariables false
namespace Go.Proofs.Ytembondddgfpcaa
open Go.RowKit Go.Maps
attribute [local go_sem] errV_0

/-- The disk of the law, in the midst of it. -/
structure SyAt (w1 wr : World) (T1 : Nat → Nat) (p k : Nat) (all : ByteArray) (s : Nat) : Prop where
  ex : ∃ (u : Int) (x : FileA) (acts : List ActA) (T : Nat → Nat), DiskAt wr T p (ua u 1099511627776 dirF [] [x] acts) ∧ Sy all.data.toList s x ∧ Fine (10 + 500 * k) (ua u 1099511627776 dirF [] [x] acts) ∧ Step w1 T1 wr T
  size : all.size ≤ 200 * k
theorem SyAt.below {w1 wr w' : World} {T1 : Nat → Nat} {p k : Nat} {all : ByteArray} {s : Nat} (h : SyAt w1 wr T1 p k all s) (hb : Below wr.heap.size wr w') : SyAt w1 w' T1 p k all s := by
  obtain ⟨⟨u, x, acts, T, hd, hs, hf, ht⟩, hz⟩ := h
  exact ⟨⟨u, x, acts, T, hd.below hb, hs, hf, ht.trans (Step.below hb)⟩, hz⟩
theorem SyAt.write {w1 wr w2 : World} {T1 : Nat → Nat} {p k : Nat} {all : ByteArray} {s : Nat} (h : SyAt w1 wr T1 p k all s) (hb : Below wr.heap.size wr w2) (hk : k ≤ 61) (t : ByteArray) (ht : t.size ≤ 200) :
    Calls Try.prog 16 #[.pointer (some ⟨p, 0, none⟩), .string ⟨#[102]⟩, .string t] w2 fun e w' => e = .returned .nilIface ∧ SyAt w1 w' T1 p (k + 1) (all ++ t) s ∧ ∀ r, wr.heap.size ≤ r → r < w2.heap.size → w'.heap[r]? = w2.heap[r]? := by
  obtain ⟨⟨u, x, acts, T, hd0, hs, hf, hst0⟩, hz⟩ := h
  have hd := hd0.below hb
  have hst := hst0.trans (Step.below hb)
  have hal : all.data.toList.length = all.size := (Lib.size_eq all).symm
  obtain ⟨a', E⟩ := sy_write hs u 1099511627776 acts t (by omega)
  refine (write_to nmF t E hd hf (by omega) (by decide) (by omega)).mono ?_
  rintro e w' ⟨rfl, T', hd', hs'⟩
  have hf' := write_fine hf nmF t
  rw [E] at hf'
  have hda : (all ++ t).data.toList = all.data.toList ++ t.data.toList := by rw [ByteArray.data_append, Array.toList_append]
  refine ⟨rfl, ⟨⟨_, _, a', T', hd', ?_, hf'.mono (by omega), hst.trans hs'⟩, ?_⟩, fun r hr hr2 => hs'.only.same r hr2 (fun hn => by have := hd0.low r hn; omega)⟩
  · rw [hda]; exact hs.more nmF t
  · rw [Lib.size_eq, hda, List.length_append, hal, ← Lib.size_eq]; omega
theorem SyAt.sync {w1 wr : World} {T1 : Nat → Nat} {p k : Nat} {all : ByteArray} {s : Nat} (h : SyAt w1 wr T1 p k all s) (hk : k ≤ 61) :
    Calls Try.prog 18 #[.pointer (some ⟨p, 0, none⟩), .string ⟨#[102]⟩] wr fun e w' => e = .returned .nilIface ∧ SyAt w1 w' T1 p (k + 1) all all.size := by
  obtain ⟨⟨u, x, acts, T, hd, hs, hf, hst⟩, hz⟩ := h
  have E := sy_sync u 1099511627776 acts x
  refine (sync_to nmF E hd hf (by omega) (by decide)).mono ?_
  rintro e w' ⟨rfl, T', hd', hs'⟩
  have hf' := sync_fine hf nmF
  rw [E] at hf'
  have := hs.kept (hf.files x (by simp [ua])) (by omega)
  rw [← Lib.size_eq] at this
  exact ⟨rfl, ⟨⟨_, _, _, T', hd', this, hf'.mono (by omega), hst.trans hs'⟩, by omega⟩⟩

/-- Behind the crash. -/
structure SyEnd (w1 wr : World) (T1 : Nat → Nat) (p : Nat) (out : ByteArray) : Prop where
  ex : ∃ (D : ADisk) (T : Nat → Nat), DiskAt wr T p D ∧ Fine 40000 D ∧ Step w1 T1 wr T ∧ readR D nmF = (out, 0) ∧ freeD D = max (1099511627776 - (out.size : Int)) 0
theorem SyAt.crash {w1 wr : World} {T1 : Nat → Nat} {p k : Nat} {all : ByteArray} {s : Nat} (h : SyAt w1 wr T1 p k all s) (hk : k ≤ 61) (keep : Int) (hw : (Lit.int .i64 keep).wf = true) :
    Calls Try.prog 12 #[.pointer (some ⟨p, 0, none⟩), .int .i64 0, .slice (some ⟨wr.heap.size, 0, none⟩) 1 1] (wr.alloc (.cells #[.int .i64 keep] 3)) fun e w' => e = .returned (.tuple #[]) ∧
      SyEnd w1 w' T1 p (all.extract 0 (s + (max 0 (min keep ((all.size : Int) - (s : Int)))).toNat)) := by
  obtain ⟨⟨u, x, acts, T, hd, hs, hf, hst⟩, hz⟩ := h
  have hb : Below wr.heap.size wr (wr.alloc (.cells #[.int .i64 keep] 3)) := (Below.refl _ wr).alloc (Nat.le_refl _) _
  refine (crash_any (hd.below hb) hf (by omega) 0 (by decide) [keep] (some ⟨wr.heap.size, 0, none⟩) ⟨wr.heap.size, 0, none⟩ 1 (fun _ => rfl) (fun w' ho => ints1 keep 3 hd.low ho) (by simpa using hw) (by simp)).mono ?_
  rintro e w' ⟨rfl, T', hd', hs'⟩
  have hf' := crash_fine hf 0 [keep]
  rw [sy_crash] at hd' hf'
  have hc := hs.crashed keep
  have hal : all.data.toList.length = all.size := (Lib.size_eq all).symm
  rw [hal] at hc
  have hout : (⟨(x.kept keep).seen.toArray⟩ : ByteArray) = all.extract 0 (s + (max 0 (min keep ((all.size : Int) - (s : Int)))).toNat) := by
    rw [hc, ← extract_take, Lib.mk_data]
  refine ⟨rfl, ⟨_, T', hd', hf'.mono (by omega), (hst.trans (Step.below hb)).trans hs', by rw [sy_read, hout], ?_⟩⟩
  rw [sy_free, ← hout, Lib.size_eq]

end Go.Proofs.Ytembondddgfpcaa

namespace Go.Proofs.Ytembondddgfpcaa
open Go.RowKit Go.Maps Go.ChangeShapes Go.Joins Go.WideShapes
set_option maxRecDepth 100000 in
/-- The slice of operations that came in. -/
theorem script_of {H : Type} {enc : TypeId × Value → H} {v : Value} {d : DataW H} {p : List MemPlace} {W : World} {b0 : Nat} (hval : Value.okWide Try.prog W .any b0 22 v) {base : Nat} {sp : Nat → Bool} {held : Bool} (h : DataW.Trod enc Try.prog W base sp held 22 v d p) :
    ∃ ops a, Script W v ops a := by
  obtain ⟨n, hn⟩ := h
  obtain ⟨ao, len, cap, rfl⟩ := okWide_slice Try.underlying22 hval
  exact script_in (v := .slice ao len cap) hn
end Go.Proofs.Ytembondddgfpcaa

namespace Go.Proofs.Ytembondddgfpcaa
open Go.RowKit Go.Maps

attribute [local go_sem] errV_0
end Go.Proofs.Ytembondddgfpcaa

namespace Go.Proofs.Ytembondddgfpcaa
open Go.RowKit Go.Maps

/-- No type of the program's disk's blocks. -/
def NotV (t : TypeId) : Prop := t ≠ 71 ∧ t ≠ 107 ∧ t ≠ 96 ∧ t ≠ 89
instance (t : TypeId) : Decidable (NotV t) := by unfold NotV; infer_instance
/-- The disk's own blocks. -/
def blocksOf (p : Nat) (V : Vals) : List (Option Nat) := some p :: mapBlock V.v5 :: mapBlock V.v6 :: V.v7.ownBlock :: V.v8.ownBlock :: V.v9.ownBlock :: V.fvs.map Value.ownBlock
def trimT (T : Nat → Nat) (p : Nat) (V : Vals) : Nat → Nat := fun b => if some b ∈ blocksOf p V then T b else 0
theorem trimT_tag {T : Nat → Nat} {p : Nat} {V : Vals} {o : Option Nat} {k : Nat} (h : tagged T o k) (ho : o ∈ blocksOf p V) : tagged (trimT T p V) o k := by
  intro b hb
  unfold trimT
  rw [if_pos (by rw [← hb]; exact ho)]
  exact h b hb
theorem DiskV.trim {w : World} {T : Nat → Nat} {p : Nat} {D : ADisk} {V : Vals} (h : DiskV w T p D V) : DiskV w (trimT T p V) p D V := by
  refine ⟨h.cells, ?_, h.m5, trimT_tag h.t5 (by simp [blocksOf]), h.m6, trimT_tag h.t6 (by simp [blocksOf]), h.nil56, h.nilw, h.r7, trimT_tag h.t7 (by simp [blocksOf]), h.r8, trimT_tag h.t8 (by simp [blocksOf]), h.r9, trimT_tag h.t9 (by simp [blocksOf]), h.nf, fun i h1 h2 => ⟨(h.rf i h1 h2).1, trimT_tag (h.rf i h1 h2).2 ?_⟩, fun b hb => h.low b ?_⟩
  · unfold trimT; rw [if_pos (by simp [blocksOf])]; exact h.tp
  · unfold blocksOf
    simp only [List.mem_cons, List.mem_map]
    exact .inr (.inr (.inr (.inr (.inr (.inr ⟨_, List.getElem_mem h2, rfl⟩)))))
  · unfold trimT at hb
    split at hb
    · exact hb
    · exact absurd rfl hb
theorem row_obj {w : World} {lo n size b : Nat} {e : TypeId} {v : Value} {xs : List Value} (h : w.ownsRow lo e size v n xs) (hb : v.ownBlock = some b) : ∃ c, w.heap[b]? = some (.cells c e (0, 0)) := by
  rcases h.2 with ⟨q, _⟩ | ⟨g, cap, c, q, _, hg, _⟩
  · rw [q] at hb; cases hb
  · rw [q] at hb
    have e : g = b := by injection hb
    subst e
    exact ⟨c, hg⟩
theorem map_obj {w : World} {n b : Nat} {v : Value} {l : Dir} (h : MapAt w n v l) (hb : mapBlock v = some b) : ∃ es clock, w.heap[b]? = some (.map es clock) := by
  rcases h with ⟨q, _⟩ | ⟨b', q, es, clock, hh, _⟩
  · rw [q] at hb; cases hb
  · rw [q] at hb
    have e : b' = b := by injection hb
    subst e
    exact ⟨es, clock, hh⟩
/-- The disk's blocks are of its own types. -/
theorem DiskV.types {w : World} {T : Nat → Nat} {p : Nat} {D : ADisk} {V : Vals} (h : DiskV w T p D V) {b : Nat} (hb : some b ∈ blocksOf p V) {c : Array Value} {t : TypeId} {fr : Nat × Nat} (ho : w.heap[b]? = some (Obj.cells c t fr)) : ¬ NotV t := by
  intro hn
  have fin : ∀ {c' : Array Value} {t' : TypeId} {fr' : Nat × Nat}, w.heap[b]? = some (.cells c' t' fr') → t' = t := fun h' => by
    rw [ho] at h'; injection h' with h'; injection h' with _ h' _; exact h'.symm
  have mp : ∀ {es clock}, w.heap[b]? = some (.map es clock) → False := fun h' => by rw [ho] at h'; injection h' with h'; cases h'
  unfold blocksOf at hb
  simp only [List.mem_cons, List.mem_map] at hb
  rcases hb with hb | hb | hb | hb | hb | hb | ⟨v, hv, hb⟩
  · have e : b = p := by injection hb
    subst e
    exact hn.1 (fin (show w.heap[b]? = _ from h.cells)).symm
  · obtain ⟨_, _, hh⟩ := map_obj h.m5 hb.symm; exact mp hh
  · obtain ⟨_, _, hh⟩ := map_obj h.m6 hb.symm; exact mp hh
  · obtain ⟨_, hh⟩ := row_obj h.r7 hb.symm; exact hn.2.1 (fin hh).symm
  · obtain ⟨_, hh⟩ := row_obj h.r8 hb.symm; exact hn.2.2.1 (fin hh).symm
  · obtain ⟨_, hh⟩ := row_obj h.r9 hb.symm; exact hn.2.2.2 (fin hh).symm
  · obtain ⟨i, hi, rfl⟩ := List.getElem_of_mem hv
    obtain ⟨_, hh⟩ := row_obj (h.rf i (by rw [← h.nf]; exact hi) hi).1 hb; exact hn.2.2.2 (fin hh).symm
/-- A disk whose blocks lie at or above L. -/
def DiskO (L : Nat) (w : World) (p : Nat) (D : ADisk) : Prop := ∃ T, DiskAt w T p D ∧ ∀ b, T b ≠ 0 → L ≤ b
theorem DiskO.below {L : Nat} {w w' : World} {p : Nat} {D : ADisk} (h : DiskO L w p D) (hb : Below w.heap.size w w') : DiskO L w' p D := by
  obtain ⟨T, h1, h2⟩ := h; exact ⟨T, h1.below hb, h2⟩
/-- What lies below L lies as it lay, and so does each block that is of no type of the disk's. -/
structure Keeps (L : Nat) (w w' : World) : Prop where
  bel : Below L w w'
  rest : ∀ (b : Nat) (c : Array Value) (t : TypeId) (fr : Nat × Nat), w.heap[b]? = some (Obj.cells c t fr) → NotV t → w'.heap[b]? = w.heap[b]?
theorem Keeps.refl (L : Nat) (w : World) : Keeps L w w := ⟨Below.refl _ _, fun _ _ _ _ _ _ => rfl⟩
theorem Keeps.trans {L : Nat} {w w1 w2 : World} (h : Keeps L w w1) (g : Keeps L w1 w2) : Keeps L w w2 :=
  ⟨h.bel.trans g.bel, fun b c t fr ho hn => by
    have h1 := h.rest b c t fr ho hn
    exact (g.rest b c t fr (h1.trans ho) hn).trans h1⟩
theorem Keeps.of_below {L : Nat} {w w' : World} (h : Below w.heap.size w w') (hL : L ≤ w.heap.size) : Keeps L w w' :=
  ⟨h.mono hL, fun b c t fr ho _ => h.block b (Array.getElem?_eq_some_iff.1 ho).1⟩
theorem Keeps.then_ {L : Nat} {w w1 w2 : World} (h : Keeps L w w1) (g : Below w1.heap.size w1 w2) (hL : L ≤ w.heap.size) : Keeps L w w2 := h.trans (Keeps.of_below g (Nat.le_trans hL h.bel.size))
theorem Keeps.cells {L : Nat} {w w' : World} (h : Keeps L w w') {b : Nat} {t : TypeId} {cur : Array Value} (hc : Cells w b t cur) (ht : NotV t) : Cells w' b t cur := (h.rest b cur t (0, 0) hc ht).trans hc
theorem Keeps.row {L : Nat} {w w' : World} (h : Keeps L w w') {lo n size : Nat} {e : TypeId} {v : Value} {xs : List Value} (hr : w.ownsRow lo e size v n xs) (he : NotV e) : w'.ownsRow lo e size v n xs :=
  row_same hr fun b hb => by
    obtain ⟨c, hc⟩ := row_obj hr hb
    exact h.rest b c e (0, 0) hc he
theorem RefAt.keeps {L : Nat} {w w' : World} {M : RefM} {f s m a : Tri} (h : RefAt w M f s m a) (hk : Keeps L w w') : RefAt w' M f s m a := by
  obtain ⟨l, e, h1, h2⟩ := h.files
  exact ⟨⟨l, e, hk.row h1 (by decide), fun p hp => hk.row (h2 p hp) (by decide)⟩, hk.row h.sure (by decide), hk.row h.moves (by decide), hk.row h.acts (by decide)⟩
theorem DiskO.trim {L : Nat} {w : World} {p : Nat} {D : ADisk} (h : DiskO L w p D) : ∃ T, DiskAt w T p D ∧ (∀ b, T b ≠ 0 → L ≤ b) ∧ ∀ (b : Nat) (c : Array Value) (t : TypeId) (fr : Nat × Nat), w.heap[b]? = some (Obj.cells c t fr) → NotV t → T b = 0 := by
  obtain ⟨T, ⟨V, hV⟩, h2⟩ := h
  refine ⟨trimT T p V, ⟨V, hV.trim⟩, fun b hb => h2 b ?_, fun b c t fr ho hn => ?_⟩
  · unfold trimT at hb
    split at hb
    · exact hb
    · exact absurd rfl hb
  · unfold trimT
    split
    · rename_i hm; exact absurd hn (hV.types hm ho)
    · rfl
theorem Keeps.of_step {L : Nat} {w w' : World} {T T' : Nat → Nat} (hs : Step w T w' T') (hL : L ≤ w.heap.size) (h1 : ∀ b, T b ≠ 0 → L ≤ b) (h2 : ∀ (b : Nat) (c : Array Value) (t : TypeId) (fr : Nat × Nat), w.heap[b]? = some (Obj.cells c t fr) → NotV t → T b = 0) : Keeps L w w' :=
  ⟨hs.only.to_below hL (fun r hr hn => by have := h1 r hn; omega), fun b c t fr ho hn => hs.only.same b (Array.getElem?_eq_some_iff.1 ho).1 (fun h => h (h2 b c t fr ho hn))⟩
/-- A call of the program that turns its disk alone. -/
theorem lift_op {L : Nat} {w : World} {p F : Nat} {args : Array Value} {D D' : ADisk} {E : Ending} (hO : DiskO L w p D) (hL : L ≤ w.heap.size)
    (hC : ∀ T, DiskAt w T p D → (∀ b, T b ≠ 0 → L ≤ b) → (∀ (b : Nat) (c : Array Value) (t : TypeId) (fr : Nat × Nat), w.heap[b]? = some (Obj.cells c t fr) → NotV t → T b = 0) → Calls Try.prog F args w fun e w' => e = E ∧ ∃ T', DiskAt w' T' p D' ∧ Step w T w' T') :
    Calls Try.prog F args w fun e w' => e = E ∧ DiskO L w' p D' ∧ Keeps L w w' := by
  obtain ⟨T, h1, h2, h3⟩ := hO.trim
  refine (hC T h1 h2 h3).mono ?_
  rintro e w' ⟨rfl, T', hd, hs⟩
  refine ⟨rfl, ⟨T', hd, fun b hb => ?_⟩, Keeps.of_step hs hL h2 h3⟩
  rcases Nat.lt_or_ge b w.heap.size with h | h
  · rw [hs.old b h] at hb; exact h2 b hb
  · omega
/-- The two disks side by side. -/
structure Pr (L n p : Nat) (w : World) (D : ADisk) (M : RefM) (f s m a : Tri) : Prop where
  disk : DiskO L w p D
  ref : RefAt w M f s m a
  ties : Ties D M
  fine : Fine n D
  tidy : Tidy D
  left : InL M.left
theorem Pr.below {L n p : Nat} {w w' : World} {D : ADisk} {M : RefM} {f s m a : Tri} (h : Pr L n p w D M f s m a) (hb : Below w.heap.size w w') : Pr L n p w' D M f s m a :=
  ⟨h.disk.below hb, h.ref.below hb (Nat.le_refl _), h.ties, h.fine, h.tidy, h.left⟩
theorem Pr.fit {L n p : Nat} {w : World} {D : ADisk} {M : RefM} {f s m a : Tri} (h : Pr L n p w D M f s m a) (hn : n ≤ 90000) : Fit' M :=
  ⟨h.ties.fit h.fine (by omega) h.tidy h.left, by rw [h.ties.waits]; have := h.fine.dirs; omega, by rw [h.ties.acts]; have := h.fine.nacts; omega, by rw [h.ties.files, List.length_map]; have := h.fine.nfiles; omega⟩
theorem Pr.manyWaits {L n p : Nat} {w : World} {D : ADisk} {M : RefM} {f s m a : Tri} (h : Pr L n p w D M f s m a) (hn : n ≤ 90000) : ∀ x ∈ M.files, x.waits.length ≤ 100000 := by
  intro x hx
  rw [h.ties.files] at hx
  obtain ⟨g, hg, rfl⟩ := List.mem_map.1 hx
  show (g.waits.flatMap waitsOf).length ≤ _
  rw [waits_length]
  have := (h.fine.files g hg).units
  omega
end Go.Proofs.Ytembondddgfpcaa

namespace Go.Proofs.Ytembondddgfpcaa
open Go.RowKit Go.Maps
attribute [local go_sem] World.cell?_alloc_some

theorem DiskO.box {L : Nat} {w : World} {p : Nat} {D : ADisk} (h : DiskO L w p D) {b : Nat} {t : TypeId} {cur : Array Value} (hc : Cells w b t cur) (ht : NotV t) (v0 v1 v2 v3 v4 v5 v6 v7 v8 : Value) : DiskO L (setBox w b v0 v1 v2 v3 v4 v5 v6 v7 v8) p D := by
  obtain ⟨T, h1, h2, h3⟩ := h.trim
  exact ⟨T, setBox_disk h1 (h3 b cur t (0, 0) hc ht) _ _ _ _ _ _ _ _ _, h2⟩
theorem Keeps.box {L : Nat} {w w' : World} (h : Keeps L w w') {b : Nat} (hb : w.heap.size ≤ b) (hL : L ≤ w.heap.size) (v0 v1 v2 v3 v4 v5 v6 v7 v8 : Value) : Keeps L w (setBox w' b v0 v1 v2 v3 v4 v5 v6 v7 v8) := by
  refine ⟨setBox_below h.bel (Nat.le_trans hL hb) _ _ _ _ _ _ _ _ _, fun b' c t fr ho hn => ?_⟩
  have hlt : b' < w.heap.size := (Array.getElem?_eq_some_iff.1 ho).1
  have := (setBox_below (Below.refl w.heap.size w') hb v0 v1 v2 v3 v4 v5 v6 v7 v8).block b' hlt
  exact this.trans (h.rest b' c t fr ho hn)
/-- What do comes to: both disks have gone alike. -/
def DoG (L n p : Nat) (w : World) (D : ADisk) (M : RefM) (e : Ending) (w' : World) : Prop :=
  ∃ f s m a : Tri, e = .returned (.tuple #[slices f s m a M.room M.units M.left M.armed M.gone, .bool true]) ∧ Pr L n p w' D M f s m a ∧ Keeps L w w'
theorem arm_fine {n : Nat} {D : ADisk} (h : Fine n D) (k : Int) (hk : k ≤ 9223372036854775807) : Fine n (armD D k).1 := by
  unfold armD
  split
  · exact h
  · exact ⟨h.u0, h.u1, by show 0 ≤ k; omega, hk, h.r0, h.r1, h.dirs, h.nfiles, h.nacts, h.files, h.changes, h.names⟩
theorem do_boxes {w : World} {M : RefM} {f s m a : Tri} (kind k : Int) (name text : ByteArray) (ao : Option Addr) (l c : Nat) :
    let W := ((w.alloc (.cells (curM M f s m a) 37)).alloc (.cells #[.int .i64 kind, .int .i64 k, .string name, .string text, .slice ao l c] 40)).alloc (.cells rows9 37)
    Below w.heap.size w W ∧ Cells W w.heap.size 37 (curM M f s m a) ∧ Cells W (w.heap.size + 1) 40 #[.int .i64 kind, .int .i64 k, .string name, .string text, .slice ao l c] ∧ Cells W (w.heap.size + 1 + 1) 37 rows9 := by
  intro W
  have C5 := (Cells.new (w.alloc (.cells (curM M f s m a) 37)) 40 #[.int .i64 kind, .int .i64 k, .string name, .string text, .slice ao l c]).alloc (.cells rows9 37)
  have C6 := Cells.new ((w.alloc (.cells (curM M f s m a) 37)).alloc (.cells #[.int .i64 kind, .int .i64 k, .string name, .string text, .slice ao l c] 40)) 37 rows9
  simp only [World.size_alloc] at C5 C6
  exact ⟨(((Below.refl _ w).alloc (Nat.le_refl _) _).alloc (by simp) _).alloc (by simp <;> omega) _, ((Cells.new w _ _).alloc _).alloc _, C5, C6⟩
set_option maxRecDepth 100000 in
set_option maxHeartbeats 8000000 in
theorem do2_create {L n p : Nat} {w : World} {D : ADisk} {M : RefM} {f s m a : Tri} (hP : Pr L n p w D M f s m a) (hn : n ≤ 80000) (hL : L ≤ w.heap.size) (k : Int) (name text : ByteArray) (ao : Option Addr) (l c : Nat) (hnm : name.size ≤ 100) (htx : text.size ≤ 200) (hk1 : -9223372036854775808 ≤ k) (hk2 : k ≤ 9223372036854775807) :
    Calls Try.prog 9 #[.pointer (some ⟨p, 0, none⟩), slices f s m a M.room M.units M.left M.armed M.gone, opV 1 k name text ao l c] w (DoG L (n + 402) p w (createD D name).1 (createM M name).1) := by
  have hl0 := hP.fine.l0
  have FIT := hP.fit (by omega)
  have HMW := hP.manyWaits (by omega)
  obtain ⟨B3, C4, C5, C6⟩ := do_boxes (w := w) (M := M) (f := f) (s := s) (m := m) (a := a) 1 k name text ao l c
  obtain ⟨W1, hW1⟩ : ∃ W, ((w.alloc (.cells (curM M f s m a) 37)).alloc (.cells #[.int .i64 1, .int .i64 k, .string name, .string text, .slice ao l c] 40)).alloc (.cells rows9 37) = W := ⟨_, rfl⟩
  rw [hW1] at B3 C4 C5 C6
  have hP1 := hP.below B3
  have hL1 : L ≤ W1.heap.size := Nat.le_trans hL B3.size
  have PC := Lib.hid (lift_op hP1.disk hL1 (fun T hA _ _ => create_any hA hP.fine (by omega) name (by omega)))
  have RC := Lib.hid (fun (W : World) (HR : RefAt W M f s m a) => refcreate_any FIT name (by omega) W HR)
  obtain ⟨ht, hen⟩ := Ties.create hP.ties hl0 name
  have hle : (createD D name).2 ≤ 12 := by
    unfold createD; split; exact ready_le D.gone [name]; split; exact le12 (by decide); split <;> exact le12 (by decide)
  have FI := Lib.hid (show Fine (n + 402) (createD D name).1 from (create_fine hP.fine name (by omega)).mono (by omega))
  have TY := Lib.hid (show Tidy (createD D name).1 from hP.tidy.of (createD_sure D name))
  have LF := Lib.hid (show InL (createM M name).1.left from createM_left hP.left name)
  have HT := Lib.hid ht
  have H1 := Lib.hid hP1.ref
  have HB := Lib.hid B3
  have H4 := Lib.hid C4
  have H5 := Lib.hid C5
  have H6 := Lib.hid C6
  have HL := Lib.hid hL1
  rw [hen] at RC
  clear ht hen FIT HMW hP hP1 hl0 B3 hL1
  generalize (createD D name) = DD at *
  generalize (createM M name) = MM at *
  obtain ⟨D', en⟩ := DD
  obtain ⟨M', bad⟩ := MM
  dsimp only at *
  obtain ⟨f1, f2, f3⟩ := f
  obtain ⟨s1, s2, s3⟩ := s
  obtain ⟨m1, m2, m3⟩ := m
  obtain ⟨a1, a2, a3⟩ := a
  unfold opV slices refA
  unfold curM rows9 at hW1
  dsimp only at hW1 ⊢
  obtain ⟨q0, q1, q2, q3, q4⟩ : W1.cell? ⟨w.heap.size + 1, 0, none⟩ = some (.int .i64 1) ∧ W1.cell? ⟨w.heap.size + 1, 1, none⟩ = some (.int .i64 k) ∧ W1.cell? ⟨w.heap.size + 1, 2, none⟩ = some (.string name) ∧ W1.cell? ⟨w.heap.size + 1, 3, none⟩ = some (.string text) ∧ W1.cell? ⟨w.heap.size + 1, 4, none⟩ = some (.slice ao l c) := ⟨C5.cell 0, C5.cell 1, C5.cell 2, C5.cell 3, C5.cell 4⟩
  have q5 := C5.lt
  clear C4 C5 C6
  go_enter Try.func9, Try.ntmps9
  go_wp2_with fail
  refine PC.out.mono ?_
  clear PC q0 q1 q2 q3 q4 q5 hW1
  rintro e w2 ⟨rfl, hd2, hk2'⟩
  have K5 := hk2'.cells H5.out (by decide)
  have K4 := hk2'.cells H4.out (by decide)
  unfold curM at K4
  dsimp only at K4
  obtain ⟨b0, b1, b2, b3, b4, b5, b6, b7, b8⟩ := cells9 K4
  have bl := K4.lt
  obtain ⟨q0, q1, q2, q3, q4⟩ : w2.cell? ⟨w.heap.size + 1, 0, none⟩ = some (.int .i64 1) ∧ w2.cell? ⟨w.heap.size + 1, 1, none⟩ = some (.int .i64 k) ∧ w2.cell? ⟨w.heap.size + 1, 2, none⟩ = some (.string name) ∧ w2.cell? ⟨w.heap.size + 1, 3, none⟩ = some (.string text) ∧ w2.cell? ⟨w.heap.size + 1, 4, none⟩ = some (.slice ao l c) := ⟨K5.cell 0, K5.cell 1, K5.cell 2, K5.cell 3, K5.cell 4⟩
  have q5 := K5.lt
  have D2 := Lib.hid hd2
  have KK := Lib.hid hk2'
  have RC2 := Lib.hid (RC.out w2 (H1.out.keeps hk2'))
  unfold slices refA at RC2
  dsimp only at RC2
  clear K4 K5 hd2 hk2' RC
  go_wp2_with fail
  refine RC2.out.mono ?_
  clear RC2 b0 b1 b2 b3 b4 b5 b6 b7 b8 bl q0 q1 q2 q3 q4 q5
  rintro e w3 ⟨⟨f1', f2', f3'⟩, ⟨s1', s2', s3'⟩, ⟨m1', m2', m3'⟩, ⟨a1', a2', a3'⟩, rfl, hr3, hb3⟩
  unfold slices refA
  dsimp only
  have K4 := (KK.out.cells H4.out (by decide)).below hb3 (KK.out.cells H4.out (by decide)).lt
  have K6 := (KK.out.cells H6.out (by decide)).below hb3 (KK.out.cells H6.out (by decide)).lt
  unfold curM at K4
  dsimp only at K4
  have D3 := Lib.hid (D2.out.below hb3)
  have KB := KK.out.bel.size
  have K3 := Lib.hid ((Keeps.of_below HB.out hL).trans (KK.out.then_ hb3 HL.out))
  have R3 := Lib.hid hr3
  have B6 := Lib.hid K6
  have B4 := Lib.hid K4
  obtain ⟨b0, b1, b2, b3, b4, b5, b6, b7, b8⟩ := cells9 K4
  have bl := K4.lt
  have g0 := K4.frozen 0; have g1 := K4.frozen 1; have g2 := K4.frozen 2; have g3 := K4.frozen 3; have g4 := K4.frozen 4; have g5 := K4.frozen 5; have g6 := K4.frozen 6; have g7 := K4.frozen 7; have g8 := K4.frozen 8
  clear K4 K6 hb3 hr3 D2 KK KB
  go_upto_region 37 with fail
  clear b0 b1 b2 b3 b4 b5 b6 b7 b8 bl g0 g1 g2 g3 g4 g5 g6 g7 g8
  have E4 := setBox_to B4.out (.int .i64 M'.room) (.slice f1' f2' f3') (.slice s1' s2' s3') (.slice m1' m2' m3') (.int .i64 M'.units) (.int .i64 M'.left) (.bool M'.armed) (.bool M'.gone) (.slice a1' a2' a3')
  have E6 := setBox_other B6.out (b := w.heap.size) (by omega) (.int .i64 M'.room) (.slice f1' f2' f3') (.slice s1' s2' s3') (.slice m1' m2' m3') (.int .i64 M'.units) (.int .i64 M'.left) (.bool M'.armed) (.bool M'.gone) (.slice a1' a2' a3')
  obtain ⟨W5, hW5⟩ : ∃ W, setBox w3 w.heap.size (.int .i64 M'.room) (.slice f1' f2' f3') (.slice s1' s2' s3') (.slice m1' m2' m3') (.int .i64 M'.units) (.int .i64 M'.left) (.bool M'.armed) (.bool M'.gone) (.slice a1' a2' a3') = W := ⟨_, rfl⟩
  rw [hW5] at E4 E6
  have HW5 := Lib.hid hW5
  unfold setBox at hW5
  rw [hW5]
  clear hW5
  obtain ⟨b0, b1, b2, b3, b4, b5, b6, b7, b8⟩ := cells9 E4
  have bl := E4.lt
  obtain ⟨x0, x1, x2, x3, x4, x5, x6, x7, x8, xl, y0, y1, y2, y3, y4, y5, y6, y7, y8⟩ := Box9.of E6
  have F6 := Lib.hid E6
  clear E4 E6
  have NU := Lib.hid (fun W => num_still en (by omega) W)
  have hqq : ((en : Int) == (en : Int)) = true := by simp
  go_region_law ((go_simp; go_at_call 28; refine (NU.out _).mono ?_; rintro e w9 ⟨rfl, rfl⟩))
  all_goals go_wp2
  all_goals
    refine bodyPost_ret (ret_box rfl _ _ (w.heap.size + 1 + 1) _ rfl (setBox_to F6.out _ _ _ _ _ _ _ _ _).drew rfl) rfl ?_
    have P5 := Pr.mk (n := n + 402) ((D3.out.box B4.out (by decide) (.int .i64 M'.room) (.slice f1' f2' f3') (.slice s1' s2' s3') (.slice m1' m2' m3') (.int .i64 M'.units) (.int .i64 M'.left) (.bool M'.armed) (.bool M'.gone) (.slice a1' a2' a3'))) (R3.out.box B4.out _ _ _ _ _ _ _ _ _) HT.out FI.out TY.out LF.out
    have K5 := K3.out.box (b := w.heap.size) (Nat.le_refl _) hL (.int .i64 M'.room) (.slice f1' f2' f3') (.slice s1' s2' s3') (.slice m1' m2' m3') (.int .i64 M'.units) (.int .i64 M'.left) (.bool M'.armed) (.bool M'.gone) (.slice a1' a2' a3')
    rw [HW5.out] at P5 K5
    have P6 := Pr.mk (n := n + 402) (P5.disk.box F6.out (by decide) (.int .i64 M'.room) (.slice f1' f2' f3') (.slice s1' s2' s3') (.slice m1' m2' m3') (.int .i64 M'.units) (.int .i64 M'.left) (.bool M'.armed) (.bool M'.gone) (.slice a1' a2' a3')) (P5.ref.box F6.out _ _ _ _ _ _ _ _ _) HT.out FI.out TY.out LF.out
    have K6 := K5.box (b := w.heap.size + 1 + 1) (by omega) hL (.int .i64 M'.room) (.slice f1' f2' f3') (.slice s1' s2' s3') (.slice m1' m2' m3') (.int .i64 M'.units) (.int .i64 M'.left) (.bool M'.armed) (.bool M'.gone) (.slice a1' a2' a3')
    exact ⟨(f1', f2', f3'), (s1', s2', s3'), (m1', m2', m3'), (a1', a2', a3'), rfl, P6.below (Below.refl _ _).drew, K6.then_ (Below.refl _ _).drew hL⟩
set_option maxRecDepth 100000 in
set_option maxHeartbeats 8000000 in
theorem do2_write {L n p : Nat} {w : World} {D : ADisk} {M : RefM} {f s m a : Tri} (hP : Pr L n p w D M f s m a) (hn : n ≤ 80000) (hL : L ≤ w.heap.size) (k : Int) (name text : ByteArray) (ao : Option Addr) (l c : Nat) (hnm : name.size ≤ 100) (htx : text.size ≤ 200) (hk1 : -9223372036854775808 ≤ k) (hk2 : k ≤ 9223372036854775807) :
    Calls Try.prog 9 #[.pointer (some ⟨p, 0, none⟩), slices f s m a M.room M.units M.left M.armed M.gone, opV 2 k name text ao l c] w (DoG L (n + 402) p w (writeD D name text).1 (writeM M name text).1) := by
  have hl0 := hP.fine.l0
  have FIT := hP.fit (by omega)
  have HMW := hP.manyWaits (by omega)
  obtain ⟨B3, C4, C5, C6⟩ := do_boxes (w := w) (M := M) (f := f) (s := s) (m := m) (a := a) 2 k name text ao l c
  obtain ⟨W1, hW1⟩ : ∃ W, ((w.alloc (.cells (curM M f s m a) 37)).alloc (.cells #[.int .i64 2, .int .i64 k, .string name, .string text, .slice ao l c] 40)).alloc (.cells rows9 37) = W := ⟨_, rfl⟩
  rw [hW1] at B3 C4 C5 C6
  have hP1 := hP.below B3
  have hL1 : L ≤ W1.heap.size := Nat.le_trans hL B3.size
  have PC := Lib.hid (lift_op hP1.disk hL1 (fun T hA _ _ => write_any hA hP.fine (by omega) name text (by omega) (by omega)))
  have RC := Lib.hid (fun (W : World) (HR : RefAt W M f s m a) => refwrite_any FIT HMW name text (by omega) W HR (by rw [hP.ties.room]; exact ⟨hP.fine.r0, hP.fine.r1⟩) (by omega) (by rw [hP.ties.units]; have := hP.fine.u1; omega))
  obtain ⟨ht, hen⟩ := Ties.write hP.ties hl0 name text
  have hle : (writeD D name text).2 ≤ 12 := by
    unfold writeD; split; exact asked_le hP.fine name []; split; exact le12 (by decide); dsimp only; split <;> decide
  have FI := Lib.hid (show Fine (n + 402) (writeD D name text).1 from (write_fine hP.fine name text).mono (by omega))
  have TY := Lib.hid (show Tidy (writeD D name text).1 from hP.tidy.of (writeD_sure D name text))
  have LF := Lib.hid (show InL (writeM M name text).1.left from writeM_left hP.left name text)
  have HT := Lib.hid ht
  have H1 := Lib.hid hP1.ref
  have HB := Lib.hid B3
  have H4 := Lib.hid C4
  have H5 := Lib.hid C5
  have H6 := Lib.hid C6
  have HL := Lib.hid hL1
  rw [hen] at RC
  clear ht hen FIT HMW hP hP1 hl0 B3 hL1
  generalize (writeD D name text) = DD at *
  generalize (writeM M name text) = MM at *
  obtain ⟨D', en⟩ := DD
  obtain ⟨M', bad⟩ := MM
  dsimp only at *
  obtain ⟨f1, f2, f3⟩ := f
  obtain ⟨s1, s2, s3⟩ := s
  obtain ⟨m1, m2, m3⟩ := m
  obtain ⟨a1, a2, a3⟩ := a
  unfold opV slices refA
  unfold curM rows9 at hW1
  dsimp only at hW1 ⊢
  obtain ⟨q0, q1, q2, q3, q4⟩ : W1.cell? ⟨w.heap.size + 1, 0, none⟩ = some (.int .i64 2) ∧ W1.cell? ⟨w.heap.size + 1, 1, none⟩ = some (.int .i64 k) ∧ W1.cell? ⟨w.heap.size + 1, 2, none⟩ = some (.string name) ∧ W1.cell? ⟨w.heap.size + 1, 3, none⟩ = some (.string text) ∧ W1.cell? ⟨w.heap.size + 1, 4, none⟩ = some (.slice ao l c) := ⟨C5.cell 0, C5.cell 1, C5.cell 2, C5.cell 3, C5.cell 4⟩
  have q5 := C5.lt
  clear C4 C5 C6
  go_enter Try.func9, Try.ntmps9
  go_wp2_with fail
  refine PC.out.mono ?_
  clear PC q0 q1 q2 q3 q4 q5 hW1
  rintro e w2 ⟨rfl, hd2, hk2'⟩
  have K5 := hk2'.cells H5.out (by decide)
  have K4 := hk2'.cells H4.out (by decide)
  unfold curM at K4
  dsimp only at K4
  obtain ⟨b0, b1, b2, b3, b4, b5, b6, b7, b8⟩ := cells9 K4
  have bl := K4.lt
  obtain ⟨q0, q1, q2, q3, q4⟩ : w2.cell? ⟨w.heap.size + 1, 0, none⟩ = some (.int .i64 2) ∧ w2.cell? ⟨w.heap.size + 1, 1, none⟩ = some (.int .i64 k) ∧ w2.cell? ⟨w.heap.size + 1, 2, none⟩ = some (.string name) ∧ w2.cell? ⟨w.heap.size + 1, 3, none⟩ = some (.string text) ∧ w2.cell? ⟨w.heap.size + 1, 4, none⟩ = some (.slice ao l c) := ⟨K5.cell 0, K5.cell 1, K5.cell 2, K5.cell 3, K5.cell 4⟩
  have q5 := K5.lt
  have D2 := Lib.hid hd2
  have KK := Lib.hid hk2'
  have RC2 := Lib.hid (RC.out w2 (H1.out.keeps hk2'))
  unfold slices refA at RC2
  dsimp only at RC2
  clear K4 K5 hd2 hk2' RC
  go_wp2_with fail
  refine RC2.out.mono ?_
  clear RC2 b0 b1 b2 b3 b4 b5 b6 b7 b8 bl q0 q1 q2 q3 q4 q5
  rintro e w3 ⟨⟨f1', f2', f3'⟩, ⟨s1', s2', s3'⟩, ⟨m1', m2', m3'⟩, ⟨a1', a2', a3'⟩, rfl, hr3, hb3⟩
  unfold slices refA
  dsimp only
  have K4 := (KK.out.cells H4.out (by decide)).below hb3 (KK.out.cells H4.out (by decide)).lt
  have K6 := (KK.out.cells H6.out (by decide)).below hb3 (KK.out.cells H6.out (by decide)).lt
  unfold curM at K4
  dsimp only at K4
  have D3 := Lib.hid (D2.out.below hb3)
  have KB := KK.out.bel.size
  have K3 := Lib.hid ((Keeps.of_below HB.out hL).trans (KK.out.then_ hb3 HL.out))
  have R3 := Lib.hid hr3
  have B6 := Lib.hid K6
  have B4 := Lib.hid K4
  obtain ⟨b0, b1, b2, b3, b4, b5, b6, b7, b8⟩ := cells9 K4
  have bl := K4.lt
  have g0 := K4.frozen 0; have g1 := K4.frozen 1; have g2 := K4.frozen 2; have g3 := K4.frozen 3; have g4 := K4.frozen 4; have g5 := K4.frozen 5; have g6 := K4.frozen 6; have g7 := K4.frozen 7; have g8 := K4.frozen 8
  clear K4 K6 hb3 hr3 D2 KK KB
  go_upto_region 37 with fail
  clear b0 b1 b2 b3 b4 b5 b6 b7 b8 bl g0 g1 g2 g3 g4 g5 g6 g7 g8
  have E4 := setBox_to B4.out (.int .i64 M'.room) (.slice f1' f2' f3') (.slice s1' s2' s3') (.slice m1' m2' m3') (.int .i64 M'.units) (.int .i64 M'.left) (.bool M'.armed) (.bool M'.gone) (.slice a1' a2' a3')
  have E6 := setBox_other B6.out (b := w.heap.size) (by omega) (.int .i64 M'.room) (.slice f1' f2' f3') (.slice s1' s2' s3') (.slice m1' m2' m3') (.int .i64 M'.units) (.int .i64 M'.left) (.bool M'.armed) (.bool M'.gone) (.slice a1' a2' a3')
  obtain ⟨W5, hW5⟩ : ∃ W, setBox w3 w.heap.size (.int .i64 M'.room) (.slice f1' f2' f3') (.slice s1' s2' s3') (.slice m1' m2' m3') (.int .i64 M'.units) (.int .i64 M'.left) (.bool M'.armed) (.bool M'.gone) (.slice a1' a2' a3') = W := ⟨_, rfl⟩
  rw [hW5] at E4 E6
  have HW5 := Lib.hid hW5
  unfold setBox at hW5
  rw [hW5]
  clear hW5
  obtain ⟨b0, b1, b2, b3, b4, b5, b6, b7, b8⟩ := cells9 E4
  have bl := E4.lt
  obtain ⟨x0, x1, x2, x3, x4, x5, x6, x7, x8, xl, y0, y1, y2, y3, y4, y5, y6, y7, y8⟩ := Box9.of E6
  have F6 := Lib.hid E6
  clear E4 E6
  have NU := Lib.hid (fun W => num_still en (by omega) W)
  have hqq : ((en : Int) == (en : Int)) = true := by simp
  go_region_law ((go_simp; go_at_call 28; refine (NU.out _).mono ?_; rintro e w9 ⟨rfl, rfl⟩))
  all_goals go_wp2
  all_goals
    refine bodyPost_ret (ret_box rfl _ _ (w.heap.size + 1 + 1) _ rfl (setBox_to F6.out _ _ _ _ _ _ _ _ _).drew rfl) rfl ?_
    have P5 := Pr.mk (n := n + 402) ((D3.out.box B4.out (by decide) (.int .i64 M'.room) (.slice f1' f2' f3') (.slice s1' s2' s3') (.slice m1' m2' m3') (.int .i64 M'.units) (.int .i64 M'.left) (.bool M'.armed) (.bool M'.gone) (.slice a1' a2' a3'))) (R3.out.box B4.out _ _ _ _ _ _ _ _ _) HT.out FI.out TY.out LF.out
    have K5 := K3.out.box (b := w.heap.size) (Nat.le_refl _) hL (.int .i64 M'.room) (.slice f1' f2' f3') (.slice s1' s2' s3') (.slice m1' m2' m3') (.int .i64 M'.units) (.int .i64 M'.left) (.bool M'.armed) (.bool M'.gone) (.slice a1' a2' a3')
    rw [HW5.out] at P5 K5
    have P6 := Pr.mk (n := n + 402) (P5.disk.box F6.out (by decide) (.int .i64 M'.room) (.slice f1' f2' f3') (.slice s1' s2' s3') (.slice m1' m2' m3') (.int .i64 M'.units) (.int .i64 M'.left) (.bool M'.armed) (.bool M'.gone) (.slice a1' a2' a3')) (P5.ref.box F6.out _ _ _ _ _ _ _ _ _) HT.out FI.out TY.out LF.out
    have K6 := K5.box (b := w.heap.size + 1 + 1) (by omega) hL (.int .i64 M'.room) (.slice f1' f2' f3') (.slice s1' s2' s3') (.slice m1' m2' m3') (.int .i64 M'.units) (.int .i64 M'.left) (.bool M'.armed) (.bool M'.gone) (.slice a1' a2' a3')
    exact ⟨(f1', f2', f3'), (s1', s2', s3'), (m1', m2', m3'), (a1', a2', a3'), rfl, P6.below (Below.refl _ _).drew, K6.then_ (Below.refl _ _).drew hL⟩
set_option maxRecDepth 100000 in
set_option maxHeartbeats 8000000 in
theorem do2_cut {L n p : Nat} {w : World} {D : ADisk} {M : RefM} {f s m a : Tri} (hP : Pr L n p w D M f s m a) (hn : n ≤ 80000) (hL : L ≤ w.heap.size) (k : Int) (name text : ByteArray) (ao : Option Addr) (l c : Nat) (hnm : name.size ≤ 100) (htx : text.size ≤ 200) (hk1 : -9223372036854775808 ≤ k) (hk2 : k ≤ 9223372036854775807) :
    Calls Try.prog 9 #[.pointer (some ⟨p, 0, none⟩), slices f s m a M.room M.units M.left M.armed M.gone, opV 3 k name text ao l c] w (DoG L (n + 402) p w (cutD D name k).1 (cutM M name k).1) := by
  have hl0 := hP.fine.l0
  have FIT := hP.fit (by omega)
  have HMW := hP.manyWaits (by omega)
  obtain ⟨B3, C4, C5, C6⟩ := do_boxes (w := w) (M := M) (f := f) (s := s) (m := m) (a := a) 3 k name text ao l c
  obtain ⟨W1, hW1⟩ : ∃ W, ((w.alloc (.cells (curM M f s m a) 37)).alloc (.cells #[.int .i64 3, .int .i64 k, .string name, .string text, .slice ao l c] 40)).alloc (.cells rows9 37) = W := ⟨_, rfl⟩
  rw [hW1] at B3 C4 C5 C6
  have hP1 := hP.below B3
  have hL1 : L ≤ W1.heap.size := Nat.le_trans hL B3.size
  have PC := Lib.hid (lift_op hP1.disk hL1 (fun T hA _ _ => cut_any hA hP.fine (by omega) name (by omega) k hk1 hk2))
  have RC := Lib.hid (fun (W : World) (HR : RefAt W M f s m a) => refcut_any FIT HMW name k (by omega) W HR ⟨hk1, hk2⟩)
  obtain ⟨ht, hen⟩ := Ties.cut hP.ties hl0 name k
  have hle : (cutD D name k).2 ≤ 12 := by
    unfold cutD; split; exact asked_le hP.fine name []; split; exact le12 (by decide); split <;> exact le12 (by decide)
  have FI := Lib.hid (show Fine (n + 402) (cutD D name k).1 from (cut_fine hP.fine name k).mono (by omega))
  have TY := Lib.hid (show Tidy (cutD D name k).1 from hP.tidy.of (cutD_sure D name k))
  have LF := Lib.hid (show InL (cutM M name k).1.left from cutM_left hP.left name k)
  have HT := Lib.hid ht
  have H1 := Lib.hid hP1.ref
  have HB := Lib.hid B3
  have H4 := Lib.hid C4
  have H5 := Lib.hid C5
  have H6 := Lib.hid C6
  have HL := Lib.hid hL1
  rw [hen] at RC
  clear ht hen FIT HMW hP hP1 hl0 B3 hL1
  generalize (cutD D name k) = DD at *
  generalize (cutM M name k) = MM at *
  obtain ⟨D', en⟩ := DD
  obtain ⟨M', bad⟩ := MM
  dsimp only at *
  obtain ⟨f1, f2, f3⟩ := f
  obtain ⟨s1, s2, s3⟩ := s
  obtain ⟨m1, m2, m3⟩ := m
  obtain ⟨a1, a2, a3⟩ := a
  unfold opV slices refA
  unfold curM rows9 at hW1
  dsimp only at hW1 ⊢
  obtain ⟨q0, q1, q2, q3, q4⟩ : W1.cell? ⟨w.heap.size + 1, 0, none⟩ = some (.int .i64 3) ∧ W1.cell? ⟨w.heap.size + 1, 1, none⟩ = some (.int .i64 k) ∧ W1.cell? ⟨w.heap.size + 1, 2, none⟩ = some (.string name) ∧ W1.cell? ⟨w.heap.size + 1, 3, none⟩ = some (.string text) ∧ W1.cell? ⟨w.heap.size + 1, 4, none⟩ = some (.slice ao l c) := ⟨C5.cell 0, C5.cell 1, C5.cell 2, C5.cell 3, C5.cell 4⟩
  have q5 := C5.lt
  clear C4 C5 C6
  go_enter Try.func9, Try.ntmps9
  go_wp2_with fail
  refine PC.out.mono ?_
  clear PC q0 q1 q2 q3 q4 q5 hW1
  rintro e w2 ⟨rfl, hd2, hk2'⟩
  have K5 := hk2'.cells H5.out (by decide)
  have K4 := hk2'.cells H4.out (by decide)
  unfold curM at K4
  dsimp only at K4
  obtain ⟨b0, b1, b2, b3, b4, b5, b6, b7, b8⟩ := cells9 K4
  have bl := K4.lt
  obtain ⟨q0, q1, q2, q3, q4⟩ : w2.cell? ⟨w.heap.size + 1, 0, none⟩ = some (.int .i64 3) ∧ w2.cell? ⟨w.heap.size + 1, 1, none⟩ = some (.int .i64 k) ∧ w2.cell? ⟨w.heap.size + 1, 2, none⟩ = some (.string name) ∧ w2.cell? ⟨w.heap.size + 1, 3, none⟩ = some (.string text) ∧ w2.cell? ⟨w.heap.size + 1, 4, none⟩ = some (.slice ao l c) := ⟨K5.cell 0, K5.cell 1, K5.cell 2, K5.cell 3, K5.cell 4⟩
  have q5 := K5.lt
  have D2 := Lib.hid hd2
  have KK := Lib.hid hk2'
  have RC2 := Lib.hid (RC.out w2 (H1.out.keeps hk2'))
  unfold slices refA at RC2
  dsimp only at RC2
  clear K4 K5 hd2 hk2' RC
  go_wp2_with fail
  refine RC2.out.mono ?_
  clear RC2 b0 b1 b2 b3 b4 b5 b6 b7 b8 bl q0 q1 q2 q3 q4 q5
  rintro e w3 ⟨⟨f1', f2', f3'⟩, ⟨s1', s2', s3'⟩, ⟨m1', m2', m3'⟩, ⟨a1', a2', a3'⟩, rfl, hr3, hb3⟩
  unfold slices refA
  dsimp only
  have K4 := (KK.out.cells H4.out (by decide)).below hb3 (KK.out.cells H4.out (by decide)).lt
  have K6 := (KK.out.cells H6.out (by decide)).below hb3 (KK.out.cells H6.out (by decide)).lt
  unfold curM at K4
  dsimp only at K4
  have D3 := Lib.hid (D2.out.below hb3)
  have KB := KK.out.bel.size
  have K3 := Lib.hid ((Keeps.of_below HB.out hL).trans (KK.out.then_ hb3 HL.out))
  have R3 := Lib.hid hr3
  have B6 := Lib.hid K6
  have B4 := Lib.hid K4
  obtain ⟨b0, b1, b2, b3, b4, b5, b6, b7, b8⟩ := cells9 K4
  have bl := K4.lt
  have g0 := K4.frozen 0; have g1 := K4.frozen 1; have g2 := K4.frozen 2; have g3 := K4.frozen 3; have g4 := K4.frozen 4; have g5 := K4.frozen 5; have g6 := K4.frozen 6; have g7 := K4.frozen 7; have g8 := K4.frozen 8
  clear K4 K6 hb3 hr3 D2 KK KB
  go_upto_region 37 with fail
  clear b0 b1 b2 b3 b4 b5 b6 b7 b8 bl g0 g1 g2 g3 g4 g5 g6 g7 g8
  have E4 := setBox_to B4.out (.int .i64 M'.room) (.slice f1' f2' f3') (.slice s1' s2' s3') (.slice m1' m2' m3') (.int .i64 M'.units) (.int .i64 M'.left) (.bool M'.armed) (.bool M'.gone) (.slice a1' a2' a3')
  have E6 := setBox_other B6.out (b := w.heap.size) (by omega) (.int .i64 M'.room) (.slice f1' f2' f3') (.slice s1' s2' s3') (.slice m1' m2' m3') (.int .i64 M'.units) (.int .i64 M'.left) (.bool M'.armed) (.bool M'.gone) (.slice a1' a2' a3')
  obtain ⟨W5, hW5⟩ : ∃ W, setBox w3 w.heap.size (.int .i64 M'.room) (.slice f1' f2' f3') (.slice s1' s2' s3') (.slice m1' m2' m3') (.int .i64 M'.units) (.int .i64 M'.left) (.bool M'.armed) (.bool M'.gone) (.slice a1' a2' a3') = W := ⟨_, rfl⟩
  rw [hW5] at E4 E6
  have HW5 := Lib.hid hW5
  unfold setBox at hW5
  rw [hW5]
  clear hW5
  obtain ⟨b0, b1, b2, b3, b4, b5, b6, b7, b8⟩ := cells9 E4
  have bl := E4.lt
  obtain ⟨x0, x1, x2, x3, x4, x5, x6, x7, x8, xl, y0, y1, y2, y3, y4, y5, y6, y7, y8⟩ := Box9.of E6
  have F6 := Lib.hid E6
  clear E4 E6
  have NU := Lib.hid (fun W => num_still en (by omega) W)
  have hqq : ((en : Int) == (en : Int)) = true := by simp
  go_region_law ((go_simp; go_at_call 28; refine (NU.out _).mono ?_; rintro e w9 ⟨rfl, rfl⟩))
  all_goals go_wp2
  all_goals
    refine bodyPost_ret (ret_box rfl _ _ (w.heap.size + 1 + 1) _ rfl (setBox_to F6.out _ _ _ _ _ _ _ _ _).drew rfl) rfl ?_
    have P5 := Pr.mk (n := n + 402) ((D3.out.box B4.out (by decide) (.int .i64 M'.room) (.slice f1' f2' f3') (.slice s1' s2' s3') (.slice m1' m2' m3') (.int .i64 M'.units) (.int .i64 M'.left) (.bool M'.armed) (.bool M'.gone) (.slice a1' a2' a3'))) (R3.out.box B4.out _ _ _ _ _ _ _ _ _) HT.out FI.out TY.out LF.out
    have K5 := K3.out.box (b := w.heap.size) (Nat.le_refl _) hL (.int .i64 M'.room) (.slice f1' f2' f3') (.slice s1' s2' s3') (.slice m1' m2' m3') (.int .i64 M'.units) (.int .i64 M'.left) (.bool M'.armed) (.bool M'.gone) (.slice a1' a2' a3')
    rw [HW5.out] at P5 K5
    have P6 := Pr.mk (n := n + 402) (P5.disk.box F6.out (by decide) (.int .i64 M'.room) (.slice f1' f2' f3') (.slice s1' s2' s3') (.slice m1' m2' m3') (.int .i64 M'.units) (.int .i64 M'.left) (.bool M'.armed) (.bool M'.gone) (.slice a1' a2' a3')) (P5.ref.box F6.out _ _ _ _ _ _ _ _ _) HT.out FI.out TY.out LF.out
    have K6 := K5.box (b := w.heap.size + 1 + 1) (by omega) hL (.int .i64 M'.room) (.slice f1' f2' f3') (.slice s1' s2' s3') (.slice m1' m2' m3') (.int .i64 M'.units) (.int .i64 M'.left) (.bool M'.armed) (.bool M'.gone) (.slice a1' a2' a3')
    exact ⟨(f1', f2', f3'), (s1', s2', s3'), (m1', m2', m3'), (a1', a2', a3'), rfl, P6.below (Below.refl _ _).drew, K6.then_ (Below.refl _ _).drew hL⟩
end Go.Proofs.Ytembondddgfpcaa

namespace Go.Proofs.Ytembondddgfpcaa
open Go.RowKit Go.Maps
attribute [local go_sem] World.cell?_alloc_some

theorem DiskO.cell {L : Nat} {w : World} {p : Nat} {D : ADisk} (h : DiskO L w p D) {b : Nat} {t : TypeId} {cur : Array Value} (hc : Cells w b t cur) (ht : NotV t) (i : Nat) (u : Value) : DiskO L (w.setCell ⟨b, i, none⟩ u) p D := by
  obtain ⟨T, h1, h2, h3⟩ := h.trim
  exact ⟨T, h1.setCell (a := ⟨b, i, none⟩) (h3 b cur t (0, 0) hc ht) u, h2⟩
theorem Keeps.cell {L : Nat} {w w' : World} (h : Keeps L w w') {b : Nat} (hb : w.heap.size ≤ b) (hL : L ≤ w.heap.size) (i : Nat) (u : Value) : Keeps L w (w'.setCell ⟨b, i, none⟩ u) := by
  refine ⟨h.bel.setCell (p := ⟨b, i, none⟩) (Nat.le_trans hL hb) u, fun b' c t fr ho hn => ?_⟩
  have hlt : b' < w.heap.size := (Array.getElem?_eq_some_iff.1 ho).1
  exact (Below.heap_setCell _ _ _ _ (by show b' ≠ b; omega)).trans (h.rest b' c t fr ho hn)
set_option maxRecDepth 100000 in
set_option maxHeartbeats 8000000 in
theorem do2_arm {L n p : Nat} {w : World} {D : ADisk} {M : RefM} {f s m a : Tri} (hP : Pr L n p w D M f s m a) (hn : n ≤ 80000) (hL : L ≤ w.heap.size) (k : Int) (name text : ByteArray) (ao : Option Addr) (l c : Nat) (hnm : name.size ≤ 100) (htx : text.size ≤ 200) (hk1 : -9223372036854775808 ≤ k) (hk2 : k ≤ 9223372036854775807) :
    Calls Try.prog 9 #[.pointer (some ⟨p, 0, none⟩), slices f s m a M.room M.units M.left M.armed M.gone, opV 8 k name text ao l c] w (DoG L (n + 402) p w (armD D k).1 (armM M k).1) := by
  have hl0 := hP.fine.l0
  obtain ⟨B3, C4, C5, C6⟩ := do_boxes (w := w) (M := M) (f := f) (s := s) (m := m) (a := a) 8 k name text ao l c
  obtain ⟨W1, hW1⟩ : ∃ W, ((w.alloc (.cells (curM M f s m a) 37)).alloc (.cells #[.int .i64 8, .int .i64 k, .string name, .string text, .slice ao l c] 40)).alloc (.cells rows9 37) = W := ⟨_, rfl⟩
  rw [hW1] at B3 C4 C5 C6
  have hP1 := hP.below B3
  have hL1 : L ≤ W1.heap.size := Nat.le_trans hL B3.size
  have PC := Lib.hid (lift_op hP1.disk hL1 (fun T hA _ _ => (arm_any hA k).mono fun e w' ⟨he, h1, h2⟩ => ⟨he, T, h1, h2⟩))
  obtain ⟨ht, _⟩ := Ties.arm hP.ties k
  have FI := Lib.hid (show Fine (n + 402) (armD D k).1 from (arm_fine hP.fine k (by omega)).mono (by omega))
  have TY := Lib.hid (show Tidy (armD D k).1 from hP.tidy.of (armD_sure D k))
  have LF := Lib.hid (show InL (armM M k).1.left from armM_left hP.left k hk2)
  have HT := Lib.hid ht
  have H1 := Lib.hid hP1.ref
  have HB := Lib.hid B3
  have H4 := Lib.hid C4
  have H5 := Lib.hid C5
  have H6 := Lib.hid C6
  have HL := Lib.hid hL1
  clear ht hP hP1 hl0 B3 hL1
  obtain ⟨f1, f2, f3⟩ := f
  obtain ⟨s1, s2, s3⟩ := s
  obtain ⟨m1, m2, m3⟩ := m
  obtain ⟨a1, a2, a3⟩ := a
  unfold opV slices refA
  unfold curM rows9 at hW1
  dsimp only at hW1 ⊢
  by_cases hneg : k < 0
  · have e1 : armD D k = (D, 1) := by unfold armD; rw [if_pos hneg]
    have e2 : armM M k = (M, 1) := by unfold armM; rw [if_pos hneg]
    rw [e1] at PC FI TY HT ⊢
    rw [e2] at LF HT ⊢
    dsimp only at PC FI TY HT LF ⊢
    clear e1 e2
    obtain ⟨q0, q1, q2, q3, q4⟩ : W1.cell? ⟨w.heap.size + 1, 0, none⟩ = some (.int .i64 8) ∧ W1.cell? ⟨w.heap.size + 1, 1, none⟩ = some (.int .i64 k) ∧ W1.cell? ⟨w.heap.size + 1, 2, none⟩ = some (.string name) ∧ W1.cell? ⟨w.heap.size + 1, 3, none⟩ = some (.string text) ∧ W1.cell? ⟨w.heap.size + 1, 4, none⟩ = some (.slice ao l c) := ⟨C5.cell 0, C5.cell 1, C5.cell 2, C5.cell 3, C5.cell 4⟩
    have q5 := C5.lt
    clear C4 C5 C6
    go_enter Try.func9, Try.ntmps9
    go_wp2_with fail
    refine PC.out.mono ?_
    clear PC q0 q1 q2 q3 q4 q5 hW1
    rintro e w2 ⟨rfl, hd2, hk2'⟩
    have K5 := hk2'.cells H5.out (by decide)
    have K4 := hk2'.cells H4.out (by decide)
    have K6 := hk2'.cells H6.out (by decide)
    unfold curM at K4
    dsimp only at K4
    obtain ⟨b0, b1, b2, b3, b4, b5, b6, b7, b8⟩ := cells9 K4
    have bl := K4.lt
    have g5 := K4.frozen 5
    have g6 := K4.frozen 6
    obtain ⟨q0, q1, q2, q3, q4⟩ : w2.cell? ⟨w.heap.size + 1, 0, none⟩ = some (.int .i64 8) ∧ w2.cell? ⟨w.heap.size + 1, 1, none⟩ = some (.int .i64 k) ∧ w2.cell? ⟨w.heap.size + 1, 2, none⟩ = some (.string name) ∧ w2.cell? ⟨w.heap.size + 1, 3, none⟩ = some (.string text) ∧ w2.cell? ⟨w.heap.size + 1, 4, none⟩ = some (.slice ao l c) := ⟨K5.cell 0, K5.cell 1, K5.cell 2, K5.cell 3, K5.cell 4⟩
    have q5 := K5.lt
    have D2 := Lib.hid hd2
    have K3 := Lib.hid ((Keeps.of_below HB.out hL).trans hk2')
    have R2 := Lib.hid (H1.out.keeps hk2')
    have B4 := Lib.hid K4
    have B6 := Lib.hid K6
    clear K4 K5 K6 hd2 hk2'
    go_upto_region 37 with fail
    clear b0 b1 b2 b3 b4 b5 b6 b7 b8 bl g5 g6 q0 q1 q2 q3 q4 q5
    have E4 := B4.out
    have E6 := B6.out
    have P5 := Pr.mk (n := n + 402) D2.out R2.out HT.out FI.out TY.out LF.out
    have K5 := K3.out
    obtain ⟨b0, b1, b2, b3, b4, b5, b6, b7, b8⟩ := cells9 E4
    have bl := E4.lt
    obtain ⟨x0, x1, x2, x3, x4, x5, x6, x7, x8, xl, y0, y1, y2, y3, y4, y5, y6, y7, y8⟩ := Box9.of E6
    have F6 := Lib.hid E6
    have P5 := Lib.hid P5
    have K5 := Lib.hid K5
    clear E4 E6
    have NU := fun W => num_still 1 (by omega) W
    have NU := Lib.hid NU

    go_region_law ((go_simp; go_at_call 28; refine (NU.out _).mono ?_; rintro e w9 ⟨rfl, rfl⟩))
    all_goals go_wp2
    all_goals
      refine bodyPost_ret (ret_box rfl _ _ (w.heap.size + 1 + 1) _ rfl (setBox_to F6.out _ _ _ _ _ _ _ _ _).drew rfl) rfl ?_
      have P6 := Pr.mk (n := n + 402) (P5.out.disk.box F6.out (by decide) (.int .i64 M.room) (.slice f1 f2 f3) (.slice s1 s2 s3) (.slice m1 m2 m3) (.int .i64 M.units) (.int .i64 M.left) (.bool M.armed) (.bool M.gone) (.slice a1 a2 a3)) (P5.out.ref.box F6.out _ _ _ _ _ _ _ _ _) P5.out.ties P5.out.fine P5.out.tidy P5.out.left
      have K6 := K5.out.box (b := w.heap.size + 1 + 1) (by omega) hL (.int .i64 M.room) (.slice f1 f2 f3) (.slice s1 s2 s3) (.slice m1 m2 m3) (.int .i64 M.units) (.int .i64 M.left) (.bool M.armed) (.bool M.gone) (.slice a1 a2 a3)
      exact ⟨(f1, f2, f3), (s1, s2, s3), (m1, m2, m3), (a1, a2, a3), rfl, P6.below (Below.refl _ _).drew, K6.then_ (Below.refl _ _).drew hL⟩
  · have e1 : armD D k = ({ D with armed := true, left := k }, 0) := by unfold armD; rw [if_neg hneg]
    have e2 : armM M k = ({ M with armed := true, left := k }, 0) := by unfold armM; rw [if_neg hneg]
    rw [e1] at PC FI TY HT ⊢
    rw [e2] at LF HT ⊢
    dsimp only at PC FI TY HT LF ⊢
    clear e1 e2
    obtain ⟨q0, q1, q2, q3, q4⟩ : W1.cell? ⟨w.heap.size + 1, 0, none⟩ = some (.int .i64 8) ∧ W1.cell? ⟨w.heap.size + 1, 1, none⟩ = some (.int .i64 k) ∧ W1.cell? ⟨w.heap.size + 1, 2, none⟩ = some (.string name) ∧ W1.cell? ⟨w.heap.size + 1, 3, none⟩ = some (.string text) ∧ W1.cell? ⟨w.heap.size + 1, 4, none⟩ = some (.slice ao l c) := ⟨C5.cell 0, C5.cell 1, C5.cell 2, C5.cell 3, C5.cell 4⟩
    have q5 := C5.lt
    clear C4 C5 C6
    go_enter Try.func9, Try.ntmps9
    go_wp2_with fail
    refine PC.out.mono ?_
    clear PC q0 q1 q2 q3 q4 q5 hW1
    rintro e w2 ⟨rfl, hd2, hk2'⟩
    have K5 := hk2'.cells H5.out (by decide)
    have K4 := hk2'.cells H4.out (by decide)
    have K6 := hk2'.cells H6.out (by decide)
    unfold curM at K4
    dsimp only at K4
    obtain ⟨b0, b1, b2, b3, b4, b5, b6, b7, b8⟩ := cells9 K4
    have bl := K4.lt
    have g5 := K4.frozen 5
    have g6 := K4.frozen 6
    obtain ⟨q0, q1, q2, q3, q4⟩ : w2.cell? ⟨w.heap.size + 1, 0, none⟩ = some (.int .i64 8) ∧ w2.cell? ⟨w.heap.size + 1, 1, none⟩ = some (.int .i64 k) ∧ w2.cell? ⟨w.heap.size + 1, 2, none⟩ = some (.string name) ∧ w2.cell? ⟨w.heap.size + 1, 3, none⟩ = some (.string text) ∧ w2.cell? ⟨w.heap.size + 1, 4, none⟩ = some (.slice ao l c) := ⟨K5.cell 0, K5.cell 1, K5.cell 2, K5.cell 3, K5.cell 4⟩
    have q5 := K5.lt
    have D2 := Lib.hid hd2
    have K3 := Lib.hid ((Keeps.of_below HB.out hL).trans hk2')
    have R2 := Lib.hid (H1.out.keeps hk2')
    have B4 := Lib.hid K4
    have B6 := Lib.hid K6
    clear K4 K5 K6 hd2 hk2'
    have E4a := (B4.out.set 6 (.bool true)).set 5 (.int .i64 k)
    have E4b := (B4.out.set 5 (.int .i64 k)).set 6 (.bool true)
    simp only [List.setIfInBounds_toArray, List.set_cons_zero, List.set_cons_succ] at E4a E4b
    have E4a := Lib.hid E4a
    have E4b := Lib.hid E4b
    go_upto_region 33 with fail
    go_region
    go_upto_region 37 with fail
    clear b0 b1 b2 b3 b4 b5 b6 b7 b8 bl g5 g6 q0 q1 q2 q3 q4 q5
    have E4 := E4a.out.drew
    have E6 := ((B6.out.other (p := ⟨w.heap.size, 6, none⟩) (by dsimp only; omega) (.bool true)).other (p := ⟨w.heap.size, 5, none⟩) (by dsimp only; omega) (.int .i64 k)).drew
    have D5 := ((D2.out.cell B4.out (by decide) 6 (.bool true)).cell (B4.out.set 6 (.bool true)) (by decide) 5 (.int .i64 k)).below (Below.refl _ _).drew
    have R5 := ((R2.out.cell B4.out 6 (.bool true)).cell (B4.out.set 6 (.bool true)) 5 (.int .i64 k)).below (Below.refl _ _).drew (Nat.le_refl _)
    have K5 := ((K3.out.cell (b := w.heap.size) (Nat.le_refl _) hL 6 (.bool true)).cell (b := w.heap.size) (Nat.le_refl _) hL 5 (.int .i64 k)).then_ (Below.refl _ _).drew hL
    have P5 := Pr.mk (n := n + 402) (M := { M with armed := true, left := k }) D5 ⟨R5.files, R5.sure, R5.moves, R5.acts⟩ HT.out FI.out TY.out LF.out
    clear D5 R5
    generalize ((w2.setCell ⟨w.heap.size, 6, none⟩ (.bool true)).setCell ⟨w.heap.size, 5, none⟩ (.int .i64 k)).drew = W5 at *
    obtain ⟨b0, b1, b2, b3, b4, b5, b6, b7, b8⟩ := cells9 E4
    have bl := E4.lt
    obtain ⟨x0, x1, x2, x3, x4, x5, x6, x7, x8, xl, y0, y1, y2, y3, y4, y5, y6, y7, y8⟩ := Box9.of E6
    have F6 := Lib.hid E6
    have P5 := Lib.hid P5
    have K5 := Lib.hid K5
    clear E4 E6
    have NU := fun W => num_still 0 (by omega) W
    have NU := Lib.hid NU

    go_region_law ((go_simp; go_at_call 28; refine (NU.out _).mono ?_; rintro e w9 ⟨rfl, rfl⟩))
    all_goals go_wp2
    all_goals
      refine bodyPost_ret (ret_box rfl _ _ (w.heap.size + 1 + 1) _ rfl (setBox_to F6.out _ _ _ _ _ _ _ _ _).drew rfl) rfl ?_
      have P6 := Pr.mk (n := n + 402) (P5.out.disk.box F6.out (by decide) (.int .i64 M.room) (.slice f1 f2 f3) (.slice s1 s2 s3) (.slice m1 m2 m3) (.int .i64 M.units) (.int .i64 k) (.bool true) (.bool M.gone) (.slice a1 a2 a3)) (P5.out.ref.box F6.out _ _ _ _ _ _ _ _ _) P5.out.ties P5.out.fine P5.out.tidy P5.out.left
      have K6 := K5.out.box (b := w.heap.size + 1 + 1) (by omega) hL (.int .i64 M.room) (.slice f1 f2 f3) (.slice s1 s2 s3) (.slice m1 m2 m3) (.int .i64 M.units) (.int .i64 k) (.bool true) (.bool M.gone) (.slice a1 a2 a3)
      exact ⟨(f1, f2, f3), (s1, s2, s3), (m1, m2, m3), (a1, a2, a3), rfl, P6.below (Below.refl _ _).drew, K6.then_ (Below.refl _ _).drew hL⟩
end Go.Proofs.Ytembondddgfpcaa

