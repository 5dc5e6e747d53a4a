/- What waits of a file: wait. An append in a region that draws its order. -/
import Derived.Test.YtdfjkcdmbbmipaaVD
import Derived.Deep.RegionLaw
import Derived.RegionTactic
namespace Go.Proofs.Ytdfjkcdmbbmipaa
open Go.RowKit

/-- append onto a slice that is owned, as one step of a region that draws. -/
theorem step_append_own {P : Program} {ops : Array Oper} {o : Oper} {a : Act} {w : World} {K : Act → World → Prop} {Q : Exit → Act → World → Prop} {E : Prop}
    (hg : o.guard = none) (s x : Operand) (t : TypeId) (hop : o.op = Op.call { callee := Callee.builtin Builtin.append, args := #[s, x], argTypes := #[t, t] })
    (e : TypeId) (i : TypeInfo) (z : Value) (size bytes : Nat) (ht : P.underlying t = some (.slice e)) (hi : P.info? e = some i) (hz : i.zero = some z)
    (hsize : i.size = size) (hby : i.bytes = bytes) (hzs : z.cells.size = size) (hsz : 0 < size)
    (v : Value) (n : Nat) (xs : List Value) (hs : a.eval s = v) (hown : w.ownsRow 0 e size v n xs)
    (ad : Addr) (m c : Nat) (news : List Value) (hx : a.eval x = .slice (some ad) m c) (hl : news.length = m * size) (hnews : ∀ j u, news[j]? = some u → w.cell? (ad.add j) = some u) (h1 : ∀ u ∈ news, u.oneCell' = true)
    (h63 : n + m ≤ maxLen) (hbytes : (n + m) * bytes ≤ 140737488355328)
    (hK : ∀ v' w', w'.ownsRow 0 e size v' (n + m) (xs ++ news) → w.grownBy w' v.ownBlock → (v'.ownBlock = v.ownBlock ∨ v'.ownBlock = some w.heap.size) → K (a.put o.dst v') w') :
    if Region.wanted o (yielded ops a.tmps) = true then Oper.wp P o a w K Q else E := by
  have hw : Region.wanted o (yielded ops a.tmps) = true := by simp [Region.wanted, hg]
  rw [if_pos hw]
  obtain ⟨v', w', hr, h2, h3, h4, h5⟩ := run_append_own_at (P := P) w 0 t o.type e i z size bytes ht hi hz hsize hby hzs hsz v n xs hown ad m c news hl hnews h1 h63 hbytes (Nat.zero_le _)
  unfold Oper.wp
  simp [execOp, hop, resolve, invoke, builtin, hs, hx, hr, Result.andThen]
  exact hK v' w' h2 h3 h5

theorem infoAct : (Try.prog.info? 94).map (fun i => (i.zero, i.size, i.bytes)) = some (some (.agg #[.int .i64 0, .string ⟨#[]⟩, .string ⟨#[]⟩, .string ⟨#[]⟩, .int .i64 0]), 5, 64) := by kernel_rfl

/-- An act's cells. -/
structure ActA where
  kind : Nat
  name : ByteArray
  other : ByteArray
  bytes : ByteArray
  at_ : Nat
def ActA.cells (a : ActA) : List Value := [.int .i64 a.kind, .string a.name, .string a.other, .string a.bytes, .int .i64 a.at_]
def actsCells (l : List ActA) : List Value := l.flatMap ActA.cells
theorem actsCells_snoc (l : List ActA) (a : ActA) : actsCells (l ++ [a]) = actsCells l ++ a.cells := by unfold actsCells; simp
theorem cells_new_add (w : World) (t : TypeId) (cs : List Value) : ∀ j u, cs[j]? = some u → (w.alloc (.cells cs.toArray t)).cell? ((⟨w.heap.size, 0, none⟩ : Addr).add j) = some u := by
  intro j u hj
  have := (Cells.new w t cs.toArray).cell j
  have e : (⟨w.heap.size, 0, none⟩ : Addr).add j = ⟨w.heap.size, j, none⟩ := by unfold Addr.add; split <;> simp_all
  rw [e, this, List.getElem?_toArray, hj]
theorem slice_of_own {w : World} {base : Nat} {e : TypeId} {size : Nat} {v : Value} {n : Nat} {xs : List Value} (h : w.ownsRow base e size v (n + 1) xs) : ∃ g cap, v = .slice (some ⟨g, 0, none⟩) (n + 1) cap := by
  rcases h.2 with ⟨_, h⟩ | ⟨g, cap, _, h, _⟩
  · omega
  · exact ⟨g, cap, h⟩

/-- What is known behind an append of one element onto a slice that is owned; W: the world ahead of it. -/
theorem appended {w W w' : World} {g : Nat} {t : TypeId} {cur : Array Value} (hg : Cells w g t cur) {vw v' : Value} {n : Nat} {xs A : List Value} {e : TypeId} {size : Nat} (hown : w.ownsRow 0 e size vw n xs) (hne : vw.ownBlock ≠ some g)
    (hb : Below w.heap.size w W) (ho : w'.ownsRow 0 e size v' (n + 1) (xs ++ A)) (hgr : W.grownBy w' vw.ownBlock) (hbk : v'.ownBlock = vw.ownBlock ∨ v'.ownBlock = some W.heap.size) :
    (∃ g' cap, v' = .slice (some ⟨g', 0, none⟩) (n + 1) cap) ∧ Cells w' g t cur ∧ (∀ r, w.heap.size ≤ r → r < W.heap.size → w'.heap[r]? = W.heap[r]?) ∧
      (v'.ownBlock = vw.ownBlock ∨ ∃ k, v'.ownBlock = some k ∧ w.heap.size ≤ k ∧ k < w'.heap.size) ∧ Only (fun r => some r = vw.ownBlock) w w' := by
  have hs := hb.size
  refine ⟨slice_of_own ho, (hgr.block g (Nat.lt_of_lt_of_le hg.lt hs) (fun e => hne e.symm)).trans ((hb.block g hg.lt).trans hg), fun r h1 h2 => hgr.block r h2 (fun e => ?_), ?_, ?_⟩
  · have := (hown.lt r e.symm).2; omega
  · rcases hbk with h | h
    · exact .inl h
    · exact .inr ⟨_, h, hs, (ho.lt _ h).2⟩
  · exact (Only.of_below hb (Nat.le_refl _)).grown hgr (fun k hk => .inl hk.symm)

/-- What waits of a file, with one act more. -/
structure Waited (g o : Nat) (cur : Array Value) (vw : Value) (n : Nat) (xs : List Value) (news : List Value) (size' : Int) (w w' : World) : Prop where
  ex : ∃ v', Cells w' g 105 ((cur.setIfInBounds (o + 1) v').setIfInBounds (o + 2) (.int .i64 size')) ∧ w'.ownsRow 0 94 5 v' (n + 1) (xs ++ news) ∧ (v'.ownBlock = vw.ownBlock ∨ ∃ k, v'.ownBlock = some k ∧ w.heap.size ≤ k ∧ k < w'.heap.size)
  only : Only (fun r => r = g ∨ some r = vw.ownBlock) w w'
theorem Waited.mk' {g o : Nat} {cur : Array Value} {vw v' : Value} {n : Nat} {xs news : List Value} {size' : Int} {w w' : World} (hlt : g < w.heap.size) (hg : Cells w' g 105 cur) (ho : w'.ownsRow 0 94 5 v' (n + 1) (xs ++ news)) (hne : vw.ownBlock ≠ some g)
    (hk : v'.ownBlock = vw.ownBlock ∨ ∃ k, v'.ownBlock = some k ∧ w.heap.size ≤ k ∧ k < w'.heap.size) (hon : Only (fun r => some r = vw.ownBlock) w w') :
    Waited g o cur vw n xs news size' w ((w'.setCell ⟨g, o + 1, none⟩ v').setCell ⟨g, o + 2, none⟩ (.int .i64 size')) := by
  have hvg : v'.ownBlock ≠ some g := by
    intro e
    rcases hk with h | ⟨k, h, h2, _⟩
    · exact hne (h.symm.trans e)
    · rw [h] at e; cases e; omega
  refine ⟨⟨v', (hg.set _ _).set _ _, row_cell (row_cell ho hvg _) hvg _, ?_⟩, ?_⟩
  · simpa [World.setCell] using hk
  · exact ((hon.mono (S' := fun r => r = g ∨ some r = vw.ownBlock) (fun r _ h => .inr h)).setCell (p := ⟨g, o + 1, none⟩) (.inl (.inl rfl)) _).setCell (p := ⟨g, o + 2, none⟩) (.inl (.inl rfl)) _

theorem Waited.drew {g o : Nat} {cur : Array Value} {vw : Value} {n : Nat} {xs news : List Value} {size' : Int} {w w' : World} (h : Waited g o cur vw n xs news size' w w') : Waited g o cur vw n xs news size' w w'.drew := ⟨h.ex, h.only.drew⟩

set_option maxRecDepth 100000 in
set_option maxHeartbeats 2000000 in
theorem wait_cut (g o : Nat) (cur : Array Value) (vw : Value) (size : Nat) (n : Nat) (xs : List Value) (name other bytes : ByteArray) (at_ : Nat) (w : World)
    (hg : Cells w g 105 cur) (h1 : cur[o + 1]? = some vw) (h2 : cur[o + 2]? = some (.int .i64 size)) (hown : w.ownsRow 0 94 5 vw n xs) (hne : vw.ownBlock ≠ some g) (hn : n ≤ 1000000) :
    Calls Try.prog 52 #[.pointer (some ⟨g, o, none⟩), .agg #[.int .i64 3, .string name, .string other, .string bytes, .int .i64 at_]] w fun e w' => e = .returned (.tuple #[]) ∧
      Waited g o cur vw n xs [.int .i64 3, .string name, .string other, .string bytes, .int .i64 at_] at_ w w' := by
  obtain ⟨i0, hi, hz0, hz1, hz2⟩ := info_parts infoAct
  have c1 : w.cell? ⟨g, o + 1, none⟩ = some vw := by rw [hg.cell, h1]
  have hgl := hg.lt
  have HO := Lib.hid hown
  have HE := Lib.hid hne
  clear hown hne
  go_enter Try.func52, Try.ntmps52
  go_wp2
  go_region_law ((refine step_append_own rfl (.tmp 8) (.tmp 10) 61 rfl 94 i0 _ 5 64 Try.underlying61 hi hz0 hz1 hz2 rfl (by decide) vw n xs (by simp [Act.eval, Act.put]) (by exact ((HO.out.alloc _).alloc _).drew) ⟨w.heap.size + 1, 0, none⟩ 1 1 [.int .i64 3, .string name, .string other, .string bytes, .int .i64 at_] (by simp [Act.eval, Act.put]) rfl (by have := cells_new_add (w.alloc (.cells #[.int .i64 3, .string name, .string other, .string bytes, .int .i64 at_] 94)) 94 [.int .i64 3, .string name, .string other, .string bytes, .int .i64 at_]; rw [World.size_alloc] at this; exact this) (by intro u hu; simp at hu; rcases hu with rfl | rfl | rfl | rfl | rfl <;> rfl) (by unfold maxLen; omega) (by omega) ?_); intro v' w' ho hgr hbk; obtain ⟨⟨g', cap', rfl⟩, hg', hbx, hk, hon⟩ := appended hg HO.out HE.out ((((Below.refl _ w).alloc (Nat.le_refl _) _).alloc (by simp) _).drew) ho hgr hbk; have k1 := (hg'.cell (o + 1)).trans h1; have kf1 := hg'.frozen (o + 1); have k2 := (hg'.cell (o + 2)).trans h2; have kf2 := hg'.frozen (o + 2); have bx : Cells w' w.heap.size 94 #[.int .i64 3, .string name, .string other, .string bytes, .int .i64 at_] := (hbx _ (Nat.le_refl _) (by simp; omega)).trans ((Cells.new w _ _).alloc _); have b0 := bx.cell 0; have b3 := bx.cell 3; have b4 := bx.cell 4; simp at b0 b3 b4)
  all_goals
    go_wp2
    refine bodyPost_ret (v := .tuple #[]) (by simp [results, Try.results52, go_sem]) rfl ⟨rfl, Waited.mk' hgl hg' ho HE.out hk hon⟩

set_option maxRecDepth 100000 in
set_option maxHeartbeats 2000000 in
theorem wait_write (g o : Nat) (cur : Array Value) (vw : Value) (size : Nat) (n : Nat) (xs : List Value) (name other bytes : ByteArray) (at_ : Nat) (w : World)
    (hg : Cells w g 105 cur) (h1 : cur[o + 1]? = some vw) (h2 : cur[o + 2]? = some (.int .i64 size)) (hown : w.ownsRow 0 94 5 vw n xs) (hne : vw.ownBlock ≠ some g) (hn : n ≤ 1000000) (hsz : size ≤ 1000000) (hb : bytes.size ≤ 1000000) :
    Calls Try.prog 52 #[.pointer (some ⟨g, o, none⟩), .agg #[.int .i64 2, .string name, .string other, .string bytes, .int .i64 at_]] w fun e w' => e = .returned (.tuple #[]) ∧
      Waited g o cur vw n xs [.int .i64 2, .string name, .string other, .string bytes, .int .i64 at_] ((size : Int) + (bytes.size : Int)) w w' := by
  obtain ⟨i0, hi, hz0, hz1, hz2⟩ := info_parts infoAct
  have c1 : w.cell? ⟨g, o + 1, none⟩ = some vw := by rw [hg.cell, h1]
  have hgl := hg.lt
  have HO := Lib.hid hown
  have HE := Lib.hid hne
  clear hown hne
  go_enter Try.func52, Try.ntmps52
  go_wp2
  go_region_law ((refine step_append_own rfl (.tmp 8) (.tmp 10) 61 rfl 94 i0 _ 5 64 Try.underlying61 hi hz0 hz1 hz2 rfl (by decide) vw n xs (by simp [Act.eval, Act.put]) (by exact ((HO.out.alloc _).alloc _).drew) ⟨w.heap.size + 1, 0, none⟩ 1 1 [.int .i64 2, .string name, .string other, .string bytes, .int .i64 at_] (by simp [Act.eval, Act.put]) rfl (by have := cells_new_add (w.alloc (.cells #[.int .i64 2, .string name, .string other, .string bytes, .int .i64 at_] 94)) 94 [.int .i64 2, .string name, .string other, .string bytes, .int .i64 at_]; rw [World.size_alloc] at this; exact this) (by intro u hu; simp at hu; rcases hu with rfl | rfl | rfl | rfl | rfl <;> rfl) (by unfold maxLen; omega) (by omega) ?_); intro v' w' ho hgr hbk; obtain ⟨⟨g', cap', rfl⟩, hg', hbx, hk, hon⟩ := appended hg HO.out HE.out ((((Below.refl _ w).alloc (Nat.le_refl _) _).alloc (by simp) _).drew) ho hgr hbk; have k1 := (hg'.cell (o + 1)).trans h1; have kf1 := hg'.frozen (o + 1); have k2 := (hg'.cell (o + 2)).trans h2; have kf2 := hg'.frozen (o + 2); have bx : Cells w' w.heap.size 94 #[.int .i64 2, .string name, .string other, .string bytes, .int .i64 at_] := (hbx _ (Nat.le_refl _) (by simp; omega)).trans ((Cells.new w _ _).alloc _); have b0 := bx.cell 0; have b3 := bx.cell 3; have b4 := bx.cell 4; simp at b0 b3 b4)
  all_goals
    go_wp2
    go_region
    all_goals
      go_wp2
      go_end0
      exact ⟨rfl, (Waited.mk' hgl hg' ho HE.out hk hon).drew⟩
end Go.Proofs.Ytdfjkcdmbbmipaa
