/- The law of lines. -/
import Derived.Test.YtifdcnkfanenjaaDoorWM
import Derived.Test.YtifdcnkfanenjaaDoorRQ
namespace Go.Proofs.YtifdcnkfanenjaaDoor
open Go.RowKit Go.Shelf
attribute [local go_sem] Oper.semAt_some


theorem lineV_len (x : Ln) : (lineV x).toList.length = 4 := rfl
theorem cellsOf_at : ∀ (pre : List Ln) (x : Ln) (post : List Ln) (j : Nat), j < 4 → (cellsOf (pre ++ x :: post))[pre.length * 4 + j]? = (lineV x).toList[j]?
  | [], x, post, j, hj => by
    show ((lineV x).toList ++ cellsOf post)[_]? = _
    rw [List.getElem?_append_left (by rw [lineV_len]; simp; omega)]; simp
  | y :: pre, x, post, j, hj => by
    show ((lineV y).toList ++ cellsOf (pre ++ x :: post))[_]? = _
    rw [List.getElem?_append_right (by rw [lineV_len]; simp; omega), lineV_len]
    rw [show (y :: pre).length * 4 + j - 4 = pre.length * 4 + j by simp; omega]
    exact cellsOf_at pre x post j hj

theorem under {W W' : World} {b n : Nat} {t : TypeId} {v : Value} (h : Boxed W b t v) (hb : Below n W W') (hn : b < n) : Boxed W' b t v := (hb.block b hn).trans h
theorem rowBase {W : World} {base base' : Nat} {e : TypeId} {size : Nat} {v : Value} {n : Nat} {xs : List Value} (h : W.ownsRow base e size v n xs) (hb : base' ≤ base) : W.ownsRow base' e size v n xs := by
  refine ⟨h.1, ?_⟩
  rcases h.2 with hn | ⟨g, cap, cur, hv, hg, rest⟩
  · exact .inl hn
  · exact .inr ⟨g, cap, cur, hv, Nat.le_trans hb hg, rest⟩
theorem rowForm {W : World} {base : Nat} {e : TypeId} {size : Nat} {v : Value} {n : Nat} {xs : List Value} (h : W.ownsRow base e size v n xs) : ∃ ao cap, v = .slice ao n cap := by
  rcases h.2 with ⟨rfl, rfl⟩ | ⟨g, cap, cur, rfl, _⟩
  · exact ⟨none, 0, rfl⟩
  · exact ⟨_, cap, rfl⟩
theorem boxNew3 (w : World) (o1 o2 : Obj) (t : TypeId) (v : Value) : Boxed (((w.alloc o1).alloc o2).alloc (.cells #[v] t)) (w.heap.size + 2) t v := by
  have := boxNew2 (w.alloc o1) o2 t v
  rwa [World.size_alloc] at this
theorem boxNew4 (w : World) (o1 o2 o3 : Obj) (t : TypeId) (v : Value) : Boxed ((((w.alloc o1).alloc o2).alloc o3).alloc (.cells #[v] t)) (w.heap.size + 3) t v := by
  have := boxNew3 (w.alloc o1) o2 o3 t v
  rwa [World.size_alloc] at this
theorem wp_rangedA {P : Program} {α : Type} {g : Operand} {ps : Array Tmp} {assign body : Code} {Q : Exit → Act → World → Prop} {a : Act} {w : World}
    {gf : Nat} {lb : Array Value} (hg : a.eval g = .func (.func gf) #[] lb) (eg : ∀ args w, (callFunc gf args).run P w = .ok (.enter gf args) w)
    {encs : α → Array Value} {k : Nat} {xs : List α} (hseq : Hands P gf lb encs k xs w) (hps : ∀ x, (encs x).size = ps.size)
    (I : List α → World → Prop) (Ix : Code → List α → World → Prop) (hI : Abide w.heap.size (k + 2) I) (hIx : ∀ c, Abide w.heap.size 2 (Ix c)) (h0 : I [] w)
    (M : Act → List α → α → Act → World → Prop) (hM : ∀ a pre x a', Abide w.heap.size 2 (fun (_ : Unit) W => M a pre x a' W))
    (hassign : ∀ (l : Nat) (pre : List α) (x : α) (post : List α) (W : World), xs = pre ++ x :: post → w.heap.size + (k + 2) ≤ W.heap.size → I pre W →
      assign.wpIn (Fence.wide.inRound l) 7 P (assigned w.heap.size (k + 2) (M a pre x) W) { tmps := (ps.zip (encs x)).foldl (fun t (p, v) => t.setIfInBounds p v) a.tmps, defers := [] } W)
    (hbody : ∀ (l : Nat) (pre : List α) (x : α) (post : List α) (a' : Act) (W : World), xs = pre ++ x :: post → w.heap.size + (k + 2) ≤ W.heap.size → M a pre x a' W →
      body.wpIn (Fence.wide.inRound l) 7 P (left w.heap.size (k + 2) I Ix (pre ++ [x]) W) a' W)
    (hdone : ∀ (W : World), I xs W → W.heap[w.heap.size]? = some (.deferred (some [])) → Q .normal { a with defers := { target := .collected w.heap.size, args := #[] } :: a.defers } W)
    (hstop : ∀ (c : Code) (pre : List α) (W : World), pre <+: xs → Ix c pre W → W.heap[w.heap.size]? = some (.deferred (some [])) → c.wpIn Fence.wide 9 P Q { a with defers := { target := .collected w.heap.size, args := #[] } :: a.defers } W) :
    (Code.rangeFunc g ps assign body).wpIn Fence.wide 9 P Q a w :=
  wp_ranged hg eg hseq hps I Ix hI hIx h0 (M a) (hM a) hassign hbody hdone hstop
/-- What the law's boxes hold. -/
def Held (w : World) (z : Nat) (stop : Int) (v : Value) (xs : List Ln) (W : World) : Prop :=
  Boxed W w.heap.size 3 (.int .i64 stop) ∧ Boxed W (w.heap.size + 1) 4 (.bool false) ∧ Boxed W z 23 v ∧ W.ownsRow w.heap.size 30 4 v xs.length (cellsOf xs) ∧ Below w.heap.size w W
theorem Held.turned {w : World} {z : Nat} {stop : Int} {v : Value} {xs : List Ln} {W W' : World} {B k : Nat} (h : Held w z stop v xs W) (ht : Turned B k W W') (hB : w.heap.size + 1 < B) (hz : z < B) (hv : ∀ b, v.ownBlock = some b → b < B) : Held w z stop v xs W' := by
  obtain ⟨h1, h2, h3, h4, h5⟩ := h
  exact ⟨ht.box h1 (.inl (by omega)), ht.box h2 (.inl hB), ht.box h3 (.inl hz), ht.row h4 (fun b e => .inl (hv b e)), h5.trans (ht.below (by omega) h5.size)⟩
theorem Held.alloc {w : World} {z : Nat} {stop : Int} {v : Value} {xs : List Ln} {W : World} (h : Held w z stop v xs W) (o : Obj) : Held w z stop v xs (W.alloc o) := by
  obtain ⟨h1, h2, h3, h4, h5⟩ := h
  exact ⟨h1.alloc _, h2.alloc _, h3.alloc _, h4.alloc _, h5.alloc h5.size _⟩

theorem Held.set {w : World} {z : Nat} {stop : Int} {v : Value} {xs : List Ln} {W : World} (h : Held w z stop v xs W) {b : Nat} (hb : z < b) (hz : w.heap.size + 1 < z) (hv : ∀ c, v.ownBlock = some c → c < z) (u : Value) : Held w z stop v xs (W.setCell ⟨b, 0, none⟩ u) := by
  obtain ⟨h1, h2, h3, h4, h5⟩ := h
  refine ⟨h1.other (by omega) u, h2.other (by omega) u, h3.other (by omega) u, h4.kept (grownBy_setCell' W b u) ?_, h5.setCell (p := ⟨b, 0, none⟩) (by show _ ≤ b; omega) u⟩
  cases e : v.ownBlock with
  | none => exact .inl rfl
  | some c => have := hv c e; exact .inr (fun e2 => by cases e2; omega)
theorem Held.drewN {w : World} {z : Nat} {stop : Int} {v : Value} {xs : List Ln} {W : World} (h : Held w z stop v xs W) (n : Nat) : Held w z stop v xs (W.drewN n) := ⟨h.1, h.2.1, h.2.2.1, h.2.2.2.1, Below.drewN h.2.2.2.2 n⟩
theorem mkAppend (a b : List UInt8) : (⟨a.toArray⟩ : ByteArray) ++ ⟨b.toArray⟩ = ⟨(a ++ b).toArray⟩ := by
  rw [← Lib.mk_data ((⟨a.toArray⟩ : ByteArray) ++ ⟨b.toArray⟩), ByteArray.data_append, Array.toList_append]
theorem setOther {W : World} {b c : Nat} {t : TypeId} {v : Value} (h : Boxed W b t v) (hne : b ≠ c) (u : Value) : Boxed (W.setCell ⟨c, 0, none⟩ u) b t v := h.other hne u
/-- What holds between two rounds of the first loop. -/
def Inv1 (w : World) (z : Nat) (stop : Int) (v : Value) (xs : List Ln) (pre : List Ln) (W : World) : Prop :=
  Held w z stop v xs W ∧ Boxed W (z + 1) 9 (.string ⟨(pre.flatMap Ln.bytes).toArray⟩) ∧ Boxed W (z + 2) 3 (.int .i64 (pre.length : Nat))
theorem Inv1.turned {w : World} {z : Nat} {stop : Int} {v : Value} {xs pre : List Ln} {W W' : World} {B k : Nat} (h : Inv1 w z stop v xs pre W) (ht : Turned B k W W') (hB : w.heap.size + 1 < B) (hz : z + 2 < B) (hv : ∀ b, v.ownBlock = some b → b < B) : Inv1 w z stop v xs pre W' :=
  ⟨h.1.turned ht hB (by omega) hv, ht.box h.2.1 (.inl (by omega)), ht.box h.2.2 (.inl hz)⟩
theorem Inv1.alloc {w : World} {z : Nat} {stop : Int} {v : Value} {xs pre : List Ln} {W : World} (h : Inv1 w z stop v xs pre W) (o : Obj) : Inv1 w z stop v xs pre (W.alloc o) := ⟨h.1.alloc o, h.2.1.alloc o, h.2.2.alloc o⟩

theorem foldOne (p : Tmp) (v : Value) (t : Array Value) : ((#[p] : Array Tmp).zip #[v]).foldl (fun t (x : Tmp × Value) => t.setIfInBounds x.1 x.2) t = t.setIfInBounds p v := by simp
/-- What lies fast behind the first loop. -/
def Fix (w : World) (z : Nat) (stop : Int) (v : Value) (s : ByteArray) (n : Nat) (W : World) (b : Bool := false) : Prop :=
  Boxed W w.heap.size 3 (.int .i64 stop) ∧ Boxed W (w.heap.size + 1) 4 (.bool b) ∧ Boxed W z 23 v ∧ Boxed W (z + 1) 9 (.string s) ∧ Boxed W (z + 2) 3 (.int .i64 (n : Nat)) ∧ W.heap[z + 4]? = some (.deferred (some [])) ∧ Below w.heap.size w W
theorem Fix.kept {w : World} {z : Nat} {stop : Int} {v : Value} {s : ByteArray} {n : Nat} {W W' : World} {b : Bool} (h : Fix w z stop v s n W b) (hb : Below (z + 5) W W') (hz : w.heap.size + 2 ≤ z) : Fix w z stop v s n W' b := by
  obtain ⟨h1, h2, h3, h4, h5, h6, h7⟩ := h
  exact ⟨under h1 hb (by omega), under h2 hb (by omega), under h3 hb (by omega), under h4 hb (by omega), under h5 hb (by omega), (hb.block _ (by omega)).trans h6, h7.trans (hb.mono (by omega))⟩
theorem Fix.turned {w : World} {z : Nat} {stop : Int} {v : Value} {s : ByteArray} {n : Nat} {W W' : World} {B k : Nat} (h : Fix w z stop v s n W) (ht : Turned B k W W') (hz : w.heap.size + 2 ≤ z) (hB : z + 5 ≤ B) : Fix w z stop v s n W' :=
  h.kept (ht.below hB (Array.getElem?_eq_some_iff.1 h.2.2.2.2.2.1).1) hz
theorem Fix.alloc {w : World} {z : Nat} {stop : Int} {v : Value} {s : ByteArray} {n : Nat} {W : World} (h : Fix w z stop v s n W) (o : Obj) : Fix w z stop v s n (W.alloc o) := by
  obtain ⟨h1, h2, h3, h4, h5, h6, h7⟩ := h
  exact ⟨h1.alloc _, h2.alloc _, h3.alloc _, h4.alloc _, h5.alloc _, (Below.heap_alloc _ _ _ (Array.getElem?_eq_some_iff.1 h6).1).trans h6, h7.alloc h7.size _⟩
theorem Fix.set {w : World} {z : Nat} {stop : Int} {v : Value} {s : ByteArray} {n : Nat} {W : World} (h : Fix w z stop v s n W) {b : Nat} (hz : w.heap.size + 2 ≤ z) (hb : z + 5 ≤ b) (u : Value) : Fix w z stop v s n (W.setCell ⟨b, 0, none⟩ u) :=
  h.kept ((Below.refl _ _).setCell (p := ⟨b, 0, none⟩) hb u) hz
theorem Fix.put {w : World} {z : Nat} {stop : Int} {v : Value} {s : ByteArray} {n : Nat} {W : World} {b : Bool} (h : Fix w z stop v s n W b) (hz : w.heap.size + 2 ≤ z) (b' : Bool) : Fix w z stop v s n (W.setCell ⟨w.heap.size + 1, 0, none⟩ (.bool b')) b' := by
  obtain ⟨h1, h2, h3, h4, h5, h6, h7⟩ := h
  exact ⟨setOther h1 (by omega) _, Boxed.set _ h2, setOther h3 (by omega) _, setOther h4 (by omega) _, setOther h5 (by omega) _, (Below.heap_setCell _ _ _ _ (by show z + 4 ≠ w.heap.size + 1; omega)).trans h6, h7.setCell (p := ⟨w.heap.size + 1, 0, none⟩) (by show _ ≤ w.heap.size + 1; omega) _⟩
theorem boxStored {W : World} {b : Nat} {t : TypeId} {u v : Value} (h : Boxed (W.setCell ⟨b, 0, none⟩ v) b t u) : Boxed (W.setCell ⟨b, 0, none⟩ v) b t v := by
  unfold Boxed World.setCell at h ⊢
  simp only [Array.getElem?_modify, if_pos] at h ⊢
  cases ho : W.heap[b]? with
  | none => rw [ho] at h; cases h
  | some o =>
    rw [ho] at h
    cases o with
    | cells c e fr =>
      simp only [Option.map_some, Option.some.injEq, Obj.cells.injEq, Option.isSome_none, Bool.false_eq_true, if_false] at h ⊢
      obtain ⟨h1, h2, h3⟩ := h
      refine ⟨?_, h2, h3⟩
      have hs := congrArg Array.size h1
      simp at hs
      apply Array.ext
      · simp [hs]
      · intro i hi1 hi2
        have : i = 0 := by simp at hi2; omega
        subst this
        simp
    | _ => simp at h
/-- The bool that lies in a cell. -/
def flag (W : World) (a : Addr) : Bool := match W.cell? a with | some (.bool b) => b | _ => false
/-- What lies fast behind both loops. -/
def Live (w : World) (z : Nat) (stop : Int) (v : Value) (s : ByteArray) (n y k : Nat) (W : World) : Prop :=
  w.heap.size + 2 ≤ z ∧ z + 5 ≤ y ∧ ∃ b, Fix w z stop v s n W b ∧ Boxed W y 3 (.int .i64 (k : Nat)) ∧ W.heap[y + 2]? = some (.deferred (some []))
theorem Live.says {w : World} {z : Nat} {stop : Int} {v : Value} {s : ByteArray} {n y k : Nat} : ∀ W, Live w z stop v s n y k W →
    W.cell? ⟨w.heap.size, 0, none⟩ = some (.int .i64 stop) ∧ W.cell? ⟨z, 0, none⟩ = some v ∧ W.cell? ⟨z + 1, 0, none⟩ = some (.string s) ∧ W.cell? ⟨z + 1 + 1, 0, none⟩ = some (.int .i64 n) ∧
    W.cell? ⟨y, 0, none⟩ = some (.int .i64 k) ∧ W.cell? ⟨w.heap.size + 1, 0, none⟩ = some (.bool (flag W ⟨w.heap.size + 1, 0, none⟩)) ∧ W.frozen? ⟨w.heap.size + 1, 0, none⟩ = false ∧ Live w z stop v s n y k W := by
  intro W h
  obtain ⟨_, _, b, ⟨h1, h2, h3, h4, h5, h6, h7⟩, h8, h9⟩ := id h
  exact ⟨h1.cell, h3.cell, h4.cell, h5.cell, h8.cell, by unfold flag; rw [h2.cell], h2.frozen, h⟩
theorem Live.drew {w : World} {z : Nat} {stop : Int} {v : Value} {s : ByteArray} {n y k : Nat} {W : World} (h : Live w z stop v s n y k W) : Live w z stop v s n y k W.drew := by
  obtain ⟨a1, a2, b, h1, h2, h3⟩ := h
  exact ⟨a1, a2, b, h1.kept (Below.drew (Below.refl _ _)) a1, h2, h3⟩
theorem Live.call {w : World} {z : Nat} {stop : Int} {v : Value} {s : ByteArray} {n y k : Nat} {W W' : World} (h : Live w z stop v s n y k W) (hb : Below W.heap.size W W') : Live w z stop v s n y k W' := by
  obtain ⟨a1, a2, b, h1, h2, h3⟩ := h
  have := (Array.getElem?_eq_some_iff.1 h3).1
  exact ⟨a1, a2, b, h1.kept (hb.mono (by omega)) a1, under h2 hb (by omega), (hb.block _ (by omega)).trans h3⟩
theorem Live.put {w : World} {z : Nat} {stop : Int} {v : Value} {s : ByteArray} {n y k : Nat} {W : World} (h : Live w z stop v s n y k W) (b : Bool) : Live w z stop v s n y k (W.setCell ⟨w.heap.size + 1, 0, none⟩ (.bool b)) := by
  obtain ⟨a1, a2, b', h1, h2, h3⟩ := h
  exact ⟨a1, a2, b, h1.put a1 b, setOther h2 (by omega) _, (Below.heap_setCell _ _ _ _ (by show y + 2 ≠ w.heap.size + 1; omega)).trans h3⟩

set_option maxRecDepth 100000 in
set_option maxHeartbeats 4000000 in
theorem splitsLaw (s : ByteArray) (stop : Int) (w : World) (hm : s.size ≤ maxLen) (hw : (Lit.int .i64 stop).wf = true) :
    Calls Tryd.prog 3 #[.string s, .int .i64 stop] w fun e w' => e = .returned (.bool true) ∧ Below w.heap.size w w' := by
  unfold maxLen at hm
  refine callsIn_wide (n := 9).1 ?_
  refine callsIn_of_wp_marks Tryd.func3 rfl trivial ?_ rfl
  simp only [Tryd.ntmps3, List.size_toArray, List.length_cons, List.length_nil, Nat.reduceAdd, Nat.reduceSub, Array.replicate_succ, Array.replicate_zero, List.push_toArray, List.append_toArray, List.nil_append, List.cons_append]
  have bx1 : Boxed ((w.alloc (.cells #[.int .i64 stop] 3)).alloc (.cells #[.bool false] 4)) w.heap.size 3 (.int .i64 stop) := (Boxed.new w _ _).alloc _
  have bx2 := boxNew2 w (.cells #[.int .i64 stop] 3) 4 (.bool false)
  have bb : Below w.heap.size w ((w.alloc (.cells #[.int .i64 stop] 3)).alloc (.cells #[.bool false] 4)) := ((Below.refl _ w).alloc (Nat.le_refl _) _).alloc (by simp) _
  have hz0 : ((w.alloc (.cells #[.int .i64 stop] 3)).alloc (.cells #[.bool false] 4)).heap.size = w.heap.size + 2 := by simp
  have z1 : w.heap.size + 1 < w.heap.size + 2 := by omega
  by_cases h5 : 5000 < s.size
  · gi_wp2_with fail
    refine ⟨trivial, (callsIn_wide.2 (alive_any _)).mono ?_⟩
    rintro e w1 ⟨rfl, a1⟩
    rw [hz0] at a1
    have c2 := (under bx2 a1 (by omega)).cell
    have f2 := (under bx2 a1 (by omega)).frozen
    have b2 := under bx2 a1 (by omega)
    have b3 := bb.trans (a1.mono (by omega))
    gi_wp2
    have hset := Boxed.set (.bool true) b2
    have hc := hset.cell
    exact ⟨.bool true, by simp [results, Tryd.f3, go_sem, hc], rfl, b3.setCell (p := ⟨w.heap.size + 1, 0, none⟩) (by simp) _⟩
  have h6 : s.size ≤ 5000 := by omega
  gi_wp2_with fail
  refine ⟨trivial, (callsIn_wide.2 (alive_any _)).mono ?_⟩
  rintro e w1 ⟨rfl, a1⟩
  rw [hz0] at a1
  have d1 := under bx1 a1 (by omega)
  have d2 := under bx2 a1 (by omega)
  have d3 := bb.trans (a1.mono (by omega))
  have zs1 : w.heap.size + 2 ≤ w1.heap.size := by have := a1.size; rw [hz0] at this; exact this
  clear bx1 bx2 bb a1
  gi_wp2_with fail
  refine ⟨trivial, (callsIn_wide.2 (refSplit_any s (by omega) _)).mono ?_⟩
  rintro e w2 ⟨v, rfl, hown, a2⟩
  have e1 := under d1 a2 (by omega)
  have e2 := under d2 a2 (by omega)
  have e3 := d3.trans (a2.mono (by omega))
  have zs2 := a2.size
  have hown2 : w2.ownsRow w.heap.size 30 4 v (linesOf s.data.toList).length (cellsOf (linesOf s.data.toList)) := rowBase hown (by omega)
  have hvlt := hown.lt
  clear d1 d2 d3 a2 hown
  obtain ⟨ao, cap, rfl⟩ := rowForm hown2
  have hxs : ∃ xs, linesOf s.data.toList = xs := ⟨_, rfl⟩
  obtain ⟨xs, hxs⟩ := hxs
  rw [hxs] at hown2 hvlt ⊢
  have HXS := Lib.hid hxs
  clear hxs
  gi_wp2_with fail
  refine ⟨trivial, (callsIn_wide.2 (split_any s _)).mono ?_⟩
  rintro e w3 ⟨rfl, rfl⟩
  gi_wp2_with fail
  have k5 := Boxed.new w2 23 (.slice ao xs.length cap)
  have k6 := boxNew2 w2 (.cells #[.slice ao xs.length cap] 23) 9 (.string ⟨#[]⟩)
  have k7 := boxNew3 w2 (.cells #[.slice ao xs.length cap] 23) (.cells #[.string ⟨#[]⟩] 9) 3 (.int .i64 0)
  have k8 := boxNew4 w2 (.cells #[.slice ao xs.length cap] 23) (.cells #[.string ⟨#[]⟩] 9) (.cells #[.int .i64 0] 3) 9 (.string s)
  have held : Held w w2.heap.size stop (.slice ao xs.length cap) xs ((((w2.alloc (.cells #[.slice ao xs.length cap] 23)).alloc (.cells #[.string ⟨#[]⟩] 9)).alloc (.cells #[.int .i64 0] 3)).alloc (.cells #[.string s] 9)) :=
    Held.alloc (Held.alloc (Held.alloc ⟨e1.alloc _, e2.alloc _, k5, hown2.alloc _, e3.alloc (by omega) _⟩ _) _) _
  have HH := split_hands s (w2.heap.size + 3) _ k8 (by omega)
  rw [HXS.out] at HH
  have hz4 : ((((w2.alloc (.cells #[.slice ao xs.length cap] 23)).alloc (.cells #[.string ⟨#[]⟩] 9)).alloc (.cells #[.int .i64 0] 3)).alloc (.cells #[.string s] 9)).heap.size = w2.heap.size + 4 := by simp
  have hvl : ∀ b, (Value.slice ao xs.length cap).ownBlock = some b → b < w2.heap.size + 4 := fun b e => by have := (hvlt b e).2; omega
  have ab : ∀ k, Abide (w2.heap.size + 4) k (Inv1 w w2.heap.size stop (.slice ao xs.length cap) xs) := fun k s W W' hs ht => hs.turned ht (by omega) (by omega) hvl
  refine wp_rangedA (gf := 24) (lb := #[.pointer (some ⟨w2.heap.size + 3, 0, none⟩)]) rfl (enters_of Tryd.func24 (by kernel_rfl) rfl) HH (fun _ => rfl)
    (Inv1 w w2.heap.size stop (.slice ao xs.length cap) xs) (fun _ _ _ => False) (by rw [hz4]; exact ab _) (fun _ _ _ _ hs _ => hs) ⟨held, (k6.alloc _).alloc _, k7.alloc _⟩
    (fun a pre x a' W => ∃ Bx, w2.heap.size + 4 + 5 ≤ Bx ∧ a' = { tmps := (a.tmps.setIfInBounds 19 (.agg (lineV x))).setIfInBounds 8 (.pointer (some ⟨Bx, 0, none⟩)), defers := [] } ∧ Cells W Bx 29 (lineV x) ∧
      Inv1 w w2.heap.size stop (.slice ao xs.length cap) xs pre W)
    ?hM ?assign ?body ?done ?stop
  case hM =>
    rw [hz4]
    rintro a pre x a' _ W W' ⟨Bx, h1, h2, h3, h4⟩ ht
    exact ⟨Bx, h1, h2, (ht.same Bx h3.lt (.inr (by omega))).trans h3, ab 2 pre W W' h4 ht⟩
  case assign =>
    rw [hz4]
    intro l pre x post W hx hsz hi
    clear hx
    dsimp only [lineV]
    gi_wp2
    exact ⟨(Stay.refl _ _ W).alloc hsz _, W.heap.size, by omega, rfl, Cells.new _ _ _, hi.alloc _⟩
  case body =>
    rw [hz4]
    rintro l pre x post a' W hx hsz ⟨Bx, hB, rfl, hc, hi⟩
    have hlt : pre.length < xs.length := by rw [hx]; simp
    obtain ⟨g, rfl⟩ : ∃ g, ao = some ⟨g, 0, none⟩ := by
      rcases hown2.2 with ⟨_, h0⟩ | ⟨g, cap, cur, hv, _⟩
      · omega
      · exact ⟨g, by cases hv; rfl⟩
    obtain ⟨⟨h1, h2, h3, h4, h5⟩, h6', h7⟩ := hi
    simp only [List.setIfInBounds_toArray, List.set_cons_zero, List.set_cons_succ, lineV] at hc ⊢
    have c5 := h3.cell
    have c6 := h6'.cell
    have c7 : W.cell? ⟨w2.heap.size + 1 + 1, 0, none⟩ = some (.int .i64 (pre.length : Nat)) := h7.cell
    have m0 : W.cell? ⟨Bx, 0, none⟩ = some (.int .i64 x.no) := hc.cell 0
    have m1 : W.cell? ⟨Bx, 1, none⟩ = some (.int .i64 x.at_) := hc.cell 1
    have m2 : W.cell? ⟨Bx, 2, none⟩ = some (.string ⟨x.text.toArray⟩) := hc.cell 2
    have m3 : W.cell? ⟨Bx, 3, none⟩ = some (.bool x.ended) := hc.cell 3
    have t1 : decide (xs.length ≤ pre.length) = false := decide_eq_false (by omega)
    have hrow : ∀ j u, j < 4 → (lineV x).toList[j]? = some u → W.cell? ⟨g, pre.length * 4 + j, none⟩ = some u := fun j u hj hu => by
      have := h4.cells (g := g) rfl (pre.length * 4 + j) u (by rw [hx, cellsOf_at _ _ _ _ hj]; exact hu)
      have hadd : (⟨g, 0, none⟩ : Addr).add (pre.length * 4 + j) = ⟨g, pre.length * 4 + j, none⟩ := by unfold Addr.add; split <;> simp_all
      rwa [hadd] at this
    have r0 : W.cell? ⟨g, pre.length * 4, none⟩ = some (.int .i64 x.no) := hrow 0 _ (by omega) rfl
    have r1 : W.cell? ⟨g, pre.length * 4 + 1, none⟩ = some (.int .i64 x.at_) := hrow 1 _ (by omega) rfl
    have r2 : W.cell? ⟨g, pre.length * 4 + 1 + 1, none⟩ = some (.string ⟨x.text.toArray⟩) := hrow 2 _ (by omega) rfl
    have r3 : W.cell? ⟨g, pre.length * 4 + 1 + 1 + 1, none⟩ = some (.bool x.ended) := hrow 3 _ (by omega) rfl
    have hat := (linesOf_at s.data.toList pre x post (HXS.out.trans hx)).2
    have hjn : (pre.flatMap Ln.bytes).length + x.text.length + 1 ≤ 100000 := by
      have e := linesOf_join s.data.toList
      rw [HXS.out, hx, List.flatMap_append, List.flatMap_cons] at e
      have := congrArg List.length e
      rw [← Lib.size_eq] at this
      simp only [List.length_append, Ln.bytes] at this
      omega
    have HX := Lib.hid hx
    clear hx hrow
    generalize hJ : pre.flatMap Ln.bytes = J at *
    have HJ := Lib.hid hJ
    clear hJ
    have t2 : ((x.at_ : Int) == (J.length : Int)) = true := by rw [hat]; simp
    have t3 : ((x.at_ : Int) != (J.length : Int)) = false := by rw [bne, t2]; rfl
    clear hat
    gi_wp2
    refine quiet_round (by kernel_rfl) (by kernel_rfl) (by kernel_rfl) ?_
    repeat (gi_big_quiet_step (fail))
    refine wpQuietIn_nil ?_
    rintro _ ⟨nq, rfl⟩
    have f6 := h6'.frozen
    have f7 : W.frozen? ⟨w2.heap.size + 1 + 1, 0, none⟩ = false := h7.frozen
    have hn2 : pre.length ≤ 10000000 := by
      have := linesOf_length s.data.toList
      rw [HXS.out, ← Lib.size_eq] at this
      omega
    have hold : Held w w2.heap.size stop (.slice (some ⟨g, 0, none⟩) xs.length cap) xs W := ⟨h1, h2, h3, h4, h5⟩
    have hvz : ∀ c, (Value.slice (some ⟨g, 0, none⟩) xs.length cap).ownBlock = some c → c < w2.heap.size := fun c e => (hvlt c e).2
    have hb6 : Boxed (W.drewN nq) (w2.heap.size + 1) 9 (.string ⟨J.toArray⟩) := h6'
    have hb7 : Boxed (W.drewN nq) (w2.heap.size + 2) 3 (.int .i64 (pre.length : Nat)) := h7
    have hfl : (pre ++ [x]).flatMap Ln.bytes = J ++ x.bytes := by rw [List.flatMap_append, HJ.out]; simp
    have HFL := Lib.hid hfl
    clear hfl
    cases he : x.ended
    · rw [he] at m3
      have hxb : x.bytes = x.text := by unfold Ln.bytes; rw [he]; simp
      have HXB := Lib.hid hxb
      clear hxb
      gi_wp2
      refine ⟨((⟨Nat.le_refl _, fun _ _ _ => rfl⟩ : Stay (w2.heap.size + 4) (3 + 2) W (W.drewN nq)).setCell (.inl (by show w2.heap.size + 1 < _; omega)) _).setCell (.inl (by show w2.heap.size + 1 + 1 < _; omega)) _,
        ((hold.drewN nq).set (by omega) (by omega) hvz _).set (b := w2.heap.size + 1 + 1) (by omega) (by omega) hvz _, ?_, ?_⟩
      · rw [HFL.out, HXB.out, ← mkAppend]
        exact setOther (Boxed.set _ hb6) (by omega) _
      · rw [List.length_append]
        exact Boxed.set _ (setOther hb7 (by omega) _)
    · rw [he] at m3
      have hxb : x.bytes = x.text ++ [10] := by unfold Ln.bytes; rw [he]; rfl
      have HXB := Lib.hid hxb
      clear hxb
      gi_wp2
      refine ⟨(((⟨Nat.le_refl _, fun _ _ _ => rfl⟩ : Stay (w2.heap.size + 4) (3 + 2) W (W.drewN nq)).setCell (.inl (by show w2.heap.size + 1 < _; omega)) _).setCell (.inl (by show w2.heap.size + 1 < _; omega)) _).setCell (.inl (by show w2.heap.size + 1 + 1 < _; omega)) _,
        (((hold.drewN nq).set (b := w2.heap.size + 1) (by omega) (by omega) hvz _).set (b := w2.heap.size + 1) (by omega) (by omega) hvz _).set (b := w2.heap.size + 1 + 1) (by omega) (by omega) hvz _, ?_, ?_⟩
      · rw [HFL.out, HXB.out, ← List.append_assoc, ← mkAppend, ← mkAppend]
        exact setOther (Boxed.set _ (Boxed.set _ hb6)) (by omega) _
      · rw [List.length_append]
        exact Boxed.set _ (setOther (setOther hb7 (by omega) _) (by omega) _)
  case stop => exact fun _ _ _ _ h => h.elim
  case done =>
    rw [hz4]
    clear HH
    rintro W ⟨⟨h1, h2, h3, _, h5⟩, h6', h7⟩ hmark
    rw [show (⟨(xs.flatMap Ln.bytes).toArray⟩ : ByteArray) = s by rw [← HXS.out, linesOf_join]] at h6'
    have fix : Fix w w2.heap.size stop (.slice ao xs.length cap) s xs.length W := ⟨h1, h2, h3, h6', h7, hmark, h5⟩
    have zW : w2.heap.size + 5 ≤ W.heap.size := (Array.getElem?_eq_some_iff.1 hmark).1
    have zz : w.heap.size + 2 ≤ w2.heap.size := by omega
    have hxl : xs.length ≤ 5000 := by
      have := linesOf_length s.data.toList
      rw [HXS.out, ← Lib.size_eq] at this
      omega
    clear h1 h2 h3 h5 h6' h7 hmark held k5 k6 k7 k8 ab hz4 e1 e2 e3 hown2 hvl hvlt
    gi_wp2_with fail
    refine ⟨trivial, (callsIn_wide.2 (split_any s _)).mono ?_⟩
    rintro e w3 ⟨rfl, rfl⟩
    gi_wp2_with fail
    have k9 := Boxed.new W 3 (.int .i64 0)
    have k10 := boxNew2 W (.cells #[.int .i64 0] 3) 9 (.string s)
    have HH := split_hands s (W.heap.size + 1) _ k10 (by omega)
    rw [HXS.out] at HH
    have hz5 : ((W.alloc (.cells #[.int .i64 0] 3)).alloc (.cells #[.string s] 9)).heap.size = W.heap.size + 2 := by simp
    have ab : ∀ k, Abide (W.heap.size + 2) k (fun (pre : List Ln) W' => Fix w w2.heap.size stop (.slice ao xs.length cap) s xs.length W' ∧ Boxed W' W.heap.size 3 (.int .i64 (pre.length : Nat))) :=
      fun k s W1 W2 hs ht => ⟨hs.1.turned ht zz (by omega), ht.box hs.2 (.inl (by omega))⟩
    refine wp_rangedA (gf := 24) (lb := #[.pointer (some ⟨W.heap.size + 1, 0, none⟩)]) rfl (enters_of Tryd.func24 (by kernel_rfl) rfl) HH (fun _ => rfl)
      (fun pre W' => Fix w w2.heap.size stop (.slice ao xs.length cap) s xs.length W' ∧ Boxed W' W.heap.size 3 (.int .i64 (pre.length : Nat)))
      (fun c pre W' => (Fix w w2.heap.size stop (.slice ao xs.length cap) s xs.length W' ∧ Boxed W' W.heap.size 3 (.int .i64 (pre.length : Nat))) ∧ (pre.length : Int) = stop ∧ c = .exit 2)
      (by rw [hz5]; exact ab _) (fun c pre W1 W2 hs ht => ⟨ab 2 pre W1 W2 hs.1 (by rw [hz5] at ht; exact ht), hs.2⟩) ⟨(fix.alloc _).alloc _, k9.alloc _⟩
      (fun a pre x a' W' => a' = { tmps := a.tmps.setIfInBounds 51 (.agg (lineV x)), defers := [] } ∧ Fix w w2.heap.size stop (.slice ao xs.length cap) s xs.length W' ∧ Boxed W' W.heap.size 3 (.int .i64 (pre.length : Nat)))
      ?hM2 ?assign2 ?body2 ?done2 ?stop2
    case hM2 =>
      rw [hz5]
      rintro a pre x a' _ W1 W2 ⟨g1, g2⟩ ht
      exact ⟨g1, ab 2 pre W1 W2 g2 ht⟩
    case assign2 =>
      rw [hz5]
      intro l pre x post W1 hx hsz hi
      clear hx
      dsimp only [lineV]
      gi_wp2
      exact ⟨Stay.refl _ _ _, by rw [foldOne], hi⟩
    case body2 =>
      rw [hz5]
      rintro l pre x post a' W1 hx hsz ⟨rfl, gf, gb⟩
      have hn : pre.length < 5000 := by have := congrArg List.length hx; simp at this; omega
      have c9 := gb.cell
      have f9 := gb.frozen
      have c3 := gf.1.cell
      have hlen : (pre ++ [x]).length = pre.length + 1 := List.length_append
      have HL := Lib.hid hlen
      clear hx hlen
      simp only [List.setIfInBounds_toArray, List.set_cons_zero, List.set_cons_succ, lineV]
      have gf' : Fix w w2.heap.size stop (.slice ao xs.length cap) s xs.length (W1.setCell ⟨W.heap.size, 0, none⟩ (.int .i64 (pre.length + 1 : Nat))) := gf.set (by omega) (by omega) _
      have gb' := Boxed.set (.int .i64 (pre.length + 1 : Nat)) gb
      cases hq : (((pre.length : Int) + 1) == stop)
      · gi_wp2
        refine ⟨(Stay.refl _ _ _).setCell (.inl (by show W.heap.size < _; omega)) _, gf', ?_⟩
        rw [HL.out]
        exact gb'
      · gi_wp2
        refine ⟨(Stay.refl _ _ _).setCell (.inl (by show W.heap.size < _; omega)) _, ⟨gf', ?_⟩, ?_, rfl⟩
        · rw [HL.out]
          exact gb'
        · rw [HL.out]
          have := eq_of_beq hq
          omega
    case done2 =>
      rw [hz5]
      rintro W1 ⟨gf, gb⟩ hmark
      clear k9 k10 HH fix ab
      have KS := Lib.hid (Live.says (w := w) (z := w2.heap.size) (stop := stop) (v := .slice ao xs.length cap) (s := s) (n := xs.length) (y := W.heap.size) (k := xs.length))
      have KC : ∀ W', Calls Tryd.prog 11 #[.string s] W' fun e w' => e = .returned (.int .i64 xs.length) ∧ Below W'.heap.size W' w' := fun W' => by have := count_any s W' (by omega); rwa [HXS.out] at this
      have KC := Lib.hid KC
      have hlive : Live w w2.heap.size stop (.slice ao xs.length cap) s xs.length W.heap.size xs.length W1 := ⟨zz, zW, false, gf, gb, hmark⟩
      clear gf gb hmark
      gi_wp2_with fail
      refine wpIn_wide.2 ?_
      refine wp_region_noPanic ?_
      refine wp_region_held_drew (S := (fun w' => w'.cell? ⟨w.heap.size, 0, none⟩ = some (.int .i64 stop) ∧ w'.cell? ⟨w2.heap.size, 0, none⟩ = some (.slice ao xs.length cap) ∧ w'.cell? ⟨w2.heap.size + 1, 0, none⟩ = some (.string s) ∧ w'.cell? ⟨w2.heap.size + 1 + 1, 0, none⟩ = some (.int .i64 xs.length) ∧ w'.cell? ⟨W.heap.size, 0, none⟩ = some (.int .i64 xs.length) ∧ w'.cell? ⟨w.heap.size + 1, 0, none⟩ = some (.bool (flag w' ⟨w.heap.size + 1, 0, none⟩)) ∧ w'.frozen? ⟨w.heap.size + 1, 0, none⟩ = false ∧ Live w w2.heap.size stop (.slice ao xs.length cap) s xs.length W.heap.size xs.length w')) (by kernel_rfl) ?_ (fun hHeld => ?_)
      · refine KS.out _ ?_; repeat (first | assumption | (refine Live.drew ?_) | (refine Live.call ?_ (by assumption)) | (refine Live.put ?_ _))
      refine wpAnyH_take (i := 0) (oi := { dst := some 57, op := Op.load 9 (Operand.tmp 6), type := 9, pos := "law.go:42", after := #[], guard := none }) (v := ?_) rfl (by kernel_rfl) (by kernel_rfl) (by kernel_rfl) (fun _ _ _ h => h) (Or.inl ⟨by rfl, ?_⟩) (by assumption) ?_
      rotate_left
      · intro w hSw; (try dsimp only at hSw); go_simp; (try with_reducible rfl)
      (try simp only [Act.put, List.setIfInBounds_toArray, List.set_cons_zero, List.set_cons_succ])
      refine wpAnyH_take (i := 1) (oi := { dst := some 58, op := Op.move (Operand.tmp 0), type := 9, pos := "law.go:42", after := #[], guard := none }) (v := ?_) rfl (by kernel_rfl) (by kernel_rfl) (by kernel_rfl) (fun _ _ _ h => h) (Or.inl ⟨by rfl, ?_⟩) (by assumption) ?_
      rotate_left
      · intro w hSw; (try dsimp only at hSw); go_simp; (try with_reducible rfl)
      (try simp only [Act.put, List.setIfInBounds_toArray, List.set_cons_zero, List.set_cons_succ])
      refine wpAnyH_take (i := 2) (oi := { dst := some 59, op := Op.binOp BinOp.eql 9 (Operand.tmp 57) (Operand.tmp 58) 9, type := 4, pos := "law.go:42", after := #[{ on := 0, ground := Ground.data }, { on := 1, ground := Ground.data }], guard := none }) (v := ?_) rfl (by kernel_rfl) (by kernel_rfl) (by kernel_rfl) (fun _ _ _ h => h) (Or.inl ⟨by rfl, ?_⟩) (by assumption) ?_
      rotate_left
      · intro w hSw; (try dsimp only at hSw); go_simp; (try with_reducible rfl)
      (try simp only [Act.put, List.setIfInBounds_toArray, List.set_cons_zero, List.set_cons_succ])
      refine wpAnyH_take (i := 3) (oi := { dst := some 60, op := Op.move (Operand.tmp 59), type := 4, pos := "law.go:42", after := #[{ on := 2, ground := Ground.data }], guard := none }) (v := ?_) rfl (by kernel_rfl) (by kernel_rfl) (by kernel_rfl) (fun _ _ _ h => h) (Or.inl ⟨by rfl, ?_⟩) (by assumption) ?_
      rotate_left
      · intro w hSw; (try dsimp only at hSw); go_simp; (try with_reducible rfl)
      (try simp only [Act.put, List.setIfInBounds_toArray, List.set_cons_zero, List.set_cons_succ])
      refine wpAnyH_take (i := 4) (oi := { dst := some 61, op := Op.load 3 (Operand.tmp 7), type := 3, pos := "law.go:42", after := #[{ on := 3, ground := Ground.guard }], guard := some (3, true) }) (v := ?_) rfl (by kernel_rfl) (by kernel_rfl) (by kernel_rfl) (fun _ _ _ h => h) (Or.inl ⟨by rfl, ?_⟩) (by assumption) ?_
      rotate_left
      · intro w hSw; (try dsimp only at hSw); go_simp; (try with_reducible rfl)
      (try simp only [Act.put, List.setIfInBounds_toArray, List.set_cons_zero, List.set_cons_succ])
      refine wpAnyH_take (i := 5) (oi := { dst := some 62, op := Op.load 23 (Operand.tmp 5), type := 23, pos := "law.go:42", after := #[{ on := 3, ground := Ground.guard }], guard := some (3, true) }) (v := ?_) rfl (by kernel_rfl) (by kernel_rfl) (by kernel_rfl) (fun _ _ _ h => h) (Or.inl ⟨by rfl, ?_⟩) (by assumption) ?_
      rotate_left
      · intro w hSw; (try dsimp only at hSw); go_simp; (try with_reducible rfl)
      (try simp only [Act.put, List.setIfInBounds_toArray, List.set_cons_zero, List.set_cons_succ])
      refine wpAnyH_take (i := 6) (oi := { dst := some 63, op := Op.call { callee := Callee.builtin Builtin.len, args := #[Operand.tmp 62], argTypes := #[23] }, type := 3, pos := "law.go:42", after := #[{ on := 5, ground := Ground.data }, { on := 3, ground := Ground.guard }], guard := some (3, true) }) (v := ?_) rfl (by kernel_rfl) (by kernel_rfl) (by kernel_rfl) (fun _ _ _ h => h) (Or.inl ⟨by rfl, ?_⟩) (by assumption) ?_
      rotate_left
      · intro w hSw; (try dsimp only at hSw); go_simp; (try with_reducible rfl)
      (try simp only [Act.put, List.setIfInBounds_toArray, List.set_cons_zero, List.set_cons_succ])
      refine wpAnyH_take (i := 7) (oi := { dst := some 64, op := Op.binOp BinOp.eql 3 (Operand.tmp 61) (Operand.tmp 63) 3, type := 4, pos := "law.go:42", after := #[{ on := 4, ground := Ground.data }, { on := 6, ground := Ground.data }, { on := 3, ground := Ground.guard }], guard := some (3, true) }) (v := ?_) rfl (by kernel_rfl) (by kernel_rfl) (by kernel_rfl) (fun _ _ _ h => h) (Or.inl ⟨by rfl, ?_⟩) (by assumption) ?_
      rotate_left
      · intro w hSw; (try dsimp only at hSw); go_simp; (try with_reducible rfl)
      (try simp only [Act.put, List.setIfInBounds_toArray, List.set_cons_zero, List.set_cons_succ])
      refine wpAnyH_take (i := 8) (oi := { dst := some 65, op := Op.pick (Operand.tmp 60) (Operand.tmp 64) (Operand.const (Value.bool false)), type := 4, pos := "law.go:42", after := #[{ on := 3, ground := Ground.data }, { on := 7, ground := Ground.data }], guard := none }) (v := ?_) rfl (by kernel_rfl) (by kernel_rfl) (by kernel_rfl) (fun _ _ _ h => h) (Or.inl ⟨by rfl, ?_⟩) (by assumption) ?_
      rotate_left
      · intro w hSw; (try dsimp only at hSw); go_simp; (try with_reducible rfl)
      (try simp only [Act.put, List.setIfInBounds_toArray, List.set_cons_zero, List.set_cons_succ])
      refine wpAnyH_take (i := 9) (oi := { dst := some 66, op := Op.move (Operand.tmp 65), type := 4, pos := "law.go:42", after := #[{ on := 8, ground := Ground.data }, { on := 3, ground := Ground.chain }], guard := none }) (v := ?_) rfl (by kernel_rfl) (by kernel_rfl) (by kernel_rfl) (fun _ _ _ h => h) (Or.inl ⟨by rfl, ?_⟩) (by assumption) ?_
      rotate_left
      · intro w hSw; (try dsimp only at hSw); go_simp; (try with_reducible rfl)
      (try simp only [Act.put, List.setIfInBounds_toArray, List.set_cons_zero, List.set_cons_succ])
      refine wpAnyH_take (i := 10) (oi := { dst := some 67, op := Op.move (Operand.tmp 0), type := 9, pos := "law.go:42", after := #[{ on := 9, ground := Ground.guard }], guard := some (9, true) }) (v := ?_) rfl (by kernel_rfl) (by kernel_rfl) (by kernel_rfl) (fun _ _ _ h => h) (Or.inl ⟨by rfl, ?_⟩) (by assumption) ?_
      rotate_left
      · intro w hSw; (try dsimp only at hSw); go_simp; (try with_reducible rfl)
      (try simp only [Act.put, List.setIfInBounds_toArray, List.set_cons_zero, List.set_cons_succ])
      refine wpAnyH_take (i := 12) (oi := { dst := some 69, op := Op.load 23 (Operand.tmp 5), type := 23, pos := "law.go:42", after := #[{ on := 9, ground := Ground.guard }], guard := some (9, true) }) (v := ?_) rfl (by kernel_rfl) (by kernel_rfl) (by kernel_rfl) (fun _ _ _ h => h) (Or.inl ⟨by rfl, ?_⟩) (by assumption) ?_
      rotate_left
      · intro w hSw; (try dsimp only at hSw); go_simp; (try with_reducible rfl)
      (try simp only [Act.put, List.setIfInBounds_toArray, List.set_cons_zero, List.set_cons_succ])
      refine wpAnyH_take (i := 13) (oi := { dst := some 70, op := Op.call { callee := Callee.builtin Builtin.len, args := #[Operand.tmp 69], argTypes := #[23] }, type := 3, pos := "law.go:42", after := #[{ on := 12, ground := Ground.data }, { on := 9, ground := Ground.guard }], guard := some (9, true) }) (v := ?_) rfl (by kernel_rfl) (by kernel_rfl) (by kernel_rfl) (fun _ _ _ h => h) (Or.inl ⟨by rfl, ?_⟩) (by assumption) ?_
      rotate_left
      · intro w hSw; (try dsimp only at hSw); go_simp; (try with_reducible rfl)
      (try simp only [Act.put, List.setIfInBounds_toArray, List.set_cons_zero, List.set_cons_succ])
      refine wpAnyH_ready (rs := [11]) (by kernel_rfl) (by simp) ?_
      refine AllReadyH.cons (o := { dst := some 68, op := Op.call { callee := Callee.value (Operand.func 11), args := #[Operand.tmp 67], argTypes := #[9] }, type := 3, pos := "law.go:42", after := #[{ on := 10, ground := Ground.data }, { on := 9, ground := Ground.chain }, { on := 9, ground := Ground.guard }], guard := some (9, true) }) rfl (fun K hK => ?_) AllReadyH.nil
      go_simp
      go_at_call 11
      refine (KC.out _).mono ?_
      rintro e w5 ⟨rfl, hb5⟩
      refine hK.out _ _ (by (refine KS.out _ ?_; repeat (first | (exact hHeld.2.2.2.2.2.2.2) | (refine Live.drew ?_) | (refine Live.call ?_ (by assumption)) | (refine Live.put ?_ _)))) (fun hHeld2 => ?_)
      clear hK K hHeld
      (try simp only [Act.put, List.setIfInBounds_toArray, List.set_cons_zero, List.set_cons_succ])
      refine wpAnyH_take (i := 14) (oi := { dst := some 71, op := Op.binOp BinOp.eql 3 (Operand.tmp 68) (Operand.tmp 70) 3, type := 4, pos := "law.go:42", after := #[{ on := 11, ground := Ground.data }, { on := 13, ground := Ground.data }, { on := 9, ground := Ground.guard }], guard := some (9, true) }) (v := ?_) rfl (by kernel_rfl) (by kernel_rfl) (by kernel_rfl) (fun _ _ _ h => h) (Or.inl ⟨by rfl, ?_⟩) (by assumption) ?_
      rotate_left
      · intro w hSw; (try dsimp only at hSw); go_simp; (try with_reducible rfl)
      (try simp only [Act.put, List.setIfInBounds_toArray, List.set_cons_zero, List.set_cons_succ])
      refine wpAnyH_take (i := 15) (oi := { dst := some 72, op := Op.pick (Operand.tmp 66) (Operand.tmp 71) (Operand.const (Value.bool false)), type := 4, pos := "law.go:42", after := #[{ on := 9, ground := Ground.data }, { on := 14, ground := Ground.data }], guard := none }) (v := ?_) rfl (by kernel_rfl) (by kernel_rfl) (by kernel_rfl) (fun _ _ _ h => h) (Or.inl ⟨by rfl, ?_⟩) (by assumption) ?_
      rotate_left
      · intro w hSw; (try dsimp only at hSw); go_simp; (try with_reducible rfl)
      (try simp only [Act.put, List.setIfInBounds_toArray, List.set_cons_zero, List.set_cons_succ])
      refine wpAnyH_take (i := 16) (oi := { dst := some 73, op := Op.move (Operand.tmp 72), type := 4, pos := "law.go:42", after := #[{ on := 15, ground := Ground.data }, { on := 11, ground := Ground.chain }], guard := none }) (v := ?_) rfl (by kernel_rfl) (by kernel_rfl) (by kernel_rfl) (fun _ _ _ h => h) (Or.inl ⟨by rfl, ?_⟩) (by assumption) ?_
      rotate_left
      · intro w hSw; (try dsimp only at hSw); go_simp; (try with_reducible rfl)
      (try simp only [Act.put, List.setIfInBounds_toArray, List.set_cons_zero, List.set_cons_succ])
      refine wpAnyH_take (i := 17) (oi := { dst := some 74, op := Op.load 3 (Operand.tmp 9), type := 3, pos := "law.go:42", after := #[{ on := 16, ground := Ground.guard }], guard := some (16, true) }) (v := ?_) rfl (by kernel_rfl) (by kernel_rfl) (by kernel_rfl) (fun _ _ _ h => h) (Or.inl ⟨by rfl, ?_⟩) (by assumption) ?_
      rotate_left
      · intro w hSw; (try dsimp only at hSw); go_simp; (try with_reducible rfl)
      (try simp only [Act.put, List.setIfInBounds_toArray, List.set_cons_zero, List.set_cons_succ])
      refine wpAnyH_take (i := 18) (oi := { dst := some 75, op := Op.load 23 (Operand.tmp 5), type := 23, pos := "law.go:42", after := #[{ on := 16, ground := Ground.guard }], guard := some (16, true) }) (v := ?_) rfl (by kernel_rfl) (by kernel_rfl) (by kernel_rfl) (fun _ _ _ h => h) (Or.inl ⟨by rfl, ?_⟩) (by assumption) ?_
      rotate_left
      · intro w hSw; (try dsimp only at hSw); go_simp; (try with_reducible rfl)
      (try simp only [Act.put, List.setIfInBounds_toArray, List.set_cons_zero, List.set_cons_succ])
      refine wpAnyH_take (i := 19) (oi := { dst := some 76, op := Op.call { callee := Callee.builtin Builtin.len, args := #[Operand.tmp 75], argTypes := #[23] }, type := 3, pos := "law.go:42", after := #[{ on := 18, ground := Ground.data }, { on := 16, ground := Ground.guard }], guard := some (16, true) }) (v := ?_) rfl (by kernel_rfl) (by kernel_rfl) (by kernel_rfl) (fun _ _ _ h => h) (Or.inl ⟨by rfl, ?_⟩) (by assumption) ?_
      rotate_left
      · intro w hSw; (try dsimp only at hSw); go_simp; (try with_reducible rfl)
      (try simp only [Act.put, List.setIfInBounds_toArray, List.set_cons_zero, List.set_cons_succ])
      refine wpAnyH_take (i := 20) (oi := { dst := some 77, op := Op.binOp BinOp.eql 3 (Operand.tmp 74) (Operand.tmp 76) 3, type := 4, pos := "law.go:42", after := #[{ on := 17, ground := Ground.data }, { on := 19, ground := Ground.data }, { on := 16, ground := Ground.guard }], guard := some (16, true) }) (v := ?_) rfl (by kernel_rfl) (by kernel_rfl) (by kernel_rfl) (fun _ _ _ h => h) (Or.inl ⟨by rfl, ?_⟩) (by assumption) ?_
      rotate_left
      · intro w hSw; (try dsimp only at hSw); go_simp; (try with_reducible rfl)
      (try simp only [Act.put, List.setIfInBounds_toArray, List.set_cons_zero, List.set_cons_succ])
      refine wpAnyH_take (i := 21) (oi := { dst := some 78, op := Op.move (Operand.tmp 77), type := 4, pos := "law.go:42", after := #[{ on := 20, ground := Ground.data }, { on := 16, ground := Ground.chain }, { on := 16, ground := Ground.guard }], guard := some (16, true) }) (v := ?_) rfl (by kernel_rfl) (by kernel_rfl) (by kernel_rfl) (fun _ _ _ h => h) (Or.inl ⟨by rfl, ?_⟩) (by assumption) ?_
      rotate_left
      · intro w hSw; (try dsimp only at hSw); go_simp; (try with_reducible rfl)
      (try simp only [Act.put, List.setIfInBounds_toArray, List.set_cons_zero, List.set_cons_succ])
      refine wpAnyH_take (i := 22) (oi := { dst := some 79, op := Op.load 3 (Operand.tmp 9), type := 3, pos := "law.go:42", after := #[{ on := 21, ground := Ground.guard }], guard := some (21, false) }) (v := undef) rfl (by kernel_rfl) (by kernel_rfl) (by kernel_rfl) (fun _ _ _ h => h) (Or.inr ⟨by rfl, rfl⟩) (by assumption) ?_
      (try simp only [Act.put, List.setIfInBounds_toArray, List.set_cons_zero, List.set_cons_succ])
      refine wpAnyH_take (i := 23) (oi := { dst := some 80, op := Op.load 3 (Operand.tmp 3), type := 3, pos := "law.go:42", after := #[{ on := 21, ground := Ground.guard }], guard := some (21, false) }) (v := undef) rfl (by kernel_rfl) (by kernel_rfl) (by kernel_rfl) (fun _ _ _ h => h) (Or.inr ⟨by rfl, rfl⟩) (by assumption) ?_
      (try simp only [Act.put, List.setIfInBounds_toArray, List.set_cons_zero, List.set_cons_succ])
      refine wpAnyH_take (i := 24) (oi := { dst := some 81, op := Op.binOp BinOp.eql 3 (Operand.tmp 79) (Operand.tmp 80) 3, type := 4, pos := "law.go:42", after := #[{ on := 22, ground := Ground.data }, { on := 23, ground := Ground.data }, { on := 21, ground := Ground.guard }], guard := some (21, false) }) (v := undef) rfl (by kernel_rfl) (by kernel_rfl) (by kernel_rfl) (fun _ _ _ h => h) (Or.inr ⟨by rfl, rfl⟩) (by assumption) ?_
      (try simp only [Act.put, List.setIfInBounds_toArray, List.set_cons_zero, List.set_cons_succ])
      refine wpAnyH_take (i := 25) (oi := { dst := some 82, op := Op.pick (Operand.tmp 78) (Operand.const (Value.bool true)) (Operand.tmp 81), type := 4, pos := "law.go:42", after := #[{ on := 21, ground := Ground.data }, { on := 24, ground := Ground.data }, { on := 16, ground := Ground.guard }], guard := some (16, true) }) (v := ?_) rfl (by kernel_rfl) (by kernel_rfl) (by kernel_rfl) (fun _ _ _ h => h) (Or.inl ⟨by rfl, ?_⟩) (by assumption) ?_
      rotate_left
      · intro w hSw; (try dsimp only at hSw); go_simp; (try with_reducible rfl)
      (try simp only [Act.put, List.setIfInBounds_toArray, List.set_cons_zero, List.set_cons_succ])
      refine wpAnyH_take (i := 26) (oi := { dst := some 83, op := Op.pick (Operand.tmp 73) (Operand.tmp 82) (Operand.const (Value.bool false)), type := 4, pos := "law.go:42", after := #[{ on := 16, ground := Ground.data }, { on := 25, ground := Ground.data }], guard := none }) (v := ?_) rfl (by kernel_rfl) (by kernel_rfl) (by kernel_rfl) (fun _ _ _ h => h) (Or.inl ⟨by rfl, ?_⟩) (by assumption) ?_
      rotate_left
      · intro w hSw; (try dsimp only at hSw); go_simp; (try with_reducible rfl)
      (try simp only [Act.put, List.setIfInBounds_toArray, List.set_cons_zero, List.set_cons_succ])
      refine wpAnyH_ready (rs := [27]) (by kernel_rfl) (by simp) ?_
      refine AllReadyH.cons (o := { dst := none, op := Op.store 4 (Operand.tmp 4) (Operand.tmp 83), type := 0, pos := "law.go:42", after := #[{ on := 26, ground := Ground.data }, { on := 21, ground := Ground.chain }, { on := 0, ground := Ground.phase }, { on := 1, ground := Ground.phase }, { on := 2, ground := Ground.phase }, { on := 3, ground := Ground.phase }, { on := 4, ground := Ground.phase }, { on := 5, ground := Ground.phase }, { on := 6, ground := Ground.phase }, { on := 7, ground := Ground.phase }, { on := 8, ground := Ground.phase }, { on := 9, ground := Ground.phase }, { on := 10, ground := Ground.phase }, { on := 11, ground := Ground.phase }, { on := 12, ground := Ground.phase }, { on := 13, ground := Ground.phase }, { on := 14, ground := Ground.phase }, { on := 15, ground := Ground.phase }, { on := 16, ground := Ground.phase }, { on := 17, ground := Ground.phase }, { on := 18, ground := Ground.phase }, { on := 19, ground := Ground.phase }, { on := 20, ground := Ground.phase }, { on := 21, ground := Ground.phase }, { on := 22, ground := Ground.phase }, { on := 23, ground := Ground.phase }, { on := 24, ground := Ground.phase }, { on := 25, ground := Ground.phase }, { on := 26, ground := Ground.phase }], guard := none }) rfl (fun K hK => ?_) AllReadyH.nil
      have hl5 := hHeld2.2.2.2.2.2.2.2
      go_split_ands
      go_simp
      refine hK.out _ _ (KS.out _ (hl5.put true)) (fun _ => ?_)
      refine wpAnyH_done (by kernel_rfl) ?_ _
      refine NoPanic.normal ?_
      clear hK K
      (try simp only [Act.put, List.setIfInBounds_toArray, List.set_cons_zero, List.set_cons_succ])
      have hl6 := hl5.put true
      generalize hW6 : w5.setCell ⟨w.heap.size + 1, 0, none⟩ (.bool true) = w6 at *
      have b6 : Boxed w6 (w.heap.size + 1) 4 (.bool true) := by obtain ⟨_, _, b, hh, _⟩ := hl6; rw [← hW6]; exact boxStored (by rw [hW6]; exact hh.2.1)
      clear hW6 hl5 hb5
      gi_wp2
      obtain ⟨_, _, bq, ⟨_, _, _, _, _, q6, q7⟩, _, q9⟩ := hl6
      have zz6 : W.heap.size + 2 < w6.heap.size := (Array.getElem?_eq_some_iff.1 q9).1
      have p1 := grownBy_putObj' w6 (W.heap.size + 2) (.deferred none)
      have p2 := grownBy_putObj' (w6.putObj (W.heap.size + 2) (.deferred none)) (w2.heap.size + 4) (.deferred none)
      have q8 : (w6.putObj (W.heap.size + 2) (.deferred none)).heap[w2.heap.size + 4]? = some (.deferred (some [])) := (p1.block _ (by omega) (fun e => by have := Option.some.inj e; omega)).trans q6
      have q10 : Boxed ((w6.putObj (W.heap.size + 2) (.deferred none)).putObj (w2.heap.size + 4) (.deferred none)) (w.heap.size + 1) 4 (.bool true) := (p2.block _ (by have := p1.size; omega) (fun e => by have := Option.some.inj e; omega)).trans ((p1.block _ (by omega) (fun e => by have := Option.some.inj e; omega)).trans b6)
      have q11 := q10.cell
      refine ⟨by simp, .inl ⟨_, _, rfl, run_takeDeferred q9, ?_⟩⟩
      refine ⟨by simp, .inl ⟨_, _, rfl, run_takeDeferred q8, ?_⟩⟩
      exact ⟨.bool true, by simp [results, Tryd.f3, go_sem, q11], rfl, (q7.trans (belowK_b (w := w) (Nat.le_refl _) w6 _ _ _ (by omega) q9 rfl rfl)).trans (belowK_b (w := w) (Nat.le_refl _) _ _ _ _ (by omega) q8 rfl rfl)⟩
    case stop2 =>
      rw [hz5]
      rintro c pre W1 hpre ⟨⟨gf, gb⟩, hst, rfl⟩ hmark
      clear k9 k10 HH fix ab hpre
      by_cases hk : pre.length = xs.length
      · rw [hk] at gb
        clear hst hk
        have KS := Lib.hid (Live.says (w := w) (z := w2.heap.size) (stop := stop) (v := .slice ao xs.length cap) (s := s) (n := xs.length) (y := W.heap.size) (k := xs.length))
        have KC : ∀ W', Calls Tryd.prog 11 #[.string s] W' fun e w' => e = .returned (.int .i64 xs.length) ∧ Below W'.heap.size W' w' := fun W' => by have := count_any s W' (by omega); rwa [HXS.out] at this
        have KC := Lib.hid KC
        have hlive : Live w w2.heap.size stop (.slice ao xs.length cap) s xs.length W.heap.size xs.length W1 := ⟨zz, zW, false, gf, gb, hmark⟩
        clear gf gb hmark
        gi_wp2_with fail
        refine wpIn_wide.2 ?_
        refine wp_region_noPanic ?_
        refine wp_region_held_drew (S := (fun w' => w'.cell? ⟨w.heap.size, 0, none⟩ = some (.int .i64 stop) ∧ w'.cell? ⟨w2.heap.size, 0, none⟩ = some (.slice ao xs.length cap) ∧ w'.cell? ⟨w2.heap.size + 1, 0, none⟩ = some (.string s) ∧ w'.cell? ⟨w2.heap.size + 1 + 1, 0, none⟩ = some (.int .i64 xs.length) ∧ w'.cell? ⟨W.heap.size, 0, none⟩ = some (.int .i64 xs.length) ∧ w'.cell? ⟨w.heap.size + 1, 0, none⟩ = some (.bool (flag w' ⟨w.heap.size + 1, 0, none⟩)) ∧ w'.frozen? ⟨w.heap.size + 1, 0, none⟩ = false ∧ Live w w2.heap.size stop (.slice ao xs.length cap) s xs.length W.heap.size xs.length w')) (by kernel_rfl) ?_ (fun hHeld => ?_)
        · refine KS.out _ ?_; repeat (first | assumption | (refine Live.drew ?_) | (refine Live.call ?_ (by assumption)) | (refine Live.put ?_ _))
        refine wpAnyH_take (i := 0) (oi := { dst := some 57, op := Op.load 9 (Operand.tmp 6), type := 9, pos := "law.go:42", after := #[], guard := none }) (v := ?_) rfl (by kernel_rfl) (by kernel_rfl) (by kernel_rfl) (fun _ _ _ h => h) (Or.inl ⟨by rfl, ?_⟩) (by assumption) ?_
        rotate_left
        · intro w hSw; (try dsimp only at hSw); go_simp; (try with_reducible rfl)
        (try simp only [Act.put, List.setIfInBounds_toArray, List.set_cons_zero, List.set_cons_succ])
        refine wpAnyH_take (i := 1) (oi := { dst := some 58, op := Op.move (Operand.tmp 0), type := 9, pos := "law.go:42", after := #[], guard := none }) (v := ?_) rfl (by kernel_rfl) (by kernel_rfl) (by kernel_rfl) (fun _ _ _ h => h) (Or.inl ⟨by rfl, ?_⟩) (by assumption) ?_
        rotate_left
        · intro w hSw; (try dsimp only at hSw); go_simp; (try with_reducible rfl)
        (try simp only [Act.put, List.setIfInBounds_toArray, List.set_cons_zero, List.set_cons_succ])
        refine wpAnyH_take (i := 2) (oi := { dst := some 59, op := Op.binOp BinOp.eql 9 (Operand.tmp 57) (Operand.tmp 58) 9, type := 4, pos := "law.go:42", after := #[{ on := 0, ground := Ground.data }, { on := 1, ground := Ground.data }], guard := none }) (v := ?_) rfl (by kernel_rfl) (by kernel_rfl) (by kernel_rfl) (fun _ _ _ h => h) (Or.inl ⟨by rfl, ?_⟩) (by assumption) ?_
        rotate_left
        · intro w hSw; (try dsimp only at hSw); go_simp; (try with_reducible rfl)
        (try simp only [Act.put, List.setIfInBounds_toArray, List.set_cons_zero, List.set_cons_succ])
        refine wpAnyH_take (i := 3) (oi := { dst := some 60, op := Op.move (Operand.tmp 59), type := 4, pos := "law.go:42", after := #[{ on := 2, ground := Ground.data }], guard := none }) (v := ?_) rfl (by kernel_rfl) (by kernel_rfl) (by kernel_rfl) (fun _ _ _ h => h) (Or.inl ⟨by rfl, ?_⟩) (by assumption) ?_
        rotate_left
        · intro w hSw; (try dsimp only at hSw); go_simp; (try with_reducible rfl)
        (try simp only [Act.put, List.setIfInBounds_toArray, List.set_cons_zero, List.set_cons_succ])
        refine wpAnyH_take (i := 4) (oi := { dst := some 61, op := Op.load 3 (Operand.tmp 7), type := 3, pos := "law.go:42", after := #[{ on := 3, ground := Ground.guard }], guard := some (3, true) }) (v := ?_) rfl (by kernel_rfl) (by kernel_rfl) (by kernel_rfl) (fun _ _ _ h => h) (Or.inl ⟨by rfl, ?_⟩) (by assumption) ?_
        rotate_left
        · intro w hSw; (try dsimp only at hSw); go_simp; (try with_reducible rfl)
        (try simp only [Act.put, List.setIfInBounds_toArray, List.set_cons_zero, List.set_cons_succ])
        refine wpAnyH_take (i := 5) (oi := { dst := some 62, op := Op.load 23 (Operand.tmp 5), type := 23, pos := "law.go:42", after := #[{ on := 3, ground := Ground.guard }], guard := some (3, true) }) (v := ?_) rfl (by kernel_rfl) (by kernel_rfl) (by kernel_rfl) (fun _ _ _ h => h) (Or.inl ⟨by rfl, ?_⟩) (by assumption) ?_
        rotate_left
        · intro w hSw; (try dsimp only at hSw); go_simp; (try with_reducible rfl)
        (try simp only [Act.put, List.setIfInBounds_toArray, List.set_cons_zero, List.set_cons_succ])
        refine wpAnyH_take (i := 6) (oi := { dst := some 63, op := Op.call { callee := Callee.builtin Builtin.len, args := #[Operand.tmp 62], argTypes := #[23] }, type := 3, pos := "law.go:42", after := #[{ on := 5, ground := Ground.data }, { on := 3, ground := Ground.guard }], guard := some (3, true) }) (v := ?_) rfl (by kernel_rfl) (by kernel_rfl) (by kernel_rfl) (fun _ _ _ h => h) (Or.inl ⟨by rfl, ?_⟩) (by assumption) ?_
        rotate_left
        · intro w hSw; (try dsimp only at hSw); go_simp; (try with_reducible rfl)
        (try simp only [Act.put, List.setIfInBounds_toArray, List.set_cons_zero, List.set_cons_succ])
        refine wpAnyH_take (i := 7) (oi := { dst := some 64, op := Op.binOp BinOp.eql 3 (Operand.tmp 61) (Operand.tmp 63) 3, type := 4, pos := "law.go:42", after := #[{ on := 4, ground := Ground.data }, { on := 6, ground := Ground.data }, { on := 3, ground := Ground.guard }], guard := some (3, true) }) (v := ?_) rfl (by kernel_rfl) (by kernel_rfl) (by kernel_rfl) (fun _ _ _ h => h) (Or.inl ⟨by rfl, ?_⟩) (by assumption) ?_
        rotate_left
        · intro w hSw; (try dsimp only at hSw); go_simp; (try with_reducible rfl)
        (try simp only [Act.put, List.setIfInBounds_toArray, List.set_cons_zero, List.set_cons_succ])
        refine wpAnyH_take (i := 8) (oi := { dst := some 65, op := Op.pick (Operand.tmp 60) (Operand.tmp 64) (Operand.const (Value.bool false)), type := 4, pos := "law.go:42", after := #[{ on := 3, ground := Ground.data }, { on := 7, ground := Ground.data }], guard := none }) (v := ?_) rfl (by kernel_rfl) (by kernel_rfl) (by kernel_rfl) (fun _ _ _ h => h) (Or.inl ⟨by rfl, ?_⟩) (by assumption) ?_
        rotate_left
        · intro w hSw; (try dsimp only at hSw); go_simp; (try with_reducible rfl)
        (try simp only [Act.put, List.setIfInBounds_toArray, List.set_cons_zero, List.set_cons_succ])
        refine wpAnyH_take (i := 9) (oi := { dst := some 66, op := Op.move (Operand.tmp 65), type := 4, pos := "law.go:42", after := #[{ on := 8, ground := Ground.data }, { on := 3, ground := Ground.chain }], guard := none }) (v := ?_) rfl (by kernel_rfl) (by kernel_rfl) (by kernel_rfl) (fun _ _ _ h => h) (Or.inl ⟨by rfl, ?_⟩) (by assumption) ?_
        rotate_left
        · intro w hSw; (try dsimp only at hSw); go_simp; (try with_reducible rfl)
        (try simp only [Act.put, List.setIfInBounds_toArray, List.set_cons_zero, List.set_cons_succ])
        refine wpAnyH_take (i := 10) (oi := { dst := some 67, op := Op.move (Operand.tmp 0), type := 9, pos := "law.go:42", after := #[{ on := 9, ground := Ground.guard }], guard := some (9, true) }) (v := ?_) rfl (by kernel_rfl) (by kernel_rfl) (by kernel_rfl) (fun _ _ _ h => h) (Or.inl ⟨by rfl, ?_⟩) (by assumption) ?_
        rotate_left
        · intro w hSw; (try dsimp only at hSw); go_simp; (try with_reducible rfl)
        (try simp only [Act.put, List.setIfInBounds_toArray, List.set_cons_zero, List.set_cons_succ])
        refine wpAnyH_take (i := 12) (oi := { dst := some 69, op := Op.load 23 (Operand.tmp 5), type := 23, pos := "law.go:42", after := #[{ on := 9, ground := Ground.guard }], guard := some (9, true) }) (v := ?_) rfl (by kernel_rfl) (by kernel_rfl) (by kernel_rfl) (fun _ _ _ h => h) (Or.inl ⟨by rfl, ?_⟩) (by assumption) ?_
        rotate_left
        · intro w hSw; (try dsimp only at hSw); go_simp; (try with_reducible rfl)
        (try simp only [Act.put, List.setIfInBounds_toArray, List.set_cons_zero, List.set_cons_succ])
        refine wpAnyH_take (i := 13) (oi := { dst := some 70, op := Op.call { callee := Callee.builtin Builtin.len, args := #[Operand.tmp 69], argTypes := #[23] }, type := 3, pos := "law.go:42", after := #[{ on := 12, ground := Ground.data }, { on := 9, ground := Ground.guard }], guard := some (9, true) }) (v := ?_) rfl (by kernel_rfl) (by kernel_rfl) (by kernel_rfl) (fun _ _ _ h => h) (Or.inl ⟨by rfl, ?_⟩) (by assumption) ?_
        rotate_left
        · intro w hSw; (try dsimp only at hSw); go_simp; (try with_reducible rfl)
        (try simp only [Act.put, List.setIfInBounds_toArray, List.set_cons_zero, List.set_cons_succ])
        refine wpAnyH_ready (rs := [11]) (by kernel_rfl) (by simp) ?_
        refine AllReadyH.cons (o := { dst := some 68, op := Op.call { callee := Callee.value (Operand.func 11), args := #[Operand.tmp 67], argTypes := #[9] }, type := 3, pos := "law.go:42", after := #[{ on := 10, ground := Ground.data }, { on := 9, ground := Ground.chain }, { on := 9, ground := Ground.guard }], guard := some (9, true) }) rfl (fun K hK => ?_) AllReadyH.nil
        go_simp
        go_at_call 11
        refine (KC.out _).mono ?_
        rintro e w5 ⟨rfl, hb5⟩
        refine hK.out _ _ (by (refine KS.out _ ?_; repeat (first | (exact hHeld.2.2.2.2.2.2.2) | (refine Live.drew ?_) | (refine Live.call ?_ (by assumption)) | (refine Live.put ?_ _)))) (fun hHeld2 => ?_)
        clear hK K hHeld
        (try simp only [Act.put, List.setIfInBounds_toArray, List.set_cons_zero, List.set_cons_succ])
        refine wpAnyH_take (i := 14) (oi := { dst := some 71, op := Op.binOp BinOp.eql 3 (Operand.tmp 68) (Operand.tmp 70) 3, type := 4, pos := "law.go:42", after := #[{ on := 11, ground := Ground.data }, { on := 13, ground := Ground.data }, { on := 9, ground := Ground.guard }], guard := some (9, true) }) (v := ?_) rfl (by kernel_rfl) (by kernel_rfl) (by kernel_rfl) (fun _ _ _ h => h) (Or.inl ⟨by rfl, ?_⟩) (by assumption) ?_
        rotate_left
        · intro w hSw; (try dsimp only at hSw); go_simp; (try with_reducible rfl)
        (try simp only [Act.put, List.setIfInBounds_toArray, List.set_cons_zero, List.set_cons_succ])
        refine wpAnyH_take (i := 15) (oi := { dst := some 72, op := Op.pick (Operand.tmp 66) (Operand.tmp 71) (Operand.const (Value.bool false)), type := 4, pos := "law.go:42", after := #[{ on := 9, ground := Ground.data }, { on := 14, ground := Ground.data }], guard := none }) (v := ?_) rfl (by kernel_rfl) (by kernel_rfl) (by kernel_rfl) (fun _ _ _ h => h) (Or.inl ⟨by rfl, ?_⟩) (by assumption) ?_
        rotate_left
        · intro w hSw; (try dsimp only at hSw); go_simp; (try with_reducible rfl)
        (try simp only [Act.put, List.setIfInBounds_toArray, List.set_cons_zero, List.set_cons_succ])
        refine wpAnyH_take (i := 16) (oi := { dst := some 73, op := Op.move (Operand.tmp 72), type := 4, pos := "law.go:42", after := #[{ on := 15, ground := Ground.data }, { on := 11, ground := Ground.chain }], guard := none }) (v := ?_) rfl (by kernel_rfl) (by kernel_rfl) (by kernel_rfl) (fun _ _ _ h => h) (Or.inl ⟨by rfl, ?_⟩) (by assumption) ?_
        rotate_left
        · intro w hSw; (try dsimp only at hSw); go_simp; (try with_reducible rfl)
        (try simp only [Act.put, List.setIfInBounds_toArray, List.set_cons_zero, List.set_cons_succ])
        refine wpAnyH_take (i := 17) (oi := { dst := some 74, op := Op.load 3 (Operand.tmp 9), type := 3, pos := "law.go:42", after := #[{ on := 16, ground := Ground.guard }], guard := some (16, true) }) (v := ?_) rfl (by kernel_rfl) (by kernel_rfl) (by kernel_rfl) (fun _ _ _ h => h) (Or.inl ⟨by rfl, ?_⟩) (by assumption) ?_
        rotate_left
        · intro w hSw; (try dsimp only at hSw); go_simp; (try with_reducible rfl)
        (try simp only [Act.put, List.setIfInBounds_toArray, List.set_cons_zero, List.set_cons_succ])
        refine wpAnyH_take (i := 18) (oi := { dst := some 75, op := Op.load 23 (Operand.tmp 5), type := 23, pos := "law.go:42", after := #[{ on := 16, ground := Ground.guard }], guard := some (16, true) }) (v := ?_) rfl (by kernel_rfl) (by kernel_rfl) (by kernel_rfl) (fun _ _ _ h => h) (Or.inl ⟨by rfl, ?_⟩) (by assumption) ?_
        rotate_left
        · intro w hSw; (try dsimp only at hSw); go_simp; (try with_reducible rfl)
        (try simp only [Act.put, List.setIfInBounds_toArray, List.set_cons_zero, List.set_cons_succ])
        refine wpAnyH_take (i := 19) (oi := { dst := some 76, op := Op.call { callee := Callee.builtin Builtin.len, args := #[Operand.tmp 75], argTypes := #[23] }, type := 3, pos := "law.go:42", after := #[{ on := 18, ground := Ground.data }, { on := 16, ground := Ground.guard }], guard := some (16, true) }) (v := ?_) rfl (by kernel_rfl) (by kernel_rfl) (by kernel_rfl) (fun _ _ _ h => h) (Or.inl ⟨by rfl, ?_⟩) (by assumption) ?_
        rotate_left
        · intro w hSw; (try dsimp only at hSw); go_simp; (try with_reducible rfl)
        (try simp only [Act.put, List.setIfInBounds_toArray, List.set_cons_zero, List.set_cons_succ])
        refine wpAnyH_take (i := 20) (oi := { dst := some 77, op := Op.binOp BinOp.eql 3 (Operand.tmp 74) (Operand.tmp 76) 3, type := 4, pos := "law.go:42", after := #[{ on := 17, ground := Ground.data }, { on := 19, ground := Ground.data }, { on := 16, ground := Ground.guard }], guard := some (16, true) }) (v := ?_) rfl (by kernel_rfl) (by kernel_rfl) (by kernel_rfl) (fun _ _ _ h => h) (Or.inl ⟨by rfl, ?_⟩) (by assumption) ?_
        rotate_left
        · intro w hSw; (try dsimp only at hSw); go_simp; (try with_reducible rfl)
        (try simp only [Act.put, List.setIfInBounds_toArray, List.set_cons_zero, List.set_cons_succ])
        refine wpAnyH_take (i := 21) (oi := { dst := some 78, op := Op.move (Operand.tmp 77), type := 4, pos := "law.go:42", after := #[{ on := 20, ground := Ground.data }, { on := 16, ground := Ground.chain }, { on := 16, ground := Ground.guard }], guard := some (16, true) }) (v := ?_) rfl (by kernel_rfl) (by kernel_rfl) (by kernel_rfl) (fun _ _ _ h => h) (Or.inl ⟨by rfl, ?_⟩) (by assumption) ?_
        rotate_left
        · intro w hSw; (try dsimp only at hSw); go_simp; (try with_reducible rfl)
        (try simp only [Act.put, List.setIfInBounds_toArray, List.set_cons_zero, List.set_cons_succ])
        refine wpAnyH_take (i := 22) (oi := { dst := some 79, op := Op.load 3 (Operand.tmp 9), type := 3, pos := "law.go:42", after := #[{ on := 21, ground := Ground.guard }], guard := some (21, false) }) (v := undef) rfl (by kernel_rfl) (by kernel_rfl) (by kernel_rfl) (fun _ _ _ h => h) (Or.inr ⟨by rfl, rfl⟩) (by assumption) ?_
        (try simp only [Act.put, List.setIfInBounds_toArray, List.set_cons_zero, List.set_cons_succ])
        refine wpAnyH_take (i := 23) (oi := { dst := some 80, op := Op.load 3 (Operand.tmp 3), type := 3, pos := "law.go:42", after := #[{ on := 21, ground := Ground.guard }], guard := some (21, false) }) (v := undef) rfl (by kernel_rfl) (by kernel_rfl) (by kernel_rfl) (fun _ _ _ h => h) (Or.inr ⟨by rfl, rfl⟩) (by assumption) ?_
        (try simp only [Act.put, List.setIfInBounds_toArray, List.set_cons_zero, List.set_cons_succ])
        refine wpAnyH_take (i := 24) (oi := { dst := some 81, op := Op.binOp BinOp.eql 3 (Operand.tmp 79) (Operand.tmp 80) 3, type := 4, pos := "law.go:42", after := #[{ on := 22, ground := Ground.data }, { on := 23, ground := Ground.data }, { on := 21, ground := Ground.guard }], guard := some (21, false) }) (v := undef) rfl (by kernel_rfl) (by kernel_rfl) (by kernel_rfl) (fun _ _ _ h => h) (Or.inr ⟨by rfl, rfl⟩) (by assumption) ?_
        (try simp only [Act.put, List.setIfInBounds_toArray, List.set_cons_zero, List.set_cons_succ])
        refine wpAnyH_take (i := 25) (oi := { dst := some 82, op := Op.pick (Operand.tmp 78) (Operand.const (Value.bool true)) (Operand.tmp 81), type := 4, pos := "law.go:42", after := #[{ on := 21, ground := Ground.data }, { on := 24, ground := Ground.data }, { on := 16, ground := Ground.guard }], guard := some (16, true) }) (v := ?_) rfl (by kernel_rfl) (by kernel_rfl) (by kernel_rfl) (fun _ _ _ h => h) (Or.inl ⟨by rfl, ?_⟩) (by assumption) ?_
        rotate_left
        · intro w hSw; (try dsimp only at hSw); go_simp; (try with_reducible rfl)
        (try simp only [Act.put, List.setIfInBounds_toArray, List.set_cons_zero, List.set_cons_succ])
        refine wpAnyH_take (i := 26) (oi := { dst := some 83, op := Op.pick (Operand.tmp 73) (Operand.tmp 82) (Operand.const (Value.bool false)), type := 4, pos := "law.go:42", after := #[{ on := 16, ground := Ground.data }, { on := 25, ground := Ground.data }], guard := none }) (v := ?_) rfl (by kernel_rfl) (by kernel_rfl) (by kernel_rfl) (fun _ _ _ h => h) (Or.inl ⟨by rfl, ?_⟩) (by assumption) ?_
        rotate_left
        · intro w hSw; (try dsimp only at hSw); go_simp; (try with_reducible rfl)
        (try simp only [Act.put, List.setIfInBounds_toArray, List.set_cons_zero, List.set_cons_succ])
        refine wpAnyH_ready (rs := [27]) (by kernel_rfl) (by simp) ?_
        refine AllReadyH.cons (o := { dst := none, op := Op.store 4 (Operand.tmp 4) (Operand.tmp 83), type := 0, pos := "law.go:42", after := #[{ on := 26, ground := Ground.data }, { on := 21, ground := Ground.chain }, { on := 0, ground := Ground.phase }, { on := 1, ground := Ground.phase }, { on := 2, ground := Ground.phase }, { on := 3, ground := Ground.phase }, { on := 4, ground := Ground.phase }, { on := 5, ground := Ground.phase }, { on := 6, ground := Ground.phase }, { on := 7, ground := Ground.phase }, { on := 8, ground := Ground.phase }, { on := 9, ground := Ground.phase }, { on := 10, ground := Ground.phase }, { on := 11, ground := Ground.phase }, { on := 12, ground := Ground.phase }, { on := 13, ground := Ground.phase }, { on := 14, ground := Ground.phase }, { on := 15, ground := Ground.phase }, { on := 16, ground := Ground.phase }, { on := 17, ground := Ground.phase }, { on := 18, ground := Ground.phase }, { on := 19, ground := Ground.phase }, { on := 20, ground := Ground.phase }, { on := 21, ground := Ground.phase }, { on := 22, ground := Ground.phase }, { on := 23, ground := Ground.phase }, { on := 24, ground := Ground.phase }, { on := 25, ground := Ground.phase }, { on := 26, ground := Ground.phase }], guard := none }) rfl (fun K hK => ?_) AllReadyH.nil
        have hl5 := hHeld2.2.2.2.2.2.2.2
        go_split_ands
        go_simp
        refine hK.out _ _ (KS.out _ (hl5.put true)) (fun _ => ?_)
        refine wpAnyH_done (by kernel_rfl) ?_ _
        refine NoPanic.normal ?_
        clear hK K
        (try simp only [Act.put, List.setIfInBounds_toArray, List.set_cons_zero, List.set_cons_succ])
        have hl6 := hl5.put true
        generalize hW6 : w5.setCell ⟨w.heap.size + 1, 0, none⟩ (.bool true) = w6 at *
        have b6 : Boxed w6 (w.heap.size + 1) 4 (.bool true) := by obtain ⟨_, _, b, hh, _⟩ := hl6; rw [← hW6]; exact boxStored (by rw [hW6]; exact hh.2.1)
        clear hW6 hl5 hb5
        gi_wp2
        obtain ⟨_, _, bq, ⟨_, _, _, _, _, q6, q7⟩, _, q9⟩ := hl6
        have zz6 : W.heap.size + 2 < w6.heap.size := (Array.getElem?_eq_some_iff.1 q9).1
        have p1 := grownBy_putObj' w6 (W.heap.size + 2) (.deferred none)
        have p2 := grownBy_putObj' (w6.putObj (W.heap.size + 2) (.deferred none)) (w2.heap.size + 4) (.deferred none)
        have q8 : (w6.putObj (W.heap.size + 2) (.deferred none)).heap[w2.heap.size + 4]? = some (.deferred (some [])) := (p1.block _ (by omega) (fun e => by have := Option.some.inj e; omega)).trans q6
        have q10 : Boxed ((w6.putObj (W.heap.size + 2) (.deferred none)).putObj (w2.heap.size + 4) (.deferred none)) (w.heap.size + 1) 4 (.bool true) := (p2.block _ (by have := p1.size; omega) (fun e => by have := Option.some.inj e; omega)).trans ((p1.block _ (by omega) (fun e => by have := Option.some.inj e; omega)).trans b6)
        have q11 := q10.cell
        refine ⟨by simp, .inl ⟨_, _, rfl, run_takeDeferred q9, ?_⟩⟩
        refine ⟨by simp, .inl ⟨_, _, rfl, run_takeDeferred q8, ?_⟩⟩
        exact ⟨.bool true, by simp [results, Tryd.f3, go_sem, q11], rfl, (q7.trans (belowK_b (w := w) (Nat.le_refl _) w6 _ _ _ (by omega) q9 rfl rfl)).trans (belowK_b (w := w) (Nat.le_refl _) _ _ _ _ (by omega) q8 rfl rfl)⟩
      · have hne : ((pre.length : Int) == (xs.length : Int)) = false := beq_eq_false_iff_ne.2 (by omega)
        have heq : ((pre.length : Int) == stop) = true := by rw [hst]; simp
        clear hst hk
        have KS := Lib.hid (Live.says (w := w) (z := w2.heap.size) (stop := stop) (v := .slice ao xs.length cap) (s := s) (n := xs.length) (y := W.heap.size) (k := pre.length))
        have KC : ∀ W', Calls Tryd.prog 11 #[.string s] W' fun e w' => e = .returned (.int .i64 xs.length) ∧ Below W'.heap.size W' w' := fun W' => by have := count_any s W' (by omega); rwa [HXS.out] at this
        have KC := Lib.hid KC
        have hlive : Live w w2.heap.size stop (.slice ao xs.length cap) s xs.length W.heap.size pre.length W1 := ⟨zz, zW, false, gf, gb, hmark⟩
        clear gf gb hmark
        gi_wp2_with fail
        refine wpIn_wide.2 ?_
        refine wp_region_noPanic ?_
        refine wp_region_held_drew (S := (fun w' => w'.cell? ⟨w.heap.size, 0, none⟩ = some (.int .i64 stop) ∧ w'.cell? ⟨w2.heap.size, 0, none⟩ = some (.slice ao xs.length cap) ∧ w'.cell? ⟨w2.heap.size + 1, 0, none⟩ = some (.string s) ∧ w'.cell? ⟨w2.heap.size + 1 + 1, 0, none⟩ = some (.int .i64 xs.length) ∧ w'.cell? ⟨W.heap.size, 0, none⟩ = some (.int .i64 pre.length) ∧ w'.cell? ⟨w.heap.size + 1, 0, none⟩ = some (.bool (flag w' ⟨w.heap.size + 1, 0, none⟩)) ∧ w'.frozen? ⟨w.heap.size + 1, 0, none⟩ = false ∧ Live w w2.heap.size stop (.slice ao xs.length cap) s xs.length W.heap.size pre.length w')) (by kernel_rfl) ?_ (fun hHeld => ?_)
        · refine KS.out _ ?_; repeat (first | assumption | (refine Live.drew ?_) | (refine Live.call ?_ (by assumption)) | (refine Live.put ?_ _))
        refine wpAnyH_take (i := 0) (oi := { dst := some 57, op := Op.load 9 (Operand.tmp 6), type := 9, pos := "law.go:42", after := #[], guard := none }) (v := ?_) rfl (by kernel_rfl) (by kernel_rfl) (by kernel_rfl) (fun _ _ _ h => h) (Or.inl ⟨by rfl, ?_⟩) (by assumption) ?_
        rotate_left
        · intro w hSw; (try dsimp only at hSw); go_simp; (try with_reducible rfl)
        (try simp only [Act.put, List.setIfInBounds_toArray, List.set_cons_zero, List.set_cons_succ])
        refine wpAnyH_take (i := 1) (oi := { dst := some 58, op := Op.move (Operand.tmp 0), type := 9, pos := "law.go:42", after := #[], guard := none }) (v := ?_) rfl (by kernel_rfl) (by kernel_rfl) (by kernel_rfl) (fun _ _ _ h => h) (Or.inl ⟨by rfl, ?_⟩) (by assumption) ?_
        rotate_left
        · intro w hSw; (try dsimp only at hSw); go_simp; (try with_reducible rfl)
        (try simp only [Act.put, List.setIfInBounds_toArray, List.set_cons_zero, List.set_cons_succ])
        refine wpAnyH_take (i := 2) (oi := { dst := some 59, op := Op.binOp BinOp.eql 9 (Operand.tmp 57) (Operand.tmp 58) 9, type := 4, pos := "law.go:42", after := #[{ on := 0, ground := Ground.data }, { on := 1, ground := Ground.data }], guard := none }) (v := ?_) rfl (by kernel_rfl) (by kernel_rfl) (by kernel_rfl) (fun _ _ _ h => h) (Or.inl ⟨by rfl, ?_⟩) (by assumption) ?_
        rotate_left
        · intro w hSw; (try dsimp only at hSw); go_simp; (try with_reducible rfl)
        (try simp only [Act.put, List.setIfInBounds_toArray, List.set_cons_zero, List.set_cons_succ])
        refine wpAnyH_take (i := 3) (oi := { dst := some 60, op := Op.move (Operand.tmp 59), type := 4, pos := "law.go:42", after := #[{ on := 2, ground := Ground.data }], guard := none }) (v := ?_) rfl (by kernel_rfl) (by kernel_rfl) (by kernel_rfl) (fun _ _ _ h => h) (Or.inl ⟨by rfl, ?_⟩) (by assumption) ?_
        rotate_left
        · intro w hSw; (try dsimp only at hSw); go_simp; (try with_reducible rfl)
        (try simp only [Act.put, List.setIfInBounds_toArray, List.set_cons_zero, List.set_cons_succ])
        refine wpAnyH_take (i := 4) (oi := { dst := some 61, op := Op.load 3 (Operand.tmp 7), type := 3, pos := "law.go:42", after := #[{ on := 3, ground := Ground.guard }], guard := some (3, true) }) (v := ?_) rfl (by kernel_rfl) (by kernel_rfl) (by kernel_rfl) (fun _ _ _ h => h) (Or.inl ⟨by rfl, ?_⟩) (by assumption) ?_
        rotate_left
        · intro w hSw; (try dsimp only at hSw); go_simp; (try with_reducible rfl)
        (try simp only [Act.put, List.setIfInBounds_toArray, List.set_cons_zero, List.set_cons_succ])
        refine wpAnyH_take (i := 5) (oi := { dst := some 62, op := Op.load 23 (Operand.tmp 5), type := 23, pos := "law.go:42", after := #[{ on := 3, ground := Ground.guard }], guard := some (3, true) }) (v := ?_) rfl (by kernel_rfl) (by kernel_rfl) (by kernel_rfl) (fun _ _ _ h => h) (Or.inl ⟨by rfl, ?_⟩) (by assumption) ?_
        rotate_left
        · intro w hSw; (try dsimp only at hSw); go_simp; (try with_reducible rfl)
        (try simp only [Act.put, List.setIfInBounds_toArray, List.set_cons_zero, List.set_cons_succ])
        refine wpAnyH_take (i := 6) (oi := { dst := some 63, op := Op.call { callee := Callee.builtin Builtin.len, args := #[Operand.tmp 62], argTypes := #[23] }, type := 3, pos := "law.go:42", after := #[{ on := 5, ground := Ground.data }, { on := 3, ground := Ground.guard }], guard := some (3, true) }) (v := ?_) rfl (by kernel_rfl) (by kernel_rfl) (by kernel_rfl) (fun _ _ _ h => h) (Or.inl ⟨by rfl, ?_⟩) (by assumption) ?_
        rotate_left
        · intro w hSw; (try dsimp only at hSw); go_simp; (try with_reducible rfl)
        (try simp only [Act.put, List.setIfInBounds_toArray, List.set_cons_zero, List.set_cons_succ])
        refine wpAnyH_take (i := 7) (oi := { dst := some 64, op := Op.binOp BinOp.eql 3 (Operand.tmp 61) (Operand.tmp 63) 3, type := 4, pos := "law.go:42", after := #[{ on := 4, ground := Ground.data }, { on := 6, ground := Ground.data }, { on := 3, ground := Ground.guard }], guard := some (3, true) }) (v := ?_) rfl (by kernel_rfl) (by kernel_rfl) (by kernel_rfl) (fun _ _ _ h => h) (Or.inl ⟨by rfl, ?_⟩) (by assumption) ?_
        rotate_left
        · intro w hSw; (try dsimp only at hSw); go_simp; (try with_reducible rfl)
        (try simp only [Act.put, List.setIfInBounds_toArray, List.set_cons_zero, List.set_cons_succ])
        refine wpAnyH_take (i := 8) (oi := { dst := some 65, op := Op.pick (Operand.tmp 60) (Operand.tmp 64) (Operand.const (Value.bool false)), type := 4, pos := "law.go:42", after := #[{ on := 3, ground := Ground.data }, { on := 7, ground := Ground.data }], guard := none }) (v := ?_) rfl (by kernel_rfl) (by kernel_rfl) (by kernel_rfl) (fun _ _ _ h => h) (Or.inl ⟨by rfl, ?_⟩) (by assumption) ?_
        rotate_left
        · intro w hSw; (try dsimp only at hSw); go_simp; (try with_reducible rfl)
        (try simp only [Act.put, List.setIfInBounds_toArray, List.set_cons_zero, List.set_cons_succ])
        refine wpAnyH_take (i := 9) (oi := { dst := some 66, op := Op.move (Operand.tmp 65), type := 4, pos := "law.go:42", after := #[{ on := 8, ground := Ground.data }, { on := 3, ground := Ground.chain }], guard := none }) (v := ?_) rfl (by kernel_rfl) (by kernel_rfl) (by kernel_rfl) (fun _ _ _ h => h) (Or.inl ⟨by rfl, ?_⟩) (by assumption) ?_
        rotate_left
        · intro w hSw; (try dsimp only at hSw); go_simp; (try with_reducible rfl)
        (try simp only [Act.put, List.setIfInBounds_toArray, List.set_cons_zero, List.set_cons_succ])
        refine wpAnyH_take (i := 10) (oi := { dst := some 67, op := Op.move (Operand.tmp 0), type := 9, pos := "law.go:42", after := #[{ on := 9, ground := Ground.guard }], guard := some (9, true) }) (v := ?_) rfl (by kernel_rfl) (by kernel_rfl) (by kernel_rfl) (fun _ _ _ h => h) (Or.inl ⟨by rfl, ?_⟩) (by assumption) ?_
        rotate_left
        · intro w hSw; (try dsimp only at hSw); go_simp; (try with_reducible rfl)
        (try simp only [Act.put, List.setIfInBounds_toArray, List.set_cons_zero, List.set_cons_succ])
        refine wpAnyH_take (i := 12) (oi := { dst := some 69, op := Op.load 23 (Operand.tmp 5), type := 23, pos := "law.go:42", after := #[{ on := 9, ground := Ground.guard }], guard := some (9, true) }) (v := ?_) rfl (by kernel_rfl) (by kernel_rfl) (by kernel_rfl) (fun _ _ _ h => h) (Or.inl ⟨by rfl, ?_⟩) (by assumption) ?_
        rotate_left
        · intro w hSw; (try dsimp only at hSw); go_simp; (try with_reducible rfl)
        (try simp only [Act.put, List.setIfInBounds_toArray, List.set_cons_zero, List.set_cons_succ])
        refine wpAnyH_take (i := 13) (oi := { dst := some 70, op := Op.call { callee := Callee.builtin Builtin.len, args := #[Operand.tmp 69], argTypes := #[23] }, type := 3, pos := "law.go:42", after := #[{ on := 12, ground := Ground.data }, { on := 9, ground := Ground.guard }], guard := some (9, true) }) (v := ?_) rfl (by kernel_rfl) (by kernel_rfl) (by kernel_rfl) (fun _ _ _ h => h) (Or.inl ⟨by rfl, ?_⟩) (by assumption) ?_
        rotate_left
        · intro w hSw; (try dsimp only at hSw); go_simp; (try with_reducible rfl)
        (try simp only [Act.put, List.setIfInBounds_toArray, List.set_cons_zero, List.set_cons_succ])
        refine wpAnyH_ready (rs := [11]) (by kernel_rfl) (by simp) ?_
        refine AllReadyH.cons (o := { dst := some 68, op := Op.call { callee := Callee.value (Operand.func 11), args := #[Operand.tmp 67], argTypes := #[9] }, type := 3, pos := "law.go:42", after := #[{ on := 10, ground := Ground.data }, { on := 9, ground := Ground.chain }, { on := 9, ground := Ground.guard }], guard := some (9, true) }) rfl (fun K hK => ?_) AllReadyH.nil
        go_simp
        go_at_call 11
        refine (KC.out _).mono ?_
        rintro e w5 ⟨rfl, hb5⟩
        refine hK.out _ _ (by (refine KS.out _ ?_; repeat (first | (exact hHeld.2.2.2.2.2.2.2) | (refine Live.drew ?_) | (refine Live.call ?_ (by assumption)) | (refine Live.put ?_ _)))) (fun hHeld2 => ?_)
        clear hK K hHeld
        (try simp only [Act.put, List.setIfInBounds_toArray, List.set_cons_zero, List.set_cons_succ])
        refine wpAnyH_take (i := 14) (oi := { dst := some 71, op := Op.binOp BinOp.eql 3 (Operand.tmp 68) (Operand.tmp 70) 3, type := 4, pos := "law.go:42", after := #[{ on := 11, ground := Ground.data }, { on := 13, ground := Ground.data }, { on := 9, ground := Ground.guard }], guard := some (9, true) }) (v := ?_) rfl (by kernel_rfl) (by kernel_rfl) (by kernel_rfl) (fun _ _ _ h => h) (Or.inl ⟨by rfl, ?_⟩) (by assumption) ?_
        rotate_left
        · intro w hSw; (try dsimp only at hSw); go_simp; (try with_reducible rfl)
        (try simp only [Act.put, List.setIfInBounds_toArray, List.set_cons_zero, List.set_cons_succ])
        refine wpAnyH_take (i := 15) (oi := { dst := some 72, op := Op.pick (Operand.tmp 66) (Operand.tmp 71) (Operand.const (Value.bool false)), type := 4, pos := "law.go:42", after := #[{ on := 9, ground := Ground.data }, { on := 14, ground := Ground.data }], guard := none }) (v := ?_) rfl (by kernel_rfl) (by kernel_rfl) (by kernel_rfl) (fun _ _ _ h => h) (Or.inl ⟨by rfl, ?_⟩) (by assumption) ?_
        rotate_left
        · intro w hSw; (try dsimp only at hSw); go_simp; (try with_reducible rfl)
        (try simp only [Act.put, List.setIfInBounds_toArray, List.set_cons_zero, List.set_cons_succ])
        refine wpAnyH_take (i := 16) (oi := { dst := some 73, op := Op.move (Operand.tmp 72), type := 4, pos := "law.go:42", after := #[{ on := 15, ground := Ground.data }, { on := 11, ground := Ground.chain }], guard := none }) (v := ?_) rfl (by kernel_rfl) (by kernel_rfl) (by kernel_rfl) (fun _ _ _ h => h) (Or.inl ⟨by rfl, ?_⟩) (by assumption) ?_
        rotate_left
        · intro w hSw; (try dsimp only at hSw); go_simp; (try with_reducible rfl)
        (try simp only [Act.put, List.setIfInBounds_toArray, List.set_cons_zero, List.set_cons_succ])
        refine wpAnyH_take (i := 17) (oi := { dst := some 74, op := Op.load 3 (Operand.tmp 9), type := 3, pos := "law.go:42", after := #[{ on := 16, ground := Ground.guard }], guard := some (16, true) }) (v := ?_) rfl (by kernel_rfl) (by kernel_rfl) (by kernel_rfl) (fun _ _ _ h => h) (Or.inl ⟨by rfl, ?_⟩) (by assumption) ?_
        rotate_left
        · intro w hSw; (try dsimp only at hSw); go_simp; (try with_reducible rfl)
        (try simp only [Act.put, List.setIfInBounds_toArray, List.set_cons_zero, List.set_cons_succ])
        refine wpAnyH_take (i := 18) (oi := { dst := some 75, op := Op.load 23 (Operand.tmp 5), type := 23, pos := "law.go:42", after := #[{ on := 16, ground := Ground.guard }], guard := some (16, true) }) (v := ?_) rfl (by kernel_rfl) (by kernel_rfl) (by kernel_rfl) (fun _ _ _ h => h) (Or.inl ⟨by rfl, ?_⟩) (by assumption) ?_
        rotate_left
        · intro w hSw; (try dsimp only at hSw); go_simp; (try with_reducible rfl)
        (try simp only [Act.put, List.setIfInBounds_toArray, List.set_cons_zero, List.set_cons_succ])
        refine wpAnyH_take (i := 19) (oi := { dst := some 76, op := Op.call { callee := Callee.builtin Builtin.len, args := #[Operand.tmp 75], argTypes := #[23] }, type := 3, pos := "law.go:42", after := #[{ on := 18, ground := Ground.data }, { on := 16, ground := Ground.guard }], guard := some (16, true) }) (v := ?_) rfl (by kernel_rfl) (by kernel_rfl) (by kernel_rfl) (fun _ _ _ h => h) (Or.inl ⟨by rfl, ?_⟩) (by assumption) ?_
        rotate_left
        · intro w hSw; (try dsimp only at hSw); go_simp; (try with_reducible rfl)
        (try simp only [Act.put, List.setIfInBounds_toArray, List.set_cons_zero, List.set_cons_succ])
        refine wpAnyH_take (i := 20) (oi := { dst := some 77, op := Op.binOp BinOp.eql 3 (Operand.tmp 74) (Operand.tmp 76) 3, type := 4, pos := "law.go:42", after := #[{ on := 17, ground := Ground.data }, { on := 19, ground := Ground.data }, { on := 16, ground := Ground.guard }], guard := some (16, true) }) (v := ?_) rfl (by kernel_rfl) (by kernel_rfl) (by kernel_rfl) (fun _ _ _ h => h) (Or.inl ⟨by rfl, ?_⟩) (by assumption) ?_
        rotate_left
        · intro w hSw; (try dsimp only at hSw); go_simp; (try with_reducible rfl)
        (try simp only [Act.put, List.setIfInBounds_toArray, List.set_cons_zero, List.set_cons_succ])
        refine wpAnyH_take (i := 21) (oi := { dst := some 78, op := Op.move (Operand.tmp 77), type := 4, pos := "law.go:42", after := #[{ on := 20, ground := Ground.data }, { on := 16, ground := Ground.chain }, { on := 16, ground := Ground.guard }], guard := some (16, true) }) (v := ?_) rfl (by kernel_rfl) (by kernel_rfl) (by kernel_rfl) (fun _ _ _ h => h) (Or.inl ⟨by rfl, ?_⟩) (by assumption) ?_
        rotate_left
        · intro w hSw; (try dsimp only at hSw); go_simp; (try with_reducible rfl)
        (try simp only [Act.put, List.setIfInBounds_toArray, List.set_cons_zero, List.set_cons_succ])
        refine wpAnyH_take (i := 22) (oi := { dst := some 79, op := Op.load 3 (Operand.tmp 9), type := 3, pos := "law.go:42", after := #[{ on := 21, ground := Ground.guard }], guard := some (21, false) }) (v := ?_) rfl (by kernel_rfl) (by kernel_rfl) (by kernel_rfl) (fun _ _ _ h => h) (Or.inl ⟨by rfl, ?_⟩) (by assumption) ?_
        rotate_left
        · intro w hSw; (try dsimp only at hSw); go_simp; (try with_reducible rfl)
        (try simp only [Act.put, List.setIfInBounds_toArray, List.set_cons_zero, List.set_cons_succ])
        refine wpAnyH_take (i := 23) (oi := { dst := some 80, op := Op.load 3 (Operand.tmp 3), type := 3, pos := "law.go:42", after := #[{ on := 21, ground := Ground.guard }], guard := some (21, false) }) (v := ?_) rfl (by kernel_rfl) (by kernel_rfl) (by kernel_rfl) (fun _ _ _ h => h) (Or.inl ⟨by rfl, ?_⟩) (by assumption) ?_
        rotate_left
        · intro w hSw; (try dsimp only at hSw); go_simp; (try with_reducible rfl)
        (try simp only [Act.put, List.setIfInBounds_toArray, List.set_cons_zero, List.set_cons_succ])
        refine wpAnyH_take (i := 24) (oi := { dst := some 81, op := Op.binOp BinOp.eql 3 (Operand.tmp 79) (Operand.tmp 80) 3, type := 4, pos := "law.go:42", after := #[{ on := 22, ground := Ground.data }, { on := 23, ground := Ground.data }, { on := 21, ground := Ground.guard }], guard := some (21, false) }) (v := ?_) rfl (by kernel_rfl) (by kernel_rfl) (by kernel_rfl) (fun _ _ _ h => h) (Or.inl ⟨by rfl, ?_⟩) (by assumption) ?_
        rotate_left
        · intro w hSw; (try dsimp only at hSw); go_simp; (try with_reducible rfl)
        (try simp only [Act.put, List.setIfInBounds_toArray, List.set_cons_zero, List.set_cons_succ])
        refine wpAnyH_take (i := 25) (oi := { dst := some 82, op := Op.pick (Operand.tmp 78) (Operand.const (Value.bool true)) (Operand.tmp 81), type := 4, pos := "law.go:42", after := #[{ on := 21, ground := Ground.data }, { on := 24, ground := Ground.data }, { on := 16, ground := Ground.guard }], guard := some (16, true) }) (v := ?_) rfl (by kernel_rfl) (by kernel_rfl) (by kernel_rfl) (fun _ _ _ h => h) (Or.inl ⟨by rfl, ?_⟩) (by assumption) ?_
        rotate_left
        · intro w hSw; (try dsimp only at hSw); go_simp; (try with_reducible rfl)
        (try simp only [Act.put, List.setIfInBounds_toArray, List.set_cons_zero, List.set_cons_succ])
        refine wpAnyH_take (i := 26) (oi := { dst := some 83, op := Op.pick (Operand.tmp 73) (Operand.tmp 82) (Operand.const (Value.bool false)), type := 4, pos := "law.go:42", after := #[{ on := 16, ground := Ground.data }, { on := 25, ground := Ground.data }], guard := none }) (v := ?_) rfl (by kernel_rfl) (by kernel_rfl) (by kernel_rfl) (fun _ _ _ h => h) (Or.inl ⟨by rfl, ?_⟩) (by assumption) ?_
        rotate_left
        · intro w hSw; (try dsimp only at hSw); go_simp; (try with_reducible rfl)
        (try simp only [Act.put, List.setIfInBounds_toArray, List.set_cons_zero, List.set_cons_succ])
        refine wpAnyH_ready (rs := [27]) (by kernel_rfl) (by simp) ?_
        refine AllReadyH.cons (o := { dst := none, op := Op.store 4 (Operand.tmp 4) (Operand.tmp 83), type := 0, pos := "law.go:42", after := #[{ on := 26, ground := Ground.data }, { on := 21, ground := Ground.chain }, { on := 0, ground := Ground.phase }, { on := 1, ground := Ground.phase }, { on := 2, ground := Ground.phase }, { on := 3, ground := Ground.phase }, { on := 4, ground := Ground.phase }, { on := 5, ground := Ground.phase }, { on := 6, ground := Ground.phase }, { on := 7, ground := Ground.phase }, { on := 8, ground := Ground.phase }, { on := 9, ground := Ground.phase }, { on := 10, ground := Ground.phase }, { on := 11, ground := Ground.phase }, { on := 12, ground := Ground.phase }, { on := 13, ground := Ground.phase }, { on := 14, ground := Ground.phase }, { on := 15, ground := Ground.phase }, { on := 16, ground := Ground.phase }, { on := 17, ground := Ground.phase }, { on := 18, ground := Ground.phase }, { on := 19, ground := Ground.phase }, { on := 20, ground := Ground.phase }, { on := 21, ground := Ground.phase }, { on := 22, ground := Ground.phase }, { on := 23, ground := Ground.phase }, { on := 24, ground := Ground.phase }, { on := 25, ground := Ground.phase }, { on := 26, ground := Ground.phase }], guard := none }) rfl (fun K hK => ?_) AllReadyH.nil
        have hl5 := hHeld2.2.2.2.2.2.2.2
        go_split_ands
        go_simp
        refine hK.out _ _ (KS.out _ (hl5.put true)) (fun _ => ?_)
        refine wpAnyH_done (by kernel_rfl) ?_ _
        refine NoPanic.normal ?_
        clear hK K
        (try simp only [Act.put, List.setIfInBounds_toArray, List.set_cons_zero, List.set_cons_succ])
        have hl6 := hl5.put true
        generalize hW6 : w5.setCell ⟨w.heap.size + 1, 0, none⟩ (.bool true) = w6 at *
        have b6 : Boxed w6 (w.heap.size + 1) 4 (.bool true) := by obtain ⟨_, _, b, hh, _⟩ := hl6; rw [← hW6]; exact boxStored (by rw [hW6]; exact hh.2.1)
        clear hW6 hl5 hb5
        gi_wp2
        obtain ⟨_, _, bq, ⟨_, _, _, _, _, q6, q7⟩, _, q9⟩ := hl6
        have zz6 : W.heap.size + 2 < w6.heap.size := (Array.getElem?_eq_some_iff.1 q9).1
        have p1 := grownBy_putObj' w6 (W.heap.size + 2) (.deferred none)
        have p2 := grownBy_putObj' (w6.putObj (W.heap.size + 2) (.deferred none)) (w2.heap.size + 4) (.deferred none)
        have q8 : (w6.putObj (W.heap.size + 2) (.deferred none)).heap[w2.heap.size + 4]? = some (.deferred (some [])) := (p1.block _ (by omega) (fun e => by have := Option.some.inj e; omega)).trans q6
        have q10 : Boxed ((w6.putObj (W.heap.size + 2) (.deferred none)).putObj (w2.heap.size + 4) (.deferred none)) (w.heap.size + 1) 4 (.bool true) := (p2.block _ (by have := p1.size; omega) (fun e => by have := Option.some.inj e; omega)).trans ((p1.block _ (by omega) (fun e => by have := Option.some.inj e; omega)).trans b6)
        have q11 := q10.cell
        refine ⟨by simp, .inl ⟨_, _, rfl, run_takeDeferred q9, ?_⟩⟩
        refine ⟨by simp, .inl ⟨_, _, rfl, run_takeDeferred q8, ?_⟩⟩
        exact ⟨.bool true, by simp [results, Tryd.f3, go_sem, q11], rfl, (q7.trans (belowK_b (w := w) (Nat.le_refl _) w6 _ _ _ (by omega) q9 rfl rfl)).trans (belowK_b (w := w) (Nat.le_refl _) _ _ _ _ (by omega) q8 rfl rfl)⟩
end Go.Proofs.YtifdcnkfanenjaaDoor
