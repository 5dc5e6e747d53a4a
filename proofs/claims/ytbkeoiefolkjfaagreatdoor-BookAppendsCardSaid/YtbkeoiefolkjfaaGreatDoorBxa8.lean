/- Texts put together: DQ, SB, MC, MD, ME, MF, PU. -/
import Derived.Deep.RegionHeld3
import Derived.Test.YtbkeoiefolkjfaaGreatDoorBxa1
import Derived.Test.YtbkeoiefolkjfaaGreatDoorBxa2
import Derived.Test.YtbkeoiefolkjfaaGreatDoorBxa4
import Derived.Test.YtbkeoiefolkjfaaGreatDoorBxa6
import Derived.Test.YtbkeoiefolkjfaaGreatDoorBxa7
set_option linter.unusedVariables false
set_option maxRecDepth 100000
set_option maxHeartbeats 16000000
namespace Go.Proofs.YtbkeoiefolkjfaaGreatDoor.Fr
open Go.RowKit Go.Shelf
attribute [local go_sem] Oper.semAt_some
theorem at_some0 {s : ByteArray} {k : Nat} (h : k < s.size) : s.data.toList[k]? = some s[k] := by
 rw [List.getElem?_eq_getElem (by rw [<- Lib.size_eq]; exact h)]; rfl
def signB (l : List UInt8) : Bool := Lib.hasPrefix l [37]
theorem beginsF_any (s : ByteArray) (hs : s.size <= 100000) (w : World) :
  Calls Tryz.prog 52 #[.string s] w fun e w' => e = .returned (.bool (signB s.data.toList && decide (kindL s.data.toList = 5))) /\ Below w.heap.size w w' := by
 have P1 := Lib.hid (fun w => Tryz.strings_HasPrefix s ⟨#[37]⟩ w)
 have e0 : Lib.hasPrefix s.data.toList (⟨#[37]⟩ : ByteArray).data.toList = signB s.data.toList := rfl
 simp only [e0] at P1
 have K1 := Lib.hid (fun w => kind_any s (by unfold maxLen; omega) w)
 have ek : (((kindL s.data.toList : Nat) : Int) == 5) = decide (kindL s.data.toList = 5) := by rw [Bool.eq_iff_iff]; simp; omega
 generalize signB s.data.toList = q at *
 generalize decide (kindL s.data.toList = 5) = d at *
 generalize kindL s.data.toList = k at *
 cases q with
 | false =>
  go_enter Tryz.func52, Tryz.ntmps52
  go_wp2_with fail
  refine (P1.out _).mono ?_
  rintro e w1 ⟨rfl, rfl⟩
  go_wp2_with fail
  go_ret
  exact ⟨rfl, Below.refl _ _⟩
 | true =>
 go_enter Tryz.func52, Tryz.ntmps52
 go_wp2_with fail
 refine (P1.out _).mono ?_
 rintro e w1 ⟨rfl, rfl⟩
 go_wp2_with fail
 refine (K1.out _).mono ?_
 rintro e w2 ⟨rfl, hb⟩
 go_wp2_with fail
 go_ret
 exact ⟨by simp, hb⟩
theorem refBegins_any (s : ByteArray) (hs : s.size <= 100000) (w : World) :
  Calls Tryz.prog 32 #[.string s] w fun e w' => e = .returned (.bool (signB s.data.toList && decide (kindL s.data.toList = 5))) /\ Below w.heap.size w w' := by
 have K1 := Lib.hid (fun w => refKind_any s (by omega) w)
 have ek : (((kindL s.data.toList : Nat) : Int) == 5) = decide (kindL s.data.toList = 5) := by rw [Bool.eq_iff_iff]; simp; omega
 by_cases h0 : 0 < s.size
 ·have eq : signB s.data.toList = (s[0] == 37) := by
   have e := at_some0 h0
   unfold signB Lib.hasPrefix
   cases hl : s.data.toList with
   | nil => rw [hl] at e; cases e
   | cons c l =>
   rw [hl] at e
   have e := Option.some.inj e
   rw [<- e]
   have e2 : List.isPrefixOf [37] (c :: l) = ((37 == c) && true) := by simp [List.isPrefixOf]
   rw [e2, Bool.and_true]
   by_cases hc : c = 37
   ·subst hc; rfl
   have e3 : (c == 37) = false := by simpa using hc
   have e4 : ((37 : UInt8) == c) = false := by simpa using fun e => hc e.symm
   rw [e3, e4]
  have c1 := byteT (c := s[0]) 37 37 rfl
  rw [eq]
  have q0 : (0 : Int) < s.size := by omega
  generalize decide (kindL s.data.toList = 5) = d at *
  generalize kindL s.data.toList = k at *
  generalize (s[0] == 37) = q at *
  cases q with
  | false =>
   go_enter Tryz.func32, Tryz.ntmps32
   go_wp2_with fail
   go_ret
   exact ⟨rfl, Below.refl _ _⟩
  | true =>
  go_enter Tryz.func32, Tryz.ntmps32
  go_wp2_with fail
  refine (K1.out _).mono ?_
  rintro e w2 ⟨rfl, hb⟩
  go_wp2_with fail
  go_ret
  exact ⟨by simp, hb⟩
 have e0 : s.data.toList = [] := List.eq_nil_of_length_eq_zero (by rw [<- Lib.size_eq]; omega)
 have q0 : ¬ (0 : Int) < s.size := by omega
 have eq : signB s.data.toList = false := by rw [e0]; rfl
 rw [eq]
 clear e0
 go_enter Tryz.func32, Tryz.ntmps32
 go_wp2_with fail
 go_ret
 exact ⟨rfl, Below.refl _ _⟩
end Go.Proofs.YtbkeoiefolkjfaaGreatDoor.Fr
namespace Go.Proofs.YtbkeoiefolkjfaaGreatDoor.Bk
open Go.RowKit Go.Shelf
attribute [local go_sem] Oper.semAt_some
def InvS (w : World) (s : ByteArray) (pre : List Ln) (W : World) : Prop := Boxed W w.heap.size 9 (.string s) /\ Boxed W (w.heap.size + 1) 9 (.string ⟨#[]⟩) /\ Below w.heap.size w W /\ ∀ y ∈ pre, begL y.text = false
def OutS (w : World) (s : ByteArray) (c : Code) (pre : List Ln) (W : World) : Prop := Below w.heap.size w W /\ c = .ret /\ ∃ x, pre.find? (fun y => begL y.text) = some x /\ Boxed W (w.heap.size + 1) 9 (.string (s.extract 0 x.at_))
theorem baseOut (w W : World) (u : ByteArray) (tmps : Array Value) (h : Boxed W (w.heap.size + 1) 9 (.string u)) (hK : W.heap[w.heap.size + 3]? = some (.deferred (some []))) (hB : Below w.heap.size w W) (t2 : tmps[2]? = some (.pointer (some ⟨w.heap.size + 1, 0, none⟩))) :
  bodyPostM Fence.wide 9 Tryz.prog Tryz.f26 (fun e w' => e = .returned (.string u) /\ Below w.heap.size w w') .ret { tmps := tmps, defers := [{ target := .collected (w.heap.size + 3), args := #[] }] } W := by
 have p1 := grownBy_putObj' W (w.heap.size + 3) (.deferred none)
 have zW : w.heap.size + 3 < W.heap.size := (Array.getElem?_eq_some_iff.1 hK).1
 have r : Boxed (W.putObj (w.heap.size + 3) (.deferred none)) (w.heap.size + 1) 9 (.string u) := (p1.block _ (by omega) (fun e => by have := Option.some.inj e; omega)).trans h
 have c := r.cell
 refine ⟨by simp, .inl ⟨_, _, rfl, run_takeDeferred hK, ?_⟩⟩
 exact ⟨.string u, by simp [results, Tryz.f26, go_sem, t2, c], rfl, hB.trans (belowK_b (w := w) (Nat.le_refl _) W _ _ _ (by omega) hK rfl rfl)⟩
theorem base_str (s : ByteArray) (hsz : s.size <= 100000) (w : World) :
  Calls Tryz.prog 26 #[.string s] w fun e w' => e = .returned (.string (s.extract 0 (cutAt (linesOf s.data.toList) s.size))) /\ Below w.heap.size w w' := by
 obtain ⟨xs, hxs⟩ : ∃ xs, linesOf s.data.toList = xs := ⟨_, rfl⟩
 have HXS := Lib.hid hxs
 have HH := fun w b => split_hands s b w
 rw [hxs] at HH ⊢
 have FULL : Hid (s.extract 0 s.size = s) := by
  show s.extract 0 s.size = s
  apply ByteArray.ext
  simp
 have LEN : Hid (∀ pre x post, xs = pre ++ x :: post -> x.text.length <= s.size /\ x.at_ <= s.size) := fun pre x post h => by
  have hj := linesOf_join s.data.toList
  have ha := (linesOf_at s.data.toList pre x post (hxs.trans h)).2
  rw [hxs, h, List.flatMap_append, List.flatMap_cons] at hj
  have := congrArg List.length hj
  simp only [List.length_append] at this
  rw [<- Lib.size_eq] at this
  have hb : x.text.length <= x.bytes.length := by unfold Ln.bytes; rw [List.length_append]; omega
  omega
 clear hxs
 refine callsIn_wide (n := 9).1 ?_
 refine callsIn_of_wp_marks Tryz.func26 rfl trivial ?_ rfl
 simp only [Tryz.ntmps26, List.size_toArray, List.length_cons, List.length_nil, Nat.reduceAdd, Nat.reduceSub, Array.replicate_succ, Array.replicate_zero, List.push_toArray, List.append_toArray, List.nil_append, List.cons_append]
 gi_wp2_with fail
 refine ⟨trivial, (callsIn_wide.2 (split_any s _)).mono ?_⟩
 rintro e w3 ⟨rfl, rfl⟩
 gi_wp2_with fail
 have k1 := ((Boxed.new w 9 (.string s)).alloc (.cells #[.string ⟨#[]⟩] 9)).alloc (.cells #[.string s] 9)
 have k2 := (boxNew2 w (.cells #[.string s] 9) 9 (.string ⟨#[]⟩)).alloc (.cells #[.string s] 9)
 have k3 := boxNew3 w (.cells #[.string s] 9) (.cells #[.string ⟨#[]⟩] 9) 9 (.string s)
 have kb : Below w.heap.size w (((w.alloc (.cells #[.string s] 9)).alloc (.cells #[.string ⟨#[]⟩] 9)).alloc (.cells #[.string s] 9)) := (((Below.refl _ w).alloc (Nat.le_refl _) _).alloc (by simp) _).alloc (by simp; omega) _
 have kz : (((w.alloc (.cells #[.string s] 9)).alloc (.cells #[.string ⟨#[]⟩] 9)).alloc (.cells #[.string s] 9)).heap.size = w.heap.size + 3 := by simp
 generalize ((w.alloc (.cells #[.string s] 9)).alloc (.cells #[.string ⟨#[]⟩] 9)).alloc (.cells #[.string s] 9) = w1 at *
 have ab : ∀ k, k <= 5 -> Abide (w.heap.size + 3) k (InvS w s) := fun k hk pre W W' h ht =>
  ⟨ht.box h.1 (.inl (by omega)), ht.box h.2.1 (.inl (by omega)), h.2.2.1.trans (ht.below (by omega) h.2.2.1.size), h.2.2.2⟩
 refine wp_rangedA (gf := 98) (lb := #[.pointer (some ⟨w.heap.size + 2, 0, none⟩)]) rfl (enters_of Tryz.func98 (by kernel_rfl) rfl) (HH w1 _ k3 (by omega)) (fun _ => rfl)
  (InvS w s) (OutS w s) (by rw [kz]; exact ab _ (by omega)) (fun c pre W W' h ht => by
   obtain ⟨h1, h2, x, h3, h4⟩ := h
   exact ⟨h1.trans (ht.below (by rw [kz]; omega) h1.size), h2, x, h3, ht.box h4 (.inl (by rw [kz]; omega))⟩) ⟨k1, k2, kb, fun y h => by cases h⟩
  (fun a pre x a' W => ∃ Bx, w.heap.size + 3 + 5 <= Bx /\ a' = { tmps := (a.tmps.setIfInBounds 6 (.agg (lineV x))).setIfInBounds 3 (.pointer (some ⟨Bx, 0, none⟩)), defers := [] } /\ Cells W Bx 99 (lineV x) /\ InvS w s pre W)
  ?hM ?assign ?body ?done ?stop
 case hM =>
  rw [kz]
  rintro a pre x a' _ W W' ⟨Bx, h1, h2, h3, h4⟩ ht
  exact ⟨Bx, h1, h2, (ht.same Bx h3.lt (.inr (by omega))).trans h3, ab 2 (by omega) pre W W' h4 ht⟩
 case assign =>
  rw [kz]
  intro l pre x post W hx hsz hi
  clear hx
  dsimp only [lineV]
  gi_wp2
  exact ⟨(Stay.refl _ _ W).alloc hsz _, W.heap.size, by omega, rfl, Cells.new _ _ _, hi.1.alloc _, hi.2.1.alloc _, hi.2.2.1.alloc hi.2.2.1.size _, hi.2.2.2⟩
 case body =>
  rw [kz]
  rintro l pre x post a' W hx hsz ⟨Bx, hB, rfl, hc, h1, h2, h3, h4⟩
  obtain ⟨hl1, hl2⟩ := LEN.out pre x post hx
  clear hx
  simp only [List.setIfInBounds_toArray, List.set_cons_zero, List.set_cons_succ, lineV] at hc ⊢
  have hne : Bx ≠ w.heap.size := by omega
  have p1 : W.cell? ⟨Bx, 1, none⟩ = some (.int .i64 x.at_) := hc.cell 1
  have p2 : W.cell? ⟨Bx, 2, none⟩ = some (.string ⟨x.text.toArray⟩) := hc.cell 2
  have BG := Fr.beginsF_any ⟨x.text.toArray⟩ (by show x.text.toArray.size <= _; simp; omega) W
  have eb : (Fr.signB (⟨x.text.toArray⟩ : ByteArray).data.toList && decide (kindL (⟨x.text.toArray⟩ : ByteArray).data.toList = 5)) = begL x.text := rfl
  rw [eb] at BG
  gi_wp2_with fail
  refine ⟨trivial, ((callsIn_wide.2 BG).inRound l).mono ?_⟩
  rintro e V ⟨rfl, hV⟩
  have st : Stay (w.heap.size + 3) (3 + 2) W V := ⟨hV.size, fun r a b => hV.block r (by omega)⟩
  have g1 : Boxed V w.heap.size 9 (.string s) := (hV.block _ h1.lt).trans h1
  have g2 : Boxed V (w.heap.size + 1) 9 (.string ⟨#[]⟩) := (hV.block _ h2.lt).trans h2
  have g3 : Below w.heap.size w V := h3.trans (hV.mono h3.size)
  cases hbx : begL x.text with
  | false =>
   gi_wp2
   refine ⟨st, g1, g2, g3, fun y hy => ?_⟩
   rcases List.mem_append.1 hy with hy | hy
   ·exact h4 y hy
   rw [List.mem_singleton.1 hy]; exact hbx
  | true =>
  have hcV : Cells V Bx 99 _ := (hV.block _ hc.lt).trans hc
  have p1' : V.cell? ⟨Bx, 1, none⟩ = some (.int .i64 x.at_) := by rw [hcV.cell]; rfl
  have c1 := g1.cell
  have c2 := g2.cell
  have f2 := g2.frozen
  have fnd : (pre ++ [x]).find? (fun y => begL y.text) = some x := by
   rw [List.find?_append, List.find?_eq_none.2 (fun y hy => by rw [h4 y hy]; simp), Option.none_or, List.find?_cons]
   simp [hbx]
  have hl3 : (x.at_ : Int) <= s.size := by omega
  gi_wp2
  exact ⟨st.setCell (p := ⟨w.heap.size + 1, 0, none⟩) (.inl (by show w.heap.size + 1 < _; omega)) _, g3.setCell (p := ⟨w.heap.size + 1, 0, none⟩) (by show w.heap.size <= w.heap.size + 1; omega) _, rfl, x, fnd, Boxed.set _ g2⟩
 case done =>
  rw [kz]
  rintro W ⟨h1, h2, h3, h4⟩ hmark
  have zW : w.heap.size + 3 < W.heap.size := (Array.getElem?_eq_some_iff.1 hmark).1
  have c1 := h1.cell
  have c2 := h2.cell
  have f2 := h2.frozen
  have e : cutAt xs s.size = s.size := by
   unfold cutAt
   rw [List.find?_eq_none.2 (fun y hy => by rw [h4 y hy]; simp)]
  have eu : s.extract 0 (cutAt xs s.size) = s := by rw [e]; exact FULL.out
  gi_wp2
  exact baseOut w _ (s.extract 0 (cutAt xs s.size)) _ (by rw [eu]; exact Boxed.set _ h2) ((Below.heap_setCell _ _ _ _ (by show w.heap.size + 3 ≠ w.heap.size + 1; omega)).trans hmark) (h3.setCell (p := ⟨w.heap.size + 1, 0, none⟩) (by show w.heap.size <= w.heap.size + 1; omega) _) rfl
 case stop =>
 rw [kz]
 rintro c pre W hpre ⟨h1, rfl, x, h3, h4⟩ hmark
 have e : cutAt xs s.size = x.at_ := by
  unfold cutAt
  obtain ⟨z, rfl⟩ := hpre
  rw [List.find?_append, h3]; rfl
 gi_wp2
 exact baseOut w W (s.extract 0 (cutAt xs s.size)) _ (by rw [e]; exact h4) hmark h1 rfl
theorem base_any (t : List UInt8) (ht : t.length <= 100000) (w : World) :
  Calls Tryz.prog 26 #[.string (B t)] w fun e w' => e = .returned (.string (B (baseL t))) /\ Below w.heap.size w w' := by
 have h := base_str (B t) (by rw [B_size]; exact ht) w
 rw [B_data, B_size, Fr.ext_take] at h
 exact h
end Go.Proofs.YtbkeoiefolkjfaaGreatDoor.Bk
namespace Go.Proofs.YtbkeoiefolkjfaaGreatDoor.Hd
open Go.RowKit Go.Shelf
attribute [local go_sem] Oper.semAt_some
def MaxL (w : World) : Prop := ∃ m : Int, w.cell? ⟨0, 0, none⟩ = some (.int .i64 m)
theorem MaxL.below {w w' : World} {N : Nat} (h : MaxL w) (hb : Below N w w') (hN : w.heap.size <= N) : MaxL w' := by
 obtain ⟨m, hm⟩ := h
 have hlt : 0 < w.heap.size := by
  rcases Nat.lt_or_ge 0 w.heap.size with h | h
  ·exact h
  have : w.heap[0]? = none := Array.getElem?_eq_none h
  simp [World.cell?, this] at hm
 exact ⟨m, (hb.cell (p := ⟨0, 0, none⟩) (by show 0 < N; omega)).trans hm⟩
structure Tab (w : World) : Prop where
 nums : Fr.TabsN w
 max : MaxL w
theorem Tab.below {w w' : World} {N : Nat} (h : Tab w) (hb : Below N w w') (hN : w.heap.size <= N) : Tab w' := ⟨h.nums.below hb hN, h.max.below hb hN⟩
theorem grow_below {w : World} (n : Nat) (os : Array Obj) : Below w.heap.size w (Go.Sort.grow (w.drewN n) os) :=
 ⟨rfl, rfl, rfl, by rw [Go.Sort.size_grow]; exact Nat.le_add_right _ _, fun k hk => Go.Sort.heap_grow_old _ _ hk⟩
theorem itoa_any (n : Nat) (hn : n <= 9223372036854775807) (w : World) (ht : Tab w) : Calls Tryz.prog 117 #[.int .i64 (n : Int)] w fun e w' => e = .returned (.string (B (Lib.decDigits n))) /\ Below w.heap.size w w' :=
 (Tryz.strconv_Itoa n (by omega) (by omega) w ht.nums.pow).mono fun e w' ⟨he, k, os, hw⟩ => ⟨by rw [he, Lib.itoa_nonneg]; rfl, by rw [hw]; exact grow_below k os⟩
theorem line_any (g : Nat) (h1 : 1 <= g) (h2 : g <= 2147483648) (w : World) (ht : Tab w) :
  Calls Tryz.prog 81 #[.int .i64 (g : Int)] w fun e w' => e = .returned (.tuple #[.string (B (headL g)), .nilIface]) /\ Below w.heap.size w w' := by
 have IT := Lib.hid (itoa_any g (by omega) w ht)
 have E : Hid ((⟨#[35, 37, 103, 101, 110, 32]⟩ : ByteArray) ++ B (Lib.decDigits g) ++ ⟨#[10, 10]⟩ = B (headL g)) := by
  show _ = _
  rw [show (⟨#[35, 37, 103, 101, 110, 32]⟩ : ByteArray) = B SIGN from rfl, show (⟨#[10, 10]⟩ : ByteArray) = B [10, 10] from rfl, B_append, B_append]
  unfold headL; simp
 have hs : (B (Lib.decDigits g)).size <= 20 := by rw [B_size]; exact (dec_len g h2).2
 have q1 : ¬ (g : Int) < 1 := by omega
 have q2 : ¬ (2147483648 : Int) < g := by omega
 generalize B (Lib.decDigits g) = d at *
 have s1 : ((⟨#[35, 37, 103, 101, 110, 32]⟩ : ByteArray) ++ d).size <= 26 := by rw [ByteArray.size_append]; show 6 + _ <= _; omega
 clear ht
 go_enter Tryz.func81, Tryz.ntmps81
 go_wp2_with fail
 refine IT.out.mono ?_
 rintro e w1 ⟨rfl, hb⟩
 go_wp2_with fail
 go_ret2
 exact ⟨by rw [<- E.out]; rfl, hb⟩
theorem line_not (g : Int) (h : g < 1 \/ 2147483648 < g) (w : World) :
  Calls Tryz.prog 81 #[.int .i64 g] w fun e w' => e = .returned (.tuple #[.string (B []), errV 1]) /\ w' = w := by
 by_cases q1 : g < 1
 ·go_enter Tryz.func81, Tryz.ntmps81
  go_wp2_with fail
  go_ret2
  exact ⟨rfl, rfl⟩
 have q2 : (2147483648 : Int) < g := by omega
 go_enter Tryz.func81, Tryz.ntmps81
 go_wp2_with fail
 go_ret2
 exact ⟨rfl, rfl⟩
theorem len_any (g : Nat) (h1 : 1 <= g) (h2 : g <= 2147483648) (w : World) (ht : Tab w) :
  Calls Tryz.prog 36 #[.int .i64 (g : Int)] w fun e w' => e = .returned (.int .i64 (headL g).length) /\ Below w.heap.size w w' := by
 have L := Lib.hid (line_any g h1 h2 w ht)
 have hs := B_size (headL g)
 generalize B (headL g) = d at *
 rw [<- hs]
 clear ht hs
 go_enter Tryz.func36, Tryz.ntmps36
 go_wp2_with fail
 refine L.out.mono ?_
 rintro e w1 ⟨rfl, hb⟩
 go_wp2_with fail
 go_ret
 exact ⟨rfl, hb⟩
theorem len_not (g : Int) (h : g < 1 \/ 2147483648 < g) (w : World) :
  Calls Tryz.prog 36 #[.int .i64 g] w fun e w' => e = .returned (.int .i64 0) /\ w' = w := by
 have L := Lib.hid (line_not g h w)
 have hs : (B []).size = 0 := rfl
 go_enter Tryz.func36, Tryz.ntmps36
 go_wp2_with fail
 refine L.out.mono ?_
 rintro e w1 ⟨rfl, rfl⟩
 go_wp2_with fail
 go_ret
 exact ⟨rfl, rfl⟩
def genP (t : List UInt8) : Nat := if 1 <= atoiV (figs t) /\ atoiV (figs t) <= 2147483648 /\ Lib.hasPrefix t (headL (atoiV (figs t)).toNat) = true then (atoiV (figs t)).toNat else 0
theorem genP_is (t : List UInt8) : GenIs t (genP t) := gen_prog t
theorem trim_call (t : List UInt8) (w : World) : Calls Tryz.prog 96 #[.string (B t), .string ⟨#[35, 37, 103, 101, 110, 32]⟩] w fun e w' => e = .returned (.string (B (Lib.trimPrefix t SIGN))) /\ w' = w :=
 (Tryz.strings_TrimPrefix (B t) ⟨#[35, 37, 103, 101, 110, 32]⟩ w).mono fun e w' ⟨he, hw⟩ => ⟨by rw [he, B_data]; rfl, hw⟩
theorem cut_call (t : List UInt8) (ht : t.length <= 1000000) (w : World) (hm : MaxL w) : Calls Tryz.prog 56 #[.string (B t), .string ⟨#[10, 10]⟩] w fun e w' => (∃ b c, e = .returned (.tuple #[.string (B (Lib.cut t [10, 10]).1), .string b, .bool c])) /\ Below w.heap.size w w' := by
 obtain ⟨m, hm⟩ := hm
 refine (Tryz.strings_Cut (B t) ⟨#[10, 10]⟩ m w (by rw [B_size]; omega) hm).mono ?_
 rintro e w' ⟨rfl, n, rfl⟩
 rw [B_data]
 exact ⟨⟨_, _, rfl⟩, drewN_below (Below.refl _ _) n⟩
theorem pre_call (a b : List UInt8) (w : World) : Calls Tryz.prog 61 #[.string (B a), .string (B b)] w fun e w' => e = .returned (.bool (Lib.hasPrefix a b)) /\ w' = w :=
 (Tryz.strings_HasPrefix (B a) (B b) w).mono fun e w' ⟨he, hw⟩ => ⟨by rw [he, B_data, B_data], hw⟩
theorem trim_len (t p : List UInt8) : (Lib.trimPrefix t p).length <= t.length := by
 unfold Lib.trimPrefix; split
 ·rw [List.length_drop]; omega
 omega
theorem gen_any (t : List UInt8) (hl : t.length <= 100000) (w : World) (ht : Tab w) :
  Calls Tryz.prog 50 #[.string (B t)] w fun e w' => e = .returned (.int .i64 (genP t : Nat)) /\ Below w.heap.size w w' := by
 have TR := Lib.hid (trim_call t)
 have hfl := figs_len t
 have htl := trim_len t SIGN
 have CU := Lib.hid (fun W (hb : Below w.heap.size w W) => cut_call (Lib.trimPrefix t SIGN) (by omega) W (ht.max.below hb (Nat.le_refl _)))
 have AT := Lib.hid (fun W (hb : Below w.heap.size w W) => Fr.atoi_any (figs t) (by omega) W (ht.nums.below hb (Nat.le_refl _)))
 have PR := Lib.hid (fun g W => pre_call t (headL g) W)
 unfold genP
 rw [show (Lib.cut (Lib.trimPrefix t SIGN) [10, 10]).1 = figs t from rfl] at CU
 generalize figs t = fg at *
 generalize Lib.trimPrefix t SIGN = tr at *
 generalize atoiV fg = v at *
 by_cases hv : 1 <= v /\ v <= 2147483648
 ·obtain ⟨g, rfl⟩ : ∃ g : Nat, v = g := ⟨v.toNat, by omega⟩
  have LI := Lib.hid (fun W (hb : Below w.heap.size w W) => line_any g (by omega) (by omega) W (ht.below hb (Nat.le_refl _)))
  have PR := Lib.hid (fun W => PR.out g W)
  rw [Int.toNat_natCast]
  cases hp : Lib.hasPrefix t (headL g) with
  | true =>
   rw [if_pos ⟨hv.1, hv.2, rfl⟩]
   rw [hp] at PR
   clear ht hp
   generalize B t = bt at *
   generalize B (headL g) = bh at *
   generalize B fg = bf at *
   generalize B tr = br at *
   go_enter Tryz.func50, Tryz.ntmps50
   go_wp2_with fail
   refine (TR.out _).mono ?_
   rintro e w1 ⟨rfl, rfl⟩
   go_wp2_with fail
   refine (CU.out _ (Below.refl _ _)).mono ?_
   rintro e w2 ⟨⟨b, c, rfl⟩, hb2⟩
   go_wp2_with fail
   refine (AT.out _ hb2).mono ?_
   rintro e w3 ⟨⟨T, q, rfl | rfl⟩, hb3⟩
   all_goals
    have hb4 := hb2.trans (hb3.mono hb2.size)
    go_wp2_with fail
    refine (LI.out _ hb4).mono ?_
    rintro e w4 ⟨rfl, hb5⟩
    have hb6 := hb4.trans (hb5.mono hb4.size)
    go_wp2_with fail
    refine (PR.out _).mono ?_
    rintro e w5 ⟨rfl, rfl⟩
    go_wp2_with fail
    go_ret
    exact ⟨rfl, hb6⟩
  | false =>
  rw [if_neg (fun h => Bool.noConfusion h.2.2)]
  rw [hp] at PR
  clear ht hp
  generalize B t = bt at *
  generalize B (headL g) = bh at *
  generalize B fg = bf at *
  generalize B tr = br at *
  go_enter Tryz.func50, Tryz.ntmps50
  go_wp2_with fail
  refine (TR.out _).mono ?_
  rintro e w1 ⟨rfl, rfl⟩
  go_wp2_with fail
  refine (CU.out _ (Below.refl _ _)).mono ?_
  rintro e w2 ⟨⟨b, c, rfl⟩, hb2⟩
  go_wp2_with fail
  refine (AT.out _ hb2).mono ?_
  rintro e w3 ⟨⟨T, q, rfl | rfl⟩, hb3⟩
  all_goals
   have hb4 := hb2.trans (hb3.mono hb2.size)
   go_wp2_with fail
   refine (LI.out _ hb4).mono ?_
   rintro e w4 ⟨rfl, hb5⟩
   have hb6 := hb4.trans (hb5.mono hb4.size)
   go_wp2_with fail
   refine (PR.out _).mono ?_
   rintro e w5 ⟨rfl, rfl⟩
   go_wp2_with fail
   go_ret
   exact ⟨rfl, hb6⟩
 rw [if_neg (fun h => hv ⟨h.1, h.2.1⟩)]
 have LI := Lib.hid (fun W => line_not v (by omega) W)
 clear ht PR
 generalize B t = bt at *
 generalize B fg = bf at *
 generalize B tr = br at *
 go_enter Tryz.func50, Tryz.ntmps50
 go_wp2_with fail
 refine (TR.out _).mono ?_
 rintro e w1 ⟨rfl, rfl⟩
 go_wp2_with fail
 refine (CU.out _ (Below.refl _ _)).mono ?_
 rintro e w2 ⟨⟨b, c, rfl⟩, hb2⟩
 go_wp2_with fail
 refine (AT.out _ hb2).mono ?_
 rintro e w3 ⟨⟨T, q, rfl | rfl⟩, hb3⟩
 all_goals
  have hb4 := hb2.trans (hb3.mono hb2.size)
  go_wp2_with fail
  refine (LI.out _).mono ?_
  rintro e w4 ⟨rfl, rfl⟩
  rw [errV_pos 1 (by omega)]
  go_wp2_with fail
  go_ret
  exact ⟨rfl, hb4⟩
def lenP (n : Nat) : Nat := if 1 <= n /\ n <= 2147483648 then (headL n).length else 0
theorem lenP_call (n : Nat) (w : World) (ht : Tab w) : Calls Tryz.prog 36 #[.int .i64 (n : Int)] w fun e w' => e = .returned (.int .i64 (lenP n : Nat)) /\ Below w.heap.size w w' := by
 unfold lenP
 by_cases h : 1 <= n /\ n <= 2147483648
 ·rw [if_pos h]; exact len_any n h.1 h.2 w ht
 rw [if_neg h]
 refine (len_not n (by omega) w).mono ?_
 rintro e w' ⟨rfl, rfl⟩
 exact ⟨rfl, Below.refl _ _⟩
theorem lenP_le {t : List UInt8} {n : Nat} (h : GenIs t n) : lenP n <= t.length := by
 unfold lenP
 split
 ·rename_i hn
  obtain ⟨r, rfl⟩ := gen_pre h hn.1
  simp
 omega
theorem held_on {w W W' : World} (h : Below w.heap.size w W) (hb : Below W.heap.size W W') : Below w.heap.size w W' := h.trans (hb.mono h.size)
theorem take_any (t : List UInt8) (hl : t.length <= 100000) (w : World) (ht : Tab w) :
  Calls Tryz.prog 25 #[.string (B t)] w fun e w' => e = .returned (.tuple #[.int .i64 (genP t : Nat), .string (B (t.drop (lenP (genP t))))]) /\ Below w.heap.size w w' := by
 have G := Lib.hid (gen_any t hl w ht)
 have hle := lenP_le (genP_is t)
 have L := Lib.hid (fun W (hb : Below w.heap.size w W) => lenP_call (genP t) W (ht.below hb (Nat.le_refl _)))
 have hE : Hid ((B t).extract (lenP (genP t)) (B t).size = B (t.drop (lenP (genP t)))) := by
  show _ = _
  have e := Lib.extract_to_end (B t) (lenP (genP t))
  rw [B_data] at e
  rw [<- B_of ((B t).extract _ _), e]
 have hz := B_size t
 rw [<- hz] at hle hl
 generalize lenP (genP t) = k at *
 generalize genP t = g at *
 generalize B t = bt at *
 clear hz ht
 have hki : (k : Int) <= (bt.size : Int) := by omega
 have h0 : (0 : Int) <= (k : Int) := by omega
 go_enter Tryz.func25, Tryz.ntmps25
 go_wp2_with fail
 refine G.out.mono ?_
 rintro e w1 ⟨rfl, hb1⟩
 have HS := Lib.hid (show ∀ W, Below w1.heap.size w1 W -> Below w1.heap.size w1 W from fun W h => h)
 have HL := Lib.hid (fun W (hb : Below w1.heap.size w1 W) => L.out W (hb1.trans (hb.mono hb1.size)))
 go_wp2_with fail
 go_region_held3 (fun W => Below w1.heap.size w1 W) ((refine HS.out _ ?_; repeat (first | exact Below.refl _ _ | assumption | (refine Below.drew ?_) | (refine held_on ?_ (by assumption))))) ((go_at_call 36; refine (HL.out _ ?_).mono ?_; (focus (repeat (first | exact Below.refl _ _ | assumption | (refine Below.drew ?_) | (refine held_on ?_ (by assumption))))); rintro e w5 ⟨rfl, hb5⟩))
 all_goals go_wp2_with fail
 all_goals
  go_ret2
  have hb7 : Below w1.heap.size w1 w5 := held_on (Below.drew (Below.refl _ _)) hb5
  exact ⟨by rw [<- hE.out]; rfl, hb1.trans (hb7.mono hb1.size)⟩
end Go.Proofs.YtbkeoiefolkjfaaGreatDoor.Hd
namespace Go.Proofs.YtbkeoiefolkjfaaGreatDoor.Hd
open Go.RowKit Go.Shelf
attribute [local go_sem] Oper.semAt_some
theorem byteT {c : UInt8} (d : UInt8) (n : Int) (hn : (d.toNat : Int) = n) : ((c.toNat : Int) == n) = (c == d) := by
 by_cases h : c = d
 ·subst h; simp [hn]
 have : (c.toNat : Int) ≠ n := by intro e; apply h; apply UInt8.toNat_inj.1; omega
 rw [beq_eq_false_iff_ne.2 this]; simp [h]
structure Stop (t : List UInt8) (i : Nat) : Prop where
 sign : t.take 6 = SIGN
 ge : 6 <= i
 le : i <= t.length
 no : (10 : UInt8) ∉ (t.take i).drop 6
def dsOf (t : List UInt8) (i : Nat) : List UInt8 := (t.take i).drop 6
theorem Stop.form {t : List UInt8} {i : Nat} (h : Stop t i) : t = SIGN ++ (dsOf t i ++ t.drop i) := by
 have e : t.take i = SIGN ++ dsOf t i := by
  have e1 : (t.take i).take 6 = SIGN := by rw [List.take_take, Nat.min_eq_left h.ge]; exact h.sign
  conv => lhs; rw [<- List.take_append_drop 6 (t.take i), e1]
  rfl
 conv => lhs; rw [<- List.take_append_drop i t, e, List.append_assoc]
theorem Stop.end_ {t : List UInt8} {i : Nat} (h : i = t.length \/ t[i]? = some 10) : t.drop i = [] \/ ∃ q, t.drop i = 10 :: q := by
 rcases h with h | h
 ·left; rw [h]; simp
 obtain ⟨hlt, hc⟩ := List.getElem?_eq_some_iff.1 h
 right
 exact ⟨t.drop (i + 1), by rw [List.drop_eq_getElem_cons hlt, hc]⟩
theorem dec_num {g : Nat} (h2 : g <= 2147483648) : Fr.numL (Lib.decDigits g) = some (g : Int) := Fr.numL_some.2 ⟨by constructor <;> omega, by rw [Lib.itoa_nonneg]⟩
theorem Stop.no_num {t : List UInt8} {i : Nat} (h : Stop t i) (he : i = t.length \/ t[i]? = some 10) (hn : ∀ n, Fr.numL (dsOf t i) = some n -> n < 1 \/ 2147483648 < n) : GenIs t 0 := by
 rw [h.form]
 refine gen_odd h.no (fun g h1 h2 => .inl fun e => ?_) (Stop.end_ he)
 have := hn g (by rw [e]; exact dec_num h2)
 omega
theorem Stop.one {t : List UInt8} {i : Nat} (h : Stop t i) (he : i = t.length \/ t[i]? = some 10) (hn : t[i + 1]? ≠ some 10) : GenIs t 0 := by
 rw [h.form]
 refine gen_odd h.no (fun g h1 h2 => .inr fun q e => hn ?_) (Stop.end_ he)
 have : (t.drop i)[1]? = some 10 := by rw [e]; rfl
 rwa [List.getElem?_drop] at this
theorem Stop.yes {t : List UInt8} {i g : Nat} (h : Stop t i) (h1 : 1 <= g) (h2 : g <= 2147483648) (he : t[i]? = some 10) (he2 : t[i + 1]? = some 10) (hn : Fr.numL (dsOf t i) = some (g : Int)) : GenIs t g /\ lenP g = i + 2 := by
 have hd : dsOf t i = Lib.decDigits g := by
  have := (Fr.numL_some.1 hn).2
  rw [Lib.itoa_nonneg] at this
  exact this.symm
 obtain ⟨hlt, hc⟩ := List.getElem?_eq_some_iff.1 he
 obtain ⟨hlt2, hc2⟩ := List.getElem?_eq_some_iff.1 he2
 have e : t.drop i = 10 :: 10 :: t.drop (i + 2) := by rw [List.drop_eq_getElem_cons hlt, hc, List.drop_eq_getElem_cons hlt2, hc2]
 have hf := h.form
 rw [e] at hf
 refine ⟨by rw [hf]; exact gen_ref h.no h1 h2 hd, ?_⟩
 unfold lenP
 rw [if_pos ⟨h1, h2⟩]
 unfold headL
 have hl : (dsOf t i).length = i - 6 := by unfold dsOf; rw [List.length_drop, List.length_take]; have := h.le; omega
 rw [<- hd]
 simp only [List.length_append, hl, List.length_cons, List.length_nil]
 have := h.ge
 show 6 + _ = _
 omega
theorem refgood_any (n : Int) (w : World) : Calls Tryz.prog 38 #[.int .i64 n] w fun e w' => e = .returned (.bool (decide (1 <= n /\ n <= 2147483648))) /\ w' = w := by
 have D1 := Lib.hid (fun (h : 1 <= n /\ n <= 2147483648) => congrArg (fun b => Ending.returned (.bool b)) (decide_eq_true h).symm)
 have D2 := Lib.hid (fun (h : ¬ (1 <= n /\ n <= 2147483648)) => congrArg (fun b => Ending.returned (.bool b)) (decide_eq_false h).symm)
 generalize decide (1 <= n /\ n <= 2147483648) = q at *
 by_cases h1 : 1 <= n
 ·by_cases h2 : n <= 2147483648
  ·go_enter Tryz.func38, Tryz.ntmps38
   go_wp2_with fail
   go_ret
   exact ⟨D1.out ⟨h1, h2⟩, rfl⟩
  go_enter Tryz.func38, Tryz.ntmps38
  go_wp2_with fail
  go_ret
  exact ⟨D2.out (fun h => absurd h.2 (by omega)), rfl⟩
 go_enter Tryz.func38, Tryz.ntmps38
 go_wp2_with fail
 go_ret
 exact ⟨D2.out (fun h => absurd h.1 (by omega)), rfl⟩
theorem at_some {s : ByteArray} {k : Nat} (h : k < s.size) : s.data.toList[k]? = some s[k] := by
 rw [List.getElem?_eq_getElem (by rw [<- Lib.size_eq]; exact h)]; rfl
theorem no_snoc {s : ByteArray} {k : Nat} (h6 : 6 <= k) (h : k < s.size) (h1 : (10 : UInt8) ∉ (s.data.toList.take k).drop 6) (h2 : (s[k] == 10) = false) : (10 : UInt8) ∉ (s.data.toList.take (k + 1)).drop 6 := by
 have hl : k < s.data.toList.length := by rw [<- Lib.size_eq]; exact h
 rw [List.take_succ_eq_append_getElem hl, List.drop_append_of_le_length (by rw [List.length_take]; omega)]
 intro hm
 rcases List.mem_append.1 hm with hm | hm
 ·exact h1 hm
 have e : (10 : UInt8) = s.data.toList[k] := by simpa using hm
 have e2 : s.data.toList[k] = s[k] := rfl
 rw [<- e2, <- e] at h2
 simp at h2
end Go.Proofs.YtbkeoiefolkjfaaGreatDoor.Hd
namespace Go.Proofs.YtbkeoiefolkjfaaGreatDoor.Hd
open Go.RowKit Go.Shelf
attribute [local go_sem] Oper.semAt_some
theorem extractB (s : ByteArray) (a b : Nat) : s.extract a b = B ((s.data.toList.take b).drop a) := by
 rw [<- B_of (s.extract a b), Lib.extract_data]
 congr 1
 rw [List.drop_take]
theorem drop_zero (s : ByteArray) : B (s.data.toList.drop (lenP 0)) = s := by
 rw [show lenP 0 = 0 from rfl, List.drop_zero, B_of]
theorem reftake_any (s : ByteArray) (hs : s.size <= 100000) (n : Nat) (hn : GenIs s.data.toList n) (w : World) :
  Calls Tryz.prog 30 #[.string s] w fun e w' => e = .returned (.tuple #[.int .i64 (n : Int), .string (B (s.data.toList.drop (lenP n)))]) /\ Below w.heap.size w w' := by
 have HZ := Lib.hid (Lib.size_eq s)
 have DZ := Lib.hid (drop_zero s)
 by_cases h9 : s.size < 9
 ·obtain rfl := gen_one hn (gen_short (by rw [<- HZ.out]; exact h9))
  rw [DZ.out]
  have q : decide ((s.size : Int) < 9) = true := by simp; omega
  go_enter Tryz.func30, Tryz.ntmps30
  go_wp2_with fail
  go_ret2
  exact ⟨rfl, Below.refl _ _⟩
 have q : decide ((s.size : Int) < 9) = false := by simp; omega
 have x6 : s.extract 0 6 = B (s.data.toList.take 6) := by rw [extractB, List.drop_zero]
 have c6 : (6 : Int) <= (s.size : Int) := by omega
 have sg : ((B (s.data.toList.take 6)).toList == [35, 37, 103, 101, 110, 32]) = decide (s.data.toList.take 6 = SIGN) := by
  rw [Lib.toList_data, B_data, Bool.eq_iff_iff]
  unfold SIGN
  simp
 by_cases hsg : s.data.toList.take 6 = SIGN
 rotate_left
 ·obtain rfl := gen_one hn (gen_nosign hsg)
  rw [DZ.out]
  rw [decide_eq_false hsg] at sg
  generalize B (s.data.toList.take 6) = V at *
  go_enter Tryz.func30, Tryz.ntmps30
  go_wp2_with fail
  go_ret2
  exact ⟨rfl, Below.refl _ _⟩
 rw [decide_eq_true hsg] at sg
 have NU := Lib.hid (fun (l : List UInt8) (hl : l.length <= 1000000) W => Fr.number_any l hl W)
 have HN := Lib.hid hn
 have HSG := Lib.hid hsg
 clear hn hsg
 generalize B (s.data.toList.take 6) = V at *
 go_enter Tryz.func30, Tryz.ntmps30
 go_wp2_with fail
 go_loop [4] (fun i => ∃ k : Nat, k <= s.size /\ 6 <= k /\ i = .int .i64 k /\ (10 : UInt8) ∉ (s.data.toList.take k).drop 6) (fun i => s.size - (intOf i).toNat)
 case atStart => exact ⟨6, by omega, Nat.le_refl _, rfl, by rw [List.drop_of_length_le (by rw [List.length_take]; omega)]; simp⟩
 case round =>
 obtain ⟨k, hk, h6, rfl, hno⟩ := hrel
 have ST := Lib.hid (show Stop s.data.toList k from ⟨HSG.out, h6, by rw [<- HZ.out]; exact hk, hno⟩)
 have hxk : s.extract 6 k = B (dsOf s.data.toList k) := extractB s 6 k
 have hdl : (dsOf s.data.toList k).length <= 1000000 := by unfold dsOf; rw [List.length_drop, List.length_take]; omega
 have h6k : (6 : Int) <= (k : Int) := by omega
 have hks : (k : Int) <= (s.size : Int) := by omega
 by_cases hlt : k < s.size
 ·have c1 := byteT (c := s[k]) 10 10 rfl
  cases hc : (s[k] == 10) with
  | false =>
   rw [hc] at c1
   have HNO := Lib.hid (no_snoc h6 hlt hno hc)
   clear hno hc hxk hdl
   go_wp2_with fail
   go_round
   case rel => exact ⟨k + 1, by omega, by omega, by go_num, HNO.out⟩
   case measure => simp [intOf]; omega
  | true =>
  rw [hc] at c1
  have AT : Hid (s.data.toList[k]? = some 10) := by show _ = _; rw [at_some hlt]; congr 1; simpa using hc
  have NUk := Lib.hid (NU.out _ hdl)
  have NO := Lib.hid (ST.out.no_num (.inr AT.out))
  have ONE := Lib.hid (ST.out.one (.inr AT.out))
  have YES := Lib.hid (fun g h1 h2 he2 hn => ST.out.yes (g := g) h1 h2 AT.out he2 hn)
  have AT1 := Lib.hid (fun (h : k + 1 < s.size) => at_some h)
  unfold Fr.numEnd at NUk
  generalize dsOf s.data.toList k = ds at *
  clear hno hc hdl
  cases hnum : Fr.numL ds with
  | none =>
   obtain rfl := gen_one HN.out (NO.out (fun n h => by rw [hnum] at h; cases h))
   rw [hnum] at NUk
   clear hnum
   go_wp2_with fail
   refine (NUk.out _).mono ?_
   rintro e w1 ⟨rfl, rfl⟩
   go_wp2_with fail
   go_ret2
   exact ⟨by rw [DZ.out]; rfl, Below.refl _ _⟩
  | some v =>
  have RG := Lib.hid (fun W => refgood_any v W)
  by_cases hv : 1 <= v /\ v <= 2147483648
  rotate_left
  ·obtain rfl := gen_one HN.out (NO.out (fun n h => by rw [hnum] at h; cases h; omega))
   rw [hnum] at NUk
   rw [decide_eq_false hv] at RG
   clear hnum
   go_wp2_with fail
   refine (NUk.out _).mono ?_
   rintro e w1 ⟨rfl, rfl⟩
   go_wp2_with fail
   refine (RG.out _).mono ?_
   rintro e w1 ⟨rfl, rfl⟩
   go_wp2_with fail
   go_ret2
   exact ⟨by rw [DZ.out]; rfl, Below.refl _ _⟩
  rw [decide_eq_true hv] at RG
  obtain ⟨g, rfl⟩ : ∃ g : Nat, v = g := ⟨v.toNat, by omega⟩
  by_cases hl2 : k + 1 < s.size
  rotate_left
  ·obtain rfl := gen_one HN.out (ONE.out (by rw [List.getElem?_eq_none (by rw [<- HZ.out]; omega)]; simp))
   rw [hnum] at NUk
   have q2 : decide (((k : Int) + 1) >= (s.size : Int)) = true := by simp; omega
   have q3 : (s.size : Int) <= (k : Int) + 1 := by omega
   clear hnum
   go_wp2_with fail
   refine (NUk.out _).mono ?_
   rintro e w1 ⟨rfl, rfl⟩
   go_wp2_with fail
   refine (RG.out _).mono ?_
   rintro e w1 ⟨rfl, rfl⟩
   go_wp2_with fail
   go_ret2
   exact ⟨by rw [DZ.out]; rfl, Below.refl _ _⟩
  have q2 : decide ((s.size : Int) <= (k : Int) + 1) = false := decide_eq_false (by omega)
  have c2 := byteT (c := s[k + 1]) 10 10 rfl
  cases hc2 : (s[k + 1] == 10) with
  | false =>
   obtain rfl := gen_one HN.out (ONE.out (by rw [AT1.out hl2]; intro h; have h := Option.some.inj h; rw [h] at hc2; simp at hc2))
   rw [hnum] at NUk
   rw [hc2] at c2
   clear hnum hc2
   go_wp2_with fail
   refine (NUk.out _).mono ?_
   rintro e w1 ⟨rfl, rfl⟩
   go_wp2_with fail
   refine (RG.out _).mono ?_
   rintro e w1 ⟨rfl, rfl⟩
   go_wp2_with fail
   go_ret2
   exact ⟨by rw [DZ.out]; rfl, Below.refl _ _⟩
  | true =>
  obtain ⟨y1, y2⟩ := YES.out g (by omega) (by omega) (by rw [AT1.out hl2]; congr 1; simpa using hc2) hnum
  obtain rfl := gen_one HN.out y1
  have Y2 := Lib.hid y2
  have E2 : Hid (s.extract (k + 2) s.size = B (s.data.toList.drop (k + 2))) := by
   show _ = _
   rw [<- B_of (s.extract _ _), Lib.extract_to_end]
  rw [hnum] at NUk
  rw [hc2] at c2
  have k2 : (k : Int) + 2 <= (s.size : Int) := by omega
  have k3 : (0 : Int) <= (k : Int) + 2 := by omega
  clear hnum hc2 y1 y2
  go_wp2_with fail
  refine (NUk.out _).mono ?_
  rintro e w1 ⟨rfl, rfl⟩
  go_wp2_with fail
  refine (RG.out _).mono ?_
  rintro e w1 ⟨rfl, rfl⟩
  go_wp2_with fail
  go_quiet (fail)
  go_wp2_with fail
  go_ret2
  exact ⟨by rw [Y2.out, <- E2.out]; rfl, drewN_below (Below.refl _ _) _⟩
 obtain rfl : k = s.size := by omega
 have NUk := Lib.hid (NU.out _ hdl)
 have NO := Lib.hid (ST.out.no_num (.inl HZ.out))
 have ONE := Lib.hid (ST.out.one (.inl HZ.out))
 unfold Fr.numEnd at NUk
 generalize dsOf s.data.toList s.size = ds at *
 clear hno hdl
 obtain rfl := gen_one HN.out (ONE.out (by rw [List.getElem?_eq_none (by rw [<- HZ.out]; omega)]; simp))
 cases hnum : Fr.numL ds with
 | none =>
  rw [hnum] at NUk
  clear hnum
  go_wp2_with fail
  refine (NUk.out _).mono ?_
  rintro e w1 ⟨rfl, rfl⟩
  go_wp2_with fail
  go_ret2
  exact ⟨by rw [DZ.out]; rfl, Below.refl _ _⟩
 | some v =>
 have RG := Lib.hid (fun W => refgood_any v W)
 rw [hnum] at NUk
 clear hnum
 have q3 : (s.size : Int) <= (s.size : Int) + 1 := by omega
 cases hv : decide (1 <= v /\ v <= 2147483648) with
 | false =>
  rw [hv] at RG
  clear hv
  go_wp2_with fail
  refine (NUk.out _).mono ?_
  rintro e w1 ⟨rfl, rfl⟩
  go_wp2_with fail
  refine (RG.out _).mono ?_
  rintro e w1 ⟨rfl, rfl⟩
  go_wp2_with fail
  go_ret2
  exact ⟨by rw [DZ.out]; rfl, Below.refl _ _⟩
 | true =>
 rw [hv] at RG
 clear hv
 go_wp2_with fail
 refine (NUk.out _).mono ?_
 rintro e w1 ⟨rfl, rfl⟩
 go_wp2_with fail
 refine (RG.out _).mono ?_
 rintro e w1 ⟨rfl, rfl⟩
 go_wp2_with fail
 go_ret2
 exact ⟨by rw [DZ.out]; rfl, Below.refl _ _⟩
end Go.Proofs.YtbkeoiefolkjfaaGreatDoor.Hd
namespace Go.Proofs.YtbkeoiefolkjfaaGreatDoor.Hd
open Go.RowKit Go.Shelf
attribute [local go_sem] Oper.semAt_some
end Go.Proofs.YtbkeoiefolkjfaaGreatDoor.Hd
namespace Go.Proofs.YtbkeoiefolkjfaaGreatDoor
def num : Nat -> Nat -> List (List UInt8) -> List Ln
 | _, _, [] => []
 | no, c, l :: r => ⟨no, c, l, true⟩ :: num (no + 1) (c + l.length + 1) r
theorem linesOn_num : ∀ (ts : List (List UInt8)) (no c : Nat), (∀ l ∈ ts, (10 : UInt8) ∉ l) -> linesOn no c (textL ts) = num no c ts
 | [], no, c, _ => rfl
 | l :: r, no, c, h => by
  have e : textL (l :: r) = l ++ 10 :: textL r := by unfold textL; simp
  obtain ⟨h1, h2⟩ := head_of l (textL r) (h l List.mem_cons_self)
  have hu : used (l ++ 10 :: textL r) = l.length + 1 := by unfold used; rw [h1, h2]; rfl
  rw [e, linesOn_cons _ _ _ (by simp), h1, h2, hu]
  have hd : (l ++ 10 :: textL r).drop (l.length + 1) = textL r := by
   rw [show l ++ 10 :: textL r = (l ++ [10]) ++ textL r by simp]
   exact List.drop_left' (by simp)
  rw [hd, linesOn_num r _ _ (fun y hy => h y (List.mem_cons_of_mem _ hy))]
  rfl
theorem num_append : ∀ (a b : List (List UInt8)) (no c : Nat), num no c (a ++ b) = num no c a ++ num (no + a.length) (c + (textL a).length) b
 | [], b, no, c => rfl
 | l :: a, b, no, c => by
  have := num_append a b (no + 1) (c + l.length + 1)
  show _ :: num _ _ (a ++ b) = _ :: _ ++ _
  rw [this]
  have e : (textL (l :: a)).length = l.length + 1 + (textL a).length := by unfold textL; simp; omega
  rw [e, List.length_cons, show c + (l.length + 1 + (textL a).length) = c + l.length + 1 + (textL a).length by omega, show no + (a.length + 1) = no + 1 + a.length by omega]
  rfl
theorem run_cons {t : List UInt8} {p q : PS} {x : Ln} {xs : List Ln} (h : takeP t p x = .ok q) : runP t p (x :: xs) = runP t q xs := by
 show (match takeP t p x with | .error e => Except.error e | .ok q => runP t q xs) = _
 rw [h]
theorem run_more (t : List UInt8) : ∀ (r : List (List UInt8)) (p : PS) (no c : Nat), p.said ≠ [] -> (∀ l ∈ r, kindL l = 3) -> runP t p (num no c r) = .ok { p with said := p.said ++ r }
 | [], p, no, c, _, _ => by show Except.ok p = _; rw [List.append_nil]
 | l :: r, p, no, c, hs, hk => by
  have h3 := hk l List.mem_cons_self
  have hg : goesP p ⟨no, c, l, true⟩ = true := by
   unfold goesP; rw [h3]
   cases hq : p.said with
   | nil => exact absurd hq hs
   | cons a b => rfl
  have hw : wrongP p ⟨no, c, l, true⟩ = false := by unfold wrongP; rw [hg, h3]; rfl
  have he : endsP p ⟨no, c, l, true⟩ = false := by unfold endsP; rw [hw, hg]; rfl
  have ht : takeP t p ⟨no, c, l, true⟩ = .ok { p with said := p.said ++ [l] } := by
   rw [take_of (by rw [he]; intro h; cases h) hw]
   have e1 : thenP p ⟨no, c, l, true⟩ = { p with said := p.said ++ [l] } := by
    unfold thenP; rw [he, if_neg (by decide)]; unfold wentP; rw [hg, if_pos rfl]
   rw [e1]
   unfold putP
   rw [h3]; rfl
  show runP t p (⟨no, c, l, true⟩ :: num (no + 1) (c + l.length + 1) r) = _
  rw [run_cons ht, run_more t r _ _ _ (by simp) (fun y hy => hk y (List.mem_cons_of_mem _ hy))]
  simp
theorem take_else {t : List UInt8} {p : PS} {no c : Nat} {l : List UInt8} (hk : kindL l ≠ 3) (h5 : kindL l ≠ 5) (h0 : endFieldN p = 0) : takeP t p ⟨no, c, l, true⟩ = .ok (putP t (endFieldP p) ⟨no, c, l, true⟩) := by
 have hg : goesP p ⟨no, c, l, true⟩ = false := goes_kind hk
 have hw : wrongP p ⟨no, c, l, true⟩ = false := by unfold wrongP; rw [hg]; simp [hk, h5]
 have he : endsP p ⟨no, c, l, true⟩ = true := by unfold endsP; rw [hg]; simp
 have hwent : wentP p ⟨no, c, l, true⟩ = p := by unfold wentP; rw [hg]; rfl
 rw [take_of (by rw [hwent]; exact fun _ => h0) hw]
 unfold thenP
 rw [he, if_pos rfl, hwent]
def linesFs (fs : List Fld) : List (List UInt8) := fs.flatMap fun f => linesL f.1 f.2
theorem lines_kinds {k v : List UInt8} (hk : goodKey k = true) : ∃ x r, linesL k v = x :: r /\ kindL x = 4 /\ ∀ l ∈ r, kindL l = 3 := by
 have h := lines_say (v := v) hk
 have e : linesL k v = firstL k ((partsL v).headD []) :: (partsL v).tail.map furtherL := rfl
 rw [e] at h ⊢
 refine ⟨_, _, rfl, ?_⟩
 unfold sayF at h
 simp only [Bool.and_eq_true, beq_iff_eq, List.all_eq_true] at h
 exact h
theorem run_fields (t : List UInt8) : ∀ (fs : List Fld) (p : PS) (no c : Nat), endFieldN p = 0 -> (∀ f ∈ fs, goodKey f.1 = true /\ f.2.length <= 1000) -> (endFieldP p).fields.length + fs.length <= 40 -> (endFieldP p).stanzas <= 399 ->
  ∃ q, runP t p (num no c (linesFs fs)) = .ok q /\ endFieldN q = 0 /\ (endFieldP q).fields = (endFieldP p).fields ++ fs /\ (endFieldP q).items = (endFieldP p).items /\ (endFieldP q).stanzas = (endFieldP p).stanzas /\ (endFieldP q).at_ = (endFieldP p).at_
 | [], p, no, c, h0, _, _, _ => ⟨p, rfl, h0, by simp, rfl, rfl, rfl⟩
 | f :: fs, p, no, c, h0, hg, hn, hs => by
  obtain ⟨g1, g2⟩ := hg f List.mem_cons_self
  obtain ⟨x, r, e, kx, kr⟩ := lines_kinds (v := f.2) g1
  obtain ⟨u1, u2, u3⟩ := lines_unfold g1 g2
  have hl : linesFs (f :: fs) = (x :: r) ++ linesFs fs := by unfold linesFs; rw [List.flatMap_cons, e]
  have ht : takeP t p ⟨no, c, x, true⟩ = .ok { endFieldP p with begin_ := no, said := [x] } := by
   rw [take_else (by omega) (by omega) h0]
   unfold putP
   rw [if_pos kx]
  have hrun : runP t p (num no c (x :: r)) = .ok { endFieldP p with begin_ := no, said := x :: r } := by
   show runP t p (⟨no, c, x, true⟩ :: num _ _ r) = _
   rw [run_cons ht, run_more t r _ _ _ (by simp) kr]; rfl
  rw [hl, num_append, runP_append, hrun]
  dsimp only
  rw [List.length_cons] at hn
  have hN : endFieldN { endFieldP p with begin_ := no, said := x :: r } = 0 := by
   unfold endFieldN
   rw [if_neg (by simp)]
   show (if unfoldN (x :: r) ≠ 0 then _ else _) = 0
   rw [<- e, u1, if_neg (by simp)]
   have : fullP { endFieldP p with begin_ := no, said := linesL f.1 f.2 } = false := by
    unfold fullP
    show (if (endFieldP p).fields.length = 0 then (endFieldP p).stanzas == 400 else (endFieldP p).fields.length == 40) = false
    split
    ·simp; omega
    simp; omega
   rw [this]; rfl
  have hP : endFieldP { endFieldP p with begin_ := no, said := x :: r } = { endFieldP p with begin_ := no, said := [], fields := (endFieldP p).fields ++ [f] } := by
   unfold endFieldP
   rw [if_neg (by simp)]
   show { endFieldP p with begin_ := no, said := [], fields := (endFieldP p).fields ++ [(unfoldK (x :: r), unfoldV (x :: r))] } = _
   rw [<- e, u2, u3]; rfl
  obtain ⟨q, q1, q2, q3, q4, q5, q6⟩ := run_fields t fs { endFieldP p with begin_ := no, said := x :: r } (no + (x :: r).length) (c + (textL (x :: r)).length) hN (fun y hy => hg y (List.mem_cons_of_mem _ hy)) (by rw [hP]; simp; omega) (by rw [hP]; exact hs)
  refine ⟨q, q1, q2, ?_, ?_, ?_, ?_⟩
  ·rw [q3, hP]; simp
  ·rw [q4, hP]
  ·rw [q5, hP]
  rw [q6, hP]
end Go.Proofs.YtbkeoiefolkjfaaGreatDoor
