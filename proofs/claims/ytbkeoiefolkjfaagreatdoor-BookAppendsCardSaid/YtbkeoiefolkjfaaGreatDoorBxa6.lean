/- Texts put together: DG, DH, DI, DJ. -/
import Derived.Test.YtbkeoiefolkjfaaGreatDoorBxa4
import Derived.Test.YtbkeoiefolkjfaaGreatDoorBxa5
set_option linter.unusedVariables false
set_option maxRecDepth 100000
set_option maxHeartbeats 16000000
namespace Go.Proofs.YtbkeoiefolkjfaaGreatDoor.Fr
open Go.Lib
def goodLn (x : Ln) : Bool := x.ended && hasPrefix x.text [32]
theorem sp_clean : ∀ (h : List UInt8), (10 : UInt8) ∉ h -> sp false h = true /\ fresh false h = false
 | [], _ => ⟨rfl, rfl⟩
 | c :: h, hc => by
  have hc1 : c ≠ 10 := fun e => hc (e ▸ List.mem_cons_self)
  have ih := sp_clean h (fun q => hc (List.mem_cons_of_mem _ q))
  have e : (c == 10) = false := by simpa using hc1
  refine ⟨by simp [sp, e, ih.1], ?_⟩
  have := ih.2
  unfold fresh at *
  rw [List.getLast?_cons]
  cases hl : h.getLast? with
  | none => simpa using hc1
  | some d => rw [hl] at this; simpa using this
theorem sp_line (h : List UInt8) (hc : (10 : UInt8) ∉ h) : sp true (h ++ [10]) = hasPrefix h [32] := by
 cases h with
 | nil => rfl
 | cons c h =>
 have hc1 : c ≠ 10 := fun e => hc (e ▸ List.mem_cons_self)
 have h1 := sp_clean h (fun q => hc (List.mem_cons_of_mem _ q))
 have e : (c == 10) = false := by simpa using hc1
 rw [List.cons_append]
 unfold sp
 rw [e, sp_append, h1.1, h1.2]
 by_cases h32 : c = 32
 ·subst h32; rfl
 have e1 : (c == 32) = false := by simpa using h32
 have e2 : hasPrefix (c :: h) [32] = ((32 == c) && true) := by simp [hasPrefix, List.isPrefixOf]
 have e3 : ((32 : UInt8) == c) = false := by simpa using fun e => h32 e.symm
 rw [e1, e2, e3]; rfl
theorem takeWhile_no : ∀ {l : List UInt8}, (10 : UInt8) ∈ head l -> False
 | [], h => by simp [head] at h
 | c :: l, h => by
  unfold head at h
  rw [List.takeWhile_cons] at h
  by_cases hc : c = 10
  ·subst hc; simp at h
  have e : (c != 10) = true := by simpa using hc
  rw [if_pos e] at h
  rcases List.mem_cons.1 h with h | h
  ·exact hc h.symm
  exact takeWhile_no h
theorem good_lines : ∀ (n no at_ : Nat) (l : List UInt8), l.length <= n -> ((linesOn no at_ l).all goodLn = true ↔ (sp true l = true /\ (l = [] \/ lastNl l = true)))
 | n, no, at_, l, hn => by
  by_cases h0 : l = []
  ·subst h0; simp [linesOn_nil, sp]
  rw [linesOn_cons no at_ l h0, List.all_cons]
  have hs := head_split l
  have hu := used_pos l h0
  have hlen := used_le l
  have hc : (10 : UInt8) ∉ head l := by
   intro hm
   exact takeWhile_no hm
  cases hnl : nl l with
  | false =>
   have h10 : (10 : UInt8) ∉ l := by unfold nl at hnl; simpa using hnl
   have : lastNl l = false := by
    unfold lastNl
    cases hg : l.getLast? with
    | none => rfl
    | some c =>
    have := List.mem_of_getLast? hg
    have : c ≠ 10 := fun e => h10 (e ▸ this)
    simpa using this
   simp [goodLn, this, h0]
  | true =>
  match n, hn with
  | 0, hn => exact absurd (List.eq_nil_of_length_eq_zero (by omega)) h0
  | n + 1, hn =>
  have ih := good_lines n (no + 1) (at_ + used l) (l.drop (used l)) (by rw [List.length_drop]; omega)
  rw [hnl, if_pos rfl] at hs
  rw [Bool.and_eq_true, ih]
  generalize l.drop (used l) = r at *
  generalize hh : head l = h at *
  subst hs
  rw [sp_append, sp_line h hc, fresh_append h [10] true (by simp)]
  have e2 : fresh true ([10] : List UInt8) = true := rfl
  rw [e2]
  have e3 : lastNl (h ++ [10] ++ r) = true ↔ (r = [] \/ lastNl r = true) := by
   unfold lastNl
   rw [List.getLast?_append]
   cases hr : r.getLast? with
   | none => rw [List.getLast?_eq_none_iff.1 hr]; simp
   | some c =>
   have : r ≠ [] := fun e => by rw [e] at hr; cases hr
   simp [this]
  rw [e3]
  simp [goodLn, and_assoc]
theorem good_of (l : List UInt8) : goodR l = (decide (2 <= (l.length : Int) /\ (l.length : Int) <= 50000) && (linesOf l).all goodLn) := by
 rw [Bool.eq_iff_iff, good_iff, Bool.and_eq_true]
 unfold linesOf
 rw [good_lines l.length 0 0 l (Nat.le_refl _)]
 constructor
 ·rintro ⟨a, b, c, d⟩
  exact ⟨by simp; omega, d, .inr c⟩
 rintro ⟨a, d, c⟩
 simp at a
 have : l ≠ [] := by rintro rfl; simp at a
 exact ⟨by omega, by omega, c.resolve_left this, d⟩
open Go.RowKit Go.Shelf
attribute [local go_sem] Oper.semAt_some
def InvG (w : World) (pre : List Ln) (W : World) : Prop := Boxed W w.heap.size 4 (.bool false) /\ Below w.heap.size w W /\ pre.all goodLn = true
def OutG (w : World) (c : Code) (pre : List Ln) (W : World) : Prop := Boxed W w.heap.size 4 (.bool false) /\ Below w.heap.size w W /\ c = .ret /\ pre.all goodLn = false
theorem goodOut (w W : World) (b : Bool) (tmps : Array Value) (h : Boxed W w.heap.size 4 (.bool b)) (hK : W.heap[w.heap.size + 2]? = some (.deferred (some []))) (hB : Below w.heap.size w W) (t2 : tmps[2]? = some (.pointer (some ⟨w.heap.size, 0, none⟩))) :
  bodyPostM Fence.wide 9 Tryz.prog Tryz.f62 (fun e w' => e = .returned (.bool b) /\ Below w.heap.size w w') .ret { tmps := tmps, defers := [{ target := .collected (w.heap.size + 2), args := #[] }] } W := by
 have p1 := grownBy_putObj' W (w.heap.size + 2) (.deferred none)
 have zW : w.heap.size + 2 < W.heap.size := (Array.getElem?_eq_some_iff.1 hK).1
 have r : Boxed (W.putObj (w.heap.size + 2) (.deferred none)) w.heap.size 4 (.bool b) := (p1.block _ (by omega) (fun e => by have := Option.some.inj e; omega)).trans h
 have c := r.cell
 refine ⟨by simp, .inl ⟨_, _, rfl, run_takeDeferred hK, ?_⟩⟩
 exact ⟨.bool b, by simp [results, Tryz.f62, go_sem, t2, c], rfl, hB.trans (belowK_b (w := w) (Nat.le_refl _) W _ _ _ (by omega) hK rfl rfl)⟩
theorem good_str (s : ByteArray) (hsz : s.size <= 1000000) (w : World) :
  Calls Tryz.prog 62 #[.string s] w fun e w' => e = .returned (.bool (goodR s.data.toList)) /\ Below w.heap.size w w' := by
 have hg := good_of s.data.toList
 rw [<- Lib.size_eq] at hg
 have FT := Lib.hid (fits_any (s.size : Int))
 generalize goodR s.data.toList = g at *
 obtain ⟨xs, hxs⟩ : ∃ xs, linesOf s.data.toList = xs := ⟨_, rfl⟩
 rw [hxs] at hg
 have HXS := Lib.hid hxs
 have HH := fun w b => split_hands s b w
 rw [hxs] at HH
 clear hxs
 refine callsIn_wide (n := 9).1 ?_
 refine callsIn_of_wp_marks Tryz.func62 rfl trivial ?_ rfl
 simp only [Tryz.ntmps62, List.size_toArray, List.length_cons, List.length_nil, Nat.reduceAdd, Nat.reduceSub, Array.replicate_succ, Array.replicate_zero, List.push_toArray, List.append_toArray, List.nil_append, List.cons_append]
 have k1 := Boxed.new w 4 (.bool false)
 have kb : Below w.heap.size w (w.alloc (.cells #[.bool false] 4)) := (Below.refl _ w).alloc (Nat.le_refl _) _
 cases hf : decide (2 <= (s.size : Int) /\ (s.size : Int) <= 50000) with
 | false =>
  rw [hf] at hg FT
  simp only [Bool.false_and] at hg
  subst hg
  clear hf HH
  gi_wp2_with fail
  refine ⟨trivial, (callsIn_wide.2 (FT.out _)).mono ?_⟩
  rintro e w3 ⟨rfl, rfl⟩
  gi_wp2
  have c := k1.cell
  exact ⟨.bool false, by simp [results, Tryz.f62, go_sem, c], rfl, kb⟩
 | true =>
 rw [hf] at hg FT
 simp only [Bool.true_and] at hg
 clear hf
 gi_wp2_with fail
 refine ⟨trivial, (callsIn_wide.2 (FT.out _)).mono ?_⟩
 rintro e w3 ⟨rfl, rfl⟩
 gi_wp2_with fail
 refine ⟨trivial, (callsIn_wide.2 (split_any s _)).mono ?_⟩
 rintro e w3 ⟨rfl, rfl⟩
 gi_wp2_with fail
 have k2 := boxNew2 w (.cells #[.bool false] 4) 9 (.string s)
 have kb2 := kb.alloc (o := .cells #[.string s] 9) kb.size
 have k1b := k1.alloc (.cells #[.string s] 9)
 have kz : ((w.alloc (.cells #[.bool false] 4)).alloc (.cells #[.string s] 9)).heap.size = w.heap.size + 2 := by simp
 generalize (w.alloc (.cells #[.bool false] 4)).alloc (.cells #[.string s] 9) = w1 at *
 clear k1 kb FT
 have ab : ∀ k, k <= 5 -> Abide (w.heap.size + 2) k (InvG w) := fun k hk pre W W' h ht =>
  ⟨ht.box h.1 (.inl (by omega)), h.2.1.trans (ht.below (by omega) h.2.1.size), h.2.2⟩
 refine wp_rangedA (gf := 98) (lb := #[.pointer (some ⟨w.heap.size + 1, 0, none⟩)]) rfl (enters_of Tryz.func98 (by kernel_rfl) rfl) (HH w1 _ k2 (by omega)) (fun _ => rfl)
  (InvG w) (OutG w) (by rw [kz]; exact ab _ (by omega)) (fun c pre W W' h ht => ⟨ht.box h.1 (.inl (by rw [kz]; omega)), h.2.1.trans (ht.below (by rw [kz]; omega) h.2.1.size), h.2.2⟩) ⟨k1b, kb2, rfl⟩
  (fun a pre x a' W => ∃ Bx, w.heap.size + 2 + 5 <= Bx /\ a' = { tmps := (a.tmps.setIfInBounds 10 (.agg (lineV x))).setIfInBounds 3 (.pointer (some ⟨Bx, 0, none⟩)), defers := [] } /\ Cells W Bx 99 (lineV x) /\ InvG w pre W)
  ?hM ?assign ?body ?done ?stop
 case hM =>
  rw [kz]
  rintro a pre x a' _ W W' ⟨Bx, h1, h2, h3, h4⟩ ht
  exact ⟨Bx, h1, h2, (ht.same Bx h3.lt (.inr (by omega))).trans h3, ab 2 (by omega) pre W W' h4 ht⟩
 case assign =>
  rw [kz]
  intro l pre x post W hx hsz hi
  clear hx
  dsimp only [lineV]
  gi_wp2
  exact ⟨(Stay.refl _ _ W).alloc hsz _, W.heap.size, by omega, rfl, Cells.new _ _ _, hi.1.alloc _, hi.2.1.alloc hi.2.1.size _, hi.2.2⟩
 case body =>
  rw [kz]
  rintro l pre x post a' W hx hsz ⟨Bx, hB, rfl, hc, h1, h2, h3⟩
  clear hx
  simp only [List.setIfInBounds_toArray, List.set_cons_zero, List.set_cons_succ, lineV] at hc ⊢
  have hne : Bx ≠ w.heap.size := by omega
  have gx : goodLn x = (x.ended && Lib.hasPrefix x.text [32]) := rfl
  have gs : (pre ++ [x]).all goodLn = goodLn x := by rw [List.all_append, h3]; simp
  have c3 := h1.cell
  have f3 := h1.frozen
  have p2 : W.cell? ⟨Bx, 2, none⟩ = some (.string ⟨x.text.toArray⟩) := hc.cell 2
  have p3 : W.cell? ⟨Bx, 3, none⟩ = some (.bool x.ended) := hc.cell 3
  generalize x.ended = en at *
  cases en with
  | false =>
   gi_wp2_with fail
   refine ⟨trivial, ?_⟩
   gi_wp2
   exact ⟨(Stay.refl _ _ _).setCell (.inl (by show w.heap.size < _; omega)) _, Boxed.set _ h1, h2.setCell (p := ⟨w.heap.size, 0, none⟩) (Nat.le_refl _) _, rfl, by rw [gs, gx]; rfl⟩
  | true =>
  gi_wp2_with fail
  refine ⟨trivial, ((callsIn_wide.2 (Tryz.strings_HasPrefix ⟨x.text.toArray⟩ ⟨#[32]⟩ W)).inRound l).mono ?_⟩
  rintro e V ⟨rfl, rfl⟩
  have eh : Lib.hasPrefix (⟨x.text.toArray⟩ : ByteArray).data.toList (⟨#[32]⟩ : ByteArray).data.toList = Lib.hasPrefix x.text [32] := rfl
  rw [eh]
  rw [Bool.true_and] at gx
  generalize Lib.hasPrefix x.text [32] = hp at *
  cases hp with
  | false =>
   gi_wp2
   exact ⟨(Stay.refl _ _ _).setCell (.inl (by show w.heap.size < _; omega)) _, Boxed.set _ h1, h2.setCell (p := ⟨w.heap.size, 0, none⟩) (Nat.le_refl _) _, rfl, by rw [gs, gx]⟩
  | true =>
  gi_wp2
  exact ⟨Stay.refl _ _ _, h1, h2, by rw [gs, gx]⟩
 case done =>
  rw [kz]
  rintro W ⟨h1, h2, h3⟩ hmark
  have zW : w.heap.size + 2 < W.heap.size := (Array.getElem?_eq_some_iff.1 hmark).1
  have c3 := h1.cell
  have f3 := h1.frozen
  rw [h3] at hg
  subst hg
  gi_wp2
  exact goodOut w _ true _ (Boxed.set _ h1) ((Below.heap_setCell _ _ _ _ (by show w.heap.size + 2 ≠ w.heap.size; omega)).trans hmark) (h2.setCell (p := ⟨w.heap.size, 0, none⟩) (Nat.le_refl _) _) rfl
 case stop =>
 rw [kz]
 rintro c pre W hpre ⟨h1, h2, rfl, h3⟩ hmark
 have hg0 : g = false := by
  rw [hg]
  obtain ⟨z, rfl⟩ := hpre
  rw [List.all_append, h3]; rfl
 subst hg0
 gi_wp2
 exact goodOut w W false _ h1 hmark h2 rfl
theorem good_any (l : List UInt8) (hl : l.length <= 1000000) (w : World) :
  Calls Tryz.prog 62 #[.string (B l)] w fun e w' => e = .returned (.bool (goodR l)) /\ Below w.heap.size w w' := by
 have := good_str (B l) (by rw [B_size]; exact hl) w
 rwa [B_data] at this
end Go.Proofs.YtbkeoiefolkjfaaGreatDoor.Fr
namespace Go.Proofs.YtbkeoiefolkjfaaGreatDoor.Fr
open Go.RowKit Go.Shelf
attribute [local go_sem] Oper.semAt_some
theorem ext_to (X : List UInt8) (i j : Nat) : (B X).extract i j = B ((X.drop i).take (j - i)) := by
 apply ByteArray.ext
 apply Array.toList_inj.1
 rw [Lib.extract_data, B_data, B_data]
theorem ext_drop (X : List UInt8) (i : Nat) : (B X).extract i (B X).size = B (X.drop i) := by
 rw [ext_to, B_size, List.take_of_length_le (by simp)]
theorem ext_take (X : List UInt8) (j : Nat) : (B X).extract 0 j = B (X.take j) := by rw [ext_to]; simp
theorem no_all {l : List UInt8} {c : UInt8} (h : c ∉ l) : ∀ x ∈ l, (x != c) = true := fun x hx => by
 have : x ≠ c := fun e => h (by rw [<- e]; exact hx)
 simpa using this
theorem cutB_any (l : List UInt8) (c : UInt8) (hl : l.length <= 1000000) (w : World) :
  Calls Tryz.prog 56 #[.string (B l), .string ⟨#[c]⟩] w fun e w' =>
   e = .returned (.tuple #[.string (B (l.takeWhile (· != c))), .string (B (l.drop ((l.takeWhile (· != c)).length + 1))), .bool (l.contains c)]) /\ Below w.heap.size w w' := by
 by_cases h : c ∈ l
 ·refine (cut_yes (B l) c w (by rw [B_size]; unfold maxLen; omega) (by rw [B_data]; exact h)).mono ?_
  rintro e w' ⟨rfl, n, rfl⟩
  refine ⟨?_, ⟨rfl, rfl, rfl, Nat.le_refl _, fun _ _ => rfl⟩⟩
  have hp : l.take (l.takeWhile (· != c)).length = l.takeWhile (· != c) := (List.prefix_iff_eq_take.1 (List.takeWhile_prefix _)).symm
  rw [B_data, ext_drop, ext_take, hp]
  simp [h]
 refine (cut_no (B l) c w (by rw [B_data]; exact h)).mono ?_
 rintro e w' ⟨rfl, n, rfl⟩
 refine ⟨?_, ⟨rfl, rfl, rfl, Nat.le_refl _, fun _ _ => rfl⟩⟩
 have hp : l.takeWhile (· != c) = l := takeWhile_all (no_all h)
 rw [hp, List.drop_of_length_le (by omega)]
 simp [h]; rfl
def numP (l : List UInt8) : List UInt8 := (Lib.trimPrefix l AMD).takeWhile (· != 32)
def figP (l : List UInt8) : List UInt8 := (Lib.trimPrefix l AMD).drop ((numP l).length + 1)
def annM (l : List UInt8) : Int := atoiV (numP l)
def annB (l : List UInt8) : Bool := (Sm.takes (figP l)).isSome && decide (2 <= annM l /\ annM l <= 50000) && decide (headR (annM l).toNat (figP l) = l)
theorem annB_of {l : List UInt8} {n : Nat} {f : List UInt8} (h : IsHead l n f) : annB l = true /\ annM l = n := by
 have e1 : Lib.trimPrefix l AMD = Lib.decDigits n ++ 32 :: f := by
  rw [h.eq]; unfold headR Lib.trimPrefix
  have : Lib.hasPrefix (AMD ++ (Lib.decDigits n ++ 32 :: f)) AMD = true := by unfold Lib.hasPrefix; rw [List.isPrefixOf_iff_prefix]; exact List.prefix_append _ _
  rw [if_pos this, List.drop_left]
 have e2 : numP l = Lib.decDigits n := by
  unfold numP
  rw [e1, List.takeWhile_append_of_pos (no_all (dec_no32 n))]
  simp
 have e3 : figP l = f := by unfold figP; rw [e2, e1, <- List.drop_drop, List.drop_left]; rfl
 have hn : I64 (n : Int) := by have := h.hi; unfold I64; omega
 have e4 : annM l = n := by unfold annM; rw [e2, <- Lib.itoa_nonneg, atoiV_itoa hn]
 have h2 := h.lo
 have h5 := h.hi
 obtain ⟨x, hx⟩ := h.fig
 refine ⟨?_, e4⟩
 unfold annB
 rw [e4, e3, hx, h.eq]
 simp; omega
theorem annB_head {l : List UInt8} (h : annB l = true) : ∃ n f, IsHead l n f := by
 unfold annB at h
 simp only [Bool.and_eq_true, decide_eq_true_eq] at h
 obtain ⟨⟨h1, h2, h3⟩, h4⟩ := h
 obtain ⟨x, hx⟩ := Option.isSome_iff_exists.1 h1
 exact ⟨(annM l).toNat, figP l, by omega, by omega, ⟨x, hx⟩, h4.symm⟩
theorem annB_iff {l : List UInt8} : annB l = true ↔ ∃ n f, IsHead l n f := ⟨annB_head, fun ⟨_, _, h⟩ => (annB_of h).1⟩
theorem takeV_is (s : List UInt8) : Sm.takeV s = .tuple #[.int .u32 ((Sm.takes s).getD 0 : Nat), .bool (Sm.takes s).isSome] := by
 cases h : Sm.takes s with
 | none => rw [Sm.takeV_not h]; rfl
 | some n => rw [Sm.takeV_of h]; rfl
theorem announced_any (l : List UInt8) (hl : l.length <= 900000) (w : World) (ht : TabsN w) :
  Calls Tryz.prog 59 #[.string (B l)] w fun e w' => e = .returned (.tuple #[.int .i64 (annM l), .bool (annB l)]) /\ Below w.heap.size w w' := by
 have T1 := Lib.hid (Tryz.strings_TrimPrefix (B l) (B AMD) w)
 have hp : (Lib.trimPrefix l AMD).length <= 900000 := Nat.le_trans (Lib.trimPrefix_le l AMD) hl
 have C1 := Lib.hid (fun w => cutB_any (Lib.trimPrefix l AMD) 32 (by omega) w)
 have e1 : (Lib.trimPrefix l AMD).takeWhile (· != 32) = numP l := rfl
 have e2 : (Lib.trimPrefix l AMD).drop ((numP l).length + 1) = figP l := rfl
 have hn : (numP l).length <= 900000 := Nat.le_trans (List.takeWhile_sublist _).length_le hp
 have hf : (figP l).length <= 900000 := by rw [<- e2, List.length_drop]; omega
 have K1 := Lib.hid (fun w => Sm.take_any (B (figP l)) w (by rw [B_size]; unfold maxLen; omega))
 have A1 := Lib.hid (fun w ht => atoi_any (numP l) (by omega) w ht)
 have F1 := Lib.hid (fits_any (annM l))
 have hm : atoiV (numP l) = annM l := rfl
 rw [hm] at A1
 rw [e1, e2] at C1
 simp only [takeV_is, B_data] at K1
 simp only [B_data] at T1
 have e3 : (⟨(Lib.trimPrefix l AMD).toArray⟩ : ByteArray) = B (Lib.trimPrefix l AMD) := rfl
 rw [e3] at T1
 have NS := Lib.hid hn
 have hb : annB l = ((Sm.takes (figP l)).isSome && decide (2 <= annM l /\ annM l <= 50000) && decide (headR (annM l).toNat (figP l) = l)) := rfl
 have H1 := Lib.hid (fun (n : Nat) (h : n <= 50000) w ht => head_any n (by omega) (figP l) (by omega) w ht)
 have ba : (⟨#[37, 97, 109, 101, 110, 100, 32]⟩ : ByteArray) = B AMD := rfl
 have same : ∀ x : List UInt8, ((B x).toList == (B l).toList) = decide (x = l) := fun x => by rw [Lib.toList_data, Lib.toList_data, B_data, B_data, Bool.eq_iff_iff]; simp
 generalize (Sm.takes (figP l)).getD 0 = tv at *
 generalize (Sm.takes (figP l)).isSome = tb at *
 generalize annM l = m at *
 generalize annB l = q at *
 clear e1 e2 hm hn hp e3
 go_enter Tryz.func59, Tryz.ntmps59
 rw [ba]
 go_wp2_with fail
 refine T1.out.mono ?_
 rintro e w1 ⟨rfl, rfl⟩
 go_wp2_with fail
 refine (C1.out _).mono ?_
 rintro e w1 ⟨rfl, hb1⟩
 go_wp2_with fail
 refine (K1.out _).mono ?_
 rintro e w2 ⟨rfl, rfl⟩
 go_wp2_with fail
 refine (A1.out _ (ht.below hb1 (Nat.le_refl _))).mono ?_
 rintro e w3 ⟨⟨T, v, he⟩, hb3⟩
 have ht3 := (ht.below hb1 (Nat.le_refl _)).below hb3 (Nat.le_refl _)
 have hb13 := hb1.trans (hb3.mono hb1.size)
 rcases he with rfl | rfl
 all_goals
  cases tb with
  | false =>
   simp only [Bool.false_and] at hb
   subst hb
   go_wp2_with fail
   go_ret2
   exact ⟨rfl, hb13⟩
  | true =>
  cases hf : decide (2 <= m /\ m <= 50000) with
  | false =>
   rw [hf] at hb F1
   simp only [Bool.true_and, Bool.false_and] at hb
   subst hb
   go_wp2_with fail
   refine (F1.out _).mono ?_
   rintro e w4 ⟨rfl, rfl⟩
   go_wp2_with fail
   go_ret2
   exact ⟨rfl, hb13⟩
  | true =>
  rw [hf] at hb F1
  have hf' := of_decide_eq_true hf
  obtain ⟨n, rfl⟩ : ∃ n : Nat, m = n := ⟨m.toNat, by omega⟩
  simp only [Bool.true_and, Int.toNat_natCast] at hb
  go_wp2_with fail
  refine (F1.out _).mono ?_
  rintro e w4 ⟨rfl, rfl⟩
  go_wp2_with fail
  refine (H1.out n (by omega) _ ht3).mono ?_
  rintro e w4 ⟨rfl, hb4⟩
  go_wp2_with fail
  go_ret2
  exact ⟨by rw [hb]; rfl, hb13.trans (hb4.mono hb13.size)⟩
theorem longB : B longest = B (headR 50000 zeros) := by rw [longest_eq]
theorem beginsHead_any (l : List UInt8) (hl : l.length <= 800000) (w : World) (ht : TabsN w) :
  Calls Tryz.prog 58 #[.string (B l)] w fun e w' => ∃ q : Bool, (q = true ↔ HeadPart l) /\ e = .returned (.bool q) /\ Below w.heap.size w w' := by
 have H1 := Lib.hid (head_any 50000 (by omega) zeros (by decide) w ht)
 rw [<- longB] at H1
 have zs : (⟨#[48, 48, 48, 48, 48, 48, 48, 48]⟩ : ByteArray) = B zeros := rfl
 have ls : (B longest).size = 21 := rfl
 have bl := B_size l
 by_cases h21 : 21 < l.length
 ·have hno : ¬ HeadPart l := fun h => by have := part_len h; omega
  have q1 : (21 : Int) < ((B l).size : Int) := by rw [bl]; omega
  go_enter Tryz.func58, Tryz.ntmps58
  rw [zs]
  go_wp2_with fail
  refine H1.out.mono ?_
  rintro e w1 ⟨rfl, hb1⟩
  go_wp2_with fail
  go_ret
  exact ⟨false, by simp [hno], rfl, hb1⟩
 have q1 : ¬ (21 : Int) < ((B l).size : Int) := by rw [bl]; omega
 have bs : (B l).size <= 21 := by rw [bl]; omega
 have hp := head_parts (l := l)
 have A1 := Lib.hid (fun k w ht => announced_any (l ++ longest.drop k) (by rw [List.length_append, List.length_drop]; have : longest.length = 21 := rfl; omega) w ht)
 have E1 : Hid (∀ k, B l ++ (B longest).extract k 21 = B (l ++ longest.drop k)) := fun k => by
  have := ext_drop longest k
  rw [ls] at this
  rw [this, B_append]
 generalize hL : B longest = L at *
 go_enter Tryz.func58, Tryz.ntmps58
 rw [zs]
 go_wp2_with fail
 refine H1.out.mono ?_
 rintro e w1 ⟨rfl, hb1⟩
 go_wp2_with fail
 go_loopw [16] (fun i wr => ∃ k : Nat, k <= 22 /\ i = .int .i64 k /\ Below w.heap.size w wr /\ ∀ j, j < k -> annB (l ++ longest.drop j) = false) (fun i _ => 22 - (intOf i).toNat)
 case atStart => exact ⟨0, by omega, rfl, hb1, fun j hj => by omega⟩
 case round =>
 obtain ⟨k, hk, rfl, hb, hj⟩ := hrel
 have HJ := Lib.hid hj
 clear hj
 by_cases hlt : k < 22
 ·have hk2 : (k : Int) <= 21 := by omega
  go_wp2_with fail
  rw [E1.out k]
  refine (A1.out k _ (ht.below hb (Nat.le_refl _))).mono ?_
  rintro e w2 ⟨rfl, hb2⟩
  have hb' := hb.trans (hb2.mono hb.size)
  cases hq : annB (l ++ longest.drop k) with
  | true =>
   have hyes : HeadPart l := hp.2 ⟨k, by omega, annB_head hq⟩
   clear hq
   go_wp2_with fail
   go_ret
   exact ⟨true, by simp [hyes], rfl, hb'⟩
  | false =>
  have HN : Hid (∀ j, j < k + 1 -> annB (l ++ longest.drop j) = false) := by
   intro j hj
   by_cases e : j = k
   ·rw [e]; exact hq
   exact HJ.out j (by omega)
  clear hq
  go_wp2_with fail
  go_roundw
  case rel => exact ⟨k + 1, by omega, by go_num, hb', HN.out⟩
  case measure => simp [intOf]; omega
 obtain rfl : k = 22 := by omega
 go_wp2_with fail
 go_ret
 refine ⟨false, ?_, rfl, hb⟩
 rw [hp]
 constructor
 ·intro h; cases h
 rintro ⟨j, hj, n, f, h⟩
 have := annB_iff.2 ⟨n, f, h⟩
 rw [HJ.out j (by omega)] at this
 cases this
end Go.Proofs.YtbkeoiefolkjfaaGreatDoor.Fr
namespace Go.Proofs.YtbkeoiefolkjfaaGreatDoor.Fr
open Go.RowKit Go.Shelf
attribute [local go_sem] Oper.semAt_some
theorem repeat_spaces (k : Nat) : Lib.repeatL [32] k = List.replicate k 32 := by
 induction k with
 | zero => rfl
 | succ k ih => rw [List.replicate_succ, <- ih]; rfl
theorem beginsBody_any (t : List UInt8) (n : Nat) (h2 : 2 <= n) (h5 : n <= 50000) (hl : t.length < n) (w : World) :
  Calls Tryz.prog 60 #[.string (B t), .int .i64 (n : Int)] w fun e w' => e = .returned (.bool (bodyPart t n)) /\ Below w.heap.size w w' := by
 have bt := B_size t
 have e10 : (B [32]).size = 1 := rfl
 have hc0 : (B [32]).size * (n - t.length - 1) <= 140737488355328 := by simp only [e10]; omega
 have R1 := Lib.hid (Tryz.strings_Repeat (B [32]) (n - t.length - 1) w (by omega) hc0)
 have G1 := Lib.hid (fun w => good_any (t ++ (List.replicate (n - t.length - 1) 32 ++ [10])) (by simp; omega) w)
 have hk : ((n - t.length - 1 : Nat) : Int) = (n : Int) - (t.length : Int) - 1 := by omega
 rw [hk, B_data, repeat_spaces, show (⟨(List.replicate (n - t.length - 1) (32 : UInt8)).toArray⟩ : ByteArray) = B (List.replicate (n - t.length - 1) 32) from rfl] at R1
 have E1 : Hid (B t ++ B (List.replicate (n - t.length - 1) 32) ++ ⟨#[10]⟩ = B (t ++ (List.replicate (n - t.length - 1) 32 ++ [10]))) := by
  show _ = _
  rw [show (⟨#[10]⟩ : ByteArray) = B [10] from rfl, B_append, B_append, List.append_assoc]
 have s1 : (B (List.replicate (n - t.length - 1) 32)).size <= 50000 := by rw [B_size]; simp; omega
 have s2 : (B t ++ B (List.replicate (n - t.length - 1) 32)).size <= 100000 := by rw [ByteArray.size_append]; omega
 have s0 : (B t).size <= 50000 := by omega
 simp only [body_tail h2 h5 hl] at G1
 have z1 : (⟨#[32]⟩ : ByteArray) = B [32] := rfl
 have w1 : IntKind.i64.wrap ((n : Int) - (t.length : Int)) = (n : Int) - (t.length : Int) := IntWalk.i64_in _ (by omega)
 have w2 : IntKind.i64.wrap ((n : Int) - (t.length : Int) - 1) = (n : Int) - (t.length : Int) - 1 := IntWalk.i64_in _ (by omega)
 generalize B (List.replicate (n - t.length - 1) 32) = R at *
 generalize bodyPart t n = q at *
 clear hk
 rw [<- bt] at w1 w2 R1
 generalize hX : B t = X at *
 clear bt hX
 go_enter Tryz.func60, Tryz.ntmps60
 rw [z1]
 go_wp2_with fail
 refine R1.out.mono ?_
 rintro e w3 ⟨rfl, hb1⟩
 go_wp2_with fail
 rw [E1.out]
 refine (G1.out _).mono ?_
 rintro e w4 ⟨rfl, hb2⟩
 go_wp2_with fail
 go_ret
 exact ⟨rfl, hb1.trans (hb2.mono hb1.size)⟩
def footB (t : List UInt8) (n : Nat) : Bool := !(decide (t = footR n)) && Lib.hasPrefix (footR n) t
theorem footB_iff {t : List UInt8} {n : Nat} : footB t n = true ↔ ∃ z, t ++ z = footR n /\ z ≠ [] := by
 unfold footB Lib.hasPrefix
 simp only [Bool.and_eq_true, Bool.not_eq_true', decide_eq_false_iff_not, List.isPrefixOf_iff_prefix]
 constructor
 ·rintro ⟨h1, z, h2⟩
  exact ⟨z, h2, fun e => h1 (by rw [<- h2, e]; simp)⟩
 rintro ⟨z, h2, h3⟩
 refine ⟨fun e => ?_, z, h2⟩
 rw [e] at h2
 exact h3 (by simpa using h2)
theorem beginsFoot_any (t : List UInt8) (n : Nat) (h5 : n <= 50000) (w : World) (ht : TabsN w) :
  Calls Tryz.prog 63 #[.string (B t), .int .i64 (n : Int)] w fun e w' => e = .returned (.bool (footB t n)) /\ Below w.heap.size w w' := by
 have F1 := Lib.hid (foot_any n (by omega) w ht)
 have P1 := Lib.hid (fun w => Tryz.strings_HasPrefix (B (footR n)) (B t) w)
 simp only [B_data] at P1
 have same : ((B t).toList == (B (footR n)).toList) = decide (t = footR n) := by rw [Lib.toList_data, Lib.toList_data, B_data, B_data, Bool.eq_iff_iff]; simp
 have hq : footB t n = (!(decide (t = footR n)) && Lib.hasPrefix (footR n) t) := rfl
 generalize footB t n = q at *
 generalize Lib.hasPrefix (footR n) t = p at *
 generalize decide (t = footR n) = d at *
 generalize B (footR n) = f at *
 generalize B t = X at *
 cases d with
 | true =>
  go_enter Tryz.func63, Tryz.ntmps63
  go_wp2_with fail
  refine F1.out.mono ?_
  rintro e w1 ⟨rfl, hb1⟩
  go_wp2_with fail
  go_ret
  exact ⟨by rw [hq]; rfl, hb1⟩
 | false =>
 go_enter Tryz.func63, Tryz.ntmps63
 go_wp2_with fail
 refine F1.out.mono ?_
 rintro e w1 ⟨rfl, hb1⟩
 go_wp2_with fail
 refine (P1.out _).mono ?_
 rintro e w2 ⟨rfl, rfl⟩
 go_wp2_with fail
 go_ret
 exact ⟨by rw [hq]; rfl, hb1⟩
theorem strs1 (a : ByteArray) (w : World) : Sm.Strs (w.alloc (.cells #[.string a] 9)) (.slice (some ⟨w.heap.size, 0, none⟩) 1 1) [a] := by
 refine ⟨_, 1, rfl, ?_⟩
 intro i s h
 refine ⟨w.heap.size, 0, rfl, by simp, ?_⟩
 rw [World.cell?_alloc_at _ _ _ _ rfl]
 match i, h with
 | 0, h => simp at h; subst h; rfl
 | n + 1, h => simp at h
theorem sum1_any (a : ByteArray) (ha : a.size <= maxLen) (w : World) :
  Calls Tryz.prog 91 #[.slice (some ⟨w.heap.size, 0, none⟩) 1 1] (w.alloc (.cells #[.string a] 9)) fun e w' => e = .returned (.int .u32 (Sm.M.crc a.data.toList : Nat)) /\ Below w.heap.size w w' :=
 (Sm.sum_any _ [a] _ (strs1 a w) (by simp [maxLen]) (fun i s h => by
  match i, h with
  | 0, h => simp at h; subst h; exact ha
  | n + 1, h => simp at h)).mono fun e w' ⟨he, hb⟩ => ⟨by rw [he]; simp [Sm.cat, Sm.M.crc], ((Below.refl _ _).alloc (Nat.le_refl _) _).trans (hb.mono (by simp))⟩
theorem full_size {b : List UInt8} (hg : goodR b = true) : (fullR b).length = b.length + 27 + 2 * (Lib.decDigits b.length).length - 4 := by
 have := fig_len (figsB_ok b)
 unfold fullR recR headR footR AMD END
 simp; omega
theorem full_le {b : List UInt8} (hg : goodR b = true) : (fullR b).length <= 50100 := by
 obtain ⟨h2, h5, _, _⟩ := good_iff.1 hg
 have := dec_len5 (show b.length <= 99999 by omega)
 have := full_size hg
 omega
theorem record_yes (l : List UInt8) (hg : goodR l = true) (w : World) (ht : TabsN w) :
  Calls Tryz.prog 43 #[.string (B l)] w fun e w' => e = .returned (.tuple #[.string (B (fullR l)), .nilIface]) /\ Below w.heap.size w w' := by
 obtain ⟨h2, h5, _, _⟩ := good_iff.1 hg
 have bl := B_size l
 have G1 := Lib.hid (good_any l (by omega) w)
 rw [hg] at G1
 have S1 := Lib.hid (fun w => sum1_any (B l) (by rw [bl]; unfold maxLen; omega) w)
 simp only [B_data] at S1
 have F1 := Lib.hid (fun w => Sm.figures_any (Sm.M.crc l) (Sm.M.crc_lt l) w)
 have eF : Sm.figs (Sm.M.crc l) = B (figsB l) := (B_of _).symm
 simp only [eF] at F1
 have H1 := Lib.hid (fun w ht => head_any l.length (by omega) (figsB l) (by rw [fig_len (figsB_ok l)]; omega) w ht)
 have T1 := Lib.hid (fun w ht => foot_any l.length (by omega) w ht)
 have hh : (headR l.length (figsB l)).length <= 30 := by
  have := fig_len (figsB_ok l)
  have := dec_len5 (show l.length <= 99999 by omega)
  unfold headR AMD; simp; omega
 have E1 : Hid (B (headR l.length (figsB l)) ++ ⟨#[10]⟩ ++ B l ++ B (footR l.length) = B (fullR l)) := by
  show _ = _
  rw [show (⟨#[10]⟩ : ByteArray) = B [10] from rfl, B_append, B_append, B_append]
  congr 1
  unfold fullR; rw [rec_def]; simp
 have s1 : (B (headR l.length (figsB l))).size <= 30 := by rw [B_size]; exact hh
 have s2 : (B (headR l.length (figsB l)) ++ ⟨#[10]⟩).size <= 31 := by rw [ByteArray.size_append]; show _ + 1 <= _; omega
 have s3 : (B (headR l.length (figsB l)) ++ ⟨#[10]⟩ ++ B l).size <= 60000 := by rw [ByteArray.size_append]; omega
 have s4 : (B (footR l.length)).size <= 30 := by
  have := dec_len5 (show l.length <= 99999 by omega)
  rw [B_size]; unfold footR END; simp; omega
 have s0 : (B l).size <= 50000 := by omega
 generalize B (headR l.length (figsB l)) = X at *
 generalize B (footR l.length) = Y at *
 generalize B (figsB l) = Z at *
 rw [<- bl] at H1 T1
 generalize hL : B l = L at *
 clear hL bl hg hh
 go_enter Tryz.func43, Tryz.ntmps43
 go_wp2_with fail
 refine G1.out.mono ?_
 rintro e w1 ⟨rfl, hb1⟩
 go_wp2_with fail
 refine (S1.out _).mono ?_
 rintro e w2 ⟨rfl, hb2⟩
 have hb12 := hb1.trans (hb2.mono hb1.size)
 go_wp2_with fail
 refine (F1.out _).mono ?_
 rintro e w3 ⟨rfl, hb3⟩
 have hb13 := hb12.trans (hb3.mono hb12.size)
 go_wp2_with fail
 refine (H1.out _ (ht.below hb13 (Nat.le_refl _))).mono ?_
 rintro e w4 ⟨rfl, hb4⟩
 have hb14 := hb13.trans (hb4.mono hb13.size)
 go_wp2_with fail
 refine (T1.out _ (ht.below hb14 (Nat.le_refl _))).mono ?_
 rintro e w5 ⟨rfl, hb5⟩
 have hb15 := hb14.trans (hb5.mono hb14.size)
 go_wp2_with fail
 go_ret2
 exact ⟨by rw [<- E1.out]; rfl, hb15⟩
theorem record_no (l : List UInt8) (hl : l.length <= 1000000) (hg : goodR l = false) (w : World) :
  Calls Tryz.prog 43 #[.string (B l)] w fun e w' => e = .returned (.tuple #[.string (B []), errV 2]) /\ Below w.heap.size w w' := by
 have G1 := Lib.hid (good_any l hl w)
 rw [hg] at G1
 go_enter Tryz.func43, Tryz.ntmps43
 go_wp2_with fail
 refine G1.out.mono ?_
 rintro e w1 ⟨rfl, hb1⟩
 go_wp2_with fail
 go_ret2
 exact ⟨rfl, hb1⟩
def lenR (n : Int) : Int := if 2 <= n /\ n <= 50000 then ((headR n.toNat zeros).length : Int) + 1 + n + ((footR n.toNat).length : Int) else 0
end Go.Proofs.YtbkeoiefolkjfaaGreatDoor.Fr
namespace Go.Proofs.YtbkeoiefolkjfaaGreatDoor.Fr
open Go.RowKit Go.Shelf
attribute [local go_sem] Oper.semAt_some
theorem read_part {t : List UInt8} (h : PartT t) : ReadIs t 2 [] 0 := .inr (.inl ⟨h, rfl, rfl, rfl⟩)
theorem read_odd {t : List UInt8} (h : ¬ PartT t) (h2 : ¬ ∃ b, WholeT t b) : ReadIs t 3 [] 0 := .inr (.inr ⟨h, h2, rfl, rfl, rfl⟩)
theorem line_split {l : List UInt8} (h : (10 : UInt8) ∈ l) : l = head l ++ 10 :: l.drop ((head l).length + 1) := by
 have := head_split l
 have hn : nl l = true := by unfold nl; simpa using h
 unfold used at this
 rw [hn, if_pos rfl, if_pos rfl] at this
 simpa using this
def readV (k : Nat) (b : List UInt8) (n : Nat) : Ending := .returned (.tuple #[.int .i64 (k : Int), .string (B b), .int .i64 (n : Int)])
theorem read_any (l : List UInt8) (hl : l.length <= 700000) (w : World) (ht : TabsN w) :
  Calls Tryz.prog 28 #[.string (B l)] w fun e w' => ∃ k b n, ReadIs l k b n /\ e = readV k b n /\ Below w.heap.size w w' := by
 have C1 := Lib.hid (cutB_any l 10 (by omega) w)
 by_cases h10 : (10 : UInt8) ∈ l
 ·have hc : l.contains 10 = true := by simpa using h10
  have hln : (10 : UInt8) ∉ head l := takeWhile_no
  have hs := line_split h10
  have eh : l.takeWhile (· != 10) = head l := rfl
  rw [hc, eh] at C1
  have hh : (head l).length <= 700000 := by have := head_le l; omega
  have A1 := Lib.hid (fun w ht => announced_any (head l) (by omega) w ht)
  generalize head l = line at *
  generalize l.drop (line.length + 1) = r at *
  clear hc eh
  have hr : r.length <= 700000 := by have := congrArg List.length hs; simp at this; omega
  cases hq : annB line with
  | false =>
   have HO : Hid (ReadIs l 3 [] 0) := by
    have h := odd_line (r := r) hln (fun h => by have := annB_iff.2 h; rw [hq] at this; cases this)
    rw [<- hs] at h
    exact read_odd h.1 h.2
   rw [hq] at A1
   clear hq hs hln hr
   go_enter Tryz.func28, Tryz.ntmps28
   go_wp2_with fail
   refine C1.out.mono ?_
   rintro e w1 ⟨rfl, hb1⟩
   go_wp2_with fail
   refine (A1.out _ (ht.below hb1 (Nat.le_refl _))).mono ?_
   rintro e w2 ⟨rfl, hb2⟩
   go_wp2_with fail
   go_ret3
   exact ⟨3, [], 0, HO.out, rfl, hb1.trans (hb2.mono hb1.size)⟩
  | true =>
  obtain ⟨n, f, hH⟩ := annB_head hq
  obtain ⟨_, hM⟩ := annB_of hH
  rw [hq, hM] at A1
  have h2 := hH.lo
  have h5 := hH.hi
  have hfig := hH.fig
  have hle := hH.eq
  clear hq hM
  by_cases hlt : r.length < n
  ·have hlt' : ((B r).size : Int) < n := by rw [B_size]; omega
   have HS := Lib.hid (short_body (f := f) h2 h5 hfig hlt)
   rw [<- hle, <- hs] at HS
   have BB := Lib.hid (fun w => beginsBody_any r n h2 h5 hlt w)
   generalize bodyPart r n = q at *
   clear hs hle hH hln hfig hlt hr
   generalize B r = R at *
   cases q with
   | true =>
    have HO : Hid (ReadIs l 2 [] 0) := read_part (HS.out.1.2 rfl)
    go_enter Tryz.func28, Tryz.ntmps28
    go_wp2_with fail
    refine C1.out.mono ?_
    rintro e w1 ⟨rfl, hb1⟩
    go_wp2_with fail
    refine (A1.out _ (ht.below hb1 (Nat.le_refl _))).mono ?_
    rintro e w2 ⟨rfl, hb2⟩
    have hb12 := hb1.trans (hb2.mono hb1.size)
    go_wp2_with fail
    refine (BB.out _).mono ?_
    rintro e w3 ⟨rfl, hb3⟩
    have hb13 := hb12.trans (hb3.mono hb12.size)
    go_wp2_with fail
    refine (partIf_yes _).mono ?_
    rintro e w4 ⟨rfl, rfl⟩
    go_wp2_with fail
    go_ret3
    exact ⟨2, [], 0, HO.out, rfl, hb13⟩
   | false =>
   have HO : Hid (ReadIs l 3 [] 0) := read_odd (fun h => by cases HS.out.1.1 h) HS.out.2
   go_enter Tryz.func28, Tryz.ntmps28
   go_wp2_with fail
   refine C1.out.mono ?_
   rintro e w1 ⟨rfl, hb1⟩
   go_wp2_with fail
   refine (A1.out _ (ht.below hb1 (Nat.le_refl _))).mono ?_
   rintro e w2 ⟨rfl, hb2⟩
   have hb12 := hb1.trans (hb2.mono hb1.size)
   go_wp2_with fail
   refine (BB.out _).mono ?_
   rintro e w3 ⟨rfl, hb3⟩
   have hb13 := hb12.trans (hb3.mono hb12.size)
   go_wp2_with fail
   refine (partIf_no _).mono ?_
   rintro e w4 ⟨rfl, rfl⟩
   go_wp2_with fail
   go_ret3
   exact ⟨3, [], 0, HO.out, rfl, hb13⟩
  have br := B_size r
  have hlt' : ¬ ((B r).size : Int) < n := by rw [br]; omega
  have hnr : (n : Int) <= (B r).size := by rw [br]; omega
  have x1 : (B r).extract 0 n = B (r.take n) := ext_take r n
  have x2 : (B r).extract n (B r).size = B (r.drop n) := ext_drop r n
  have hb0 : (r.take n).length = n := by simp; omega
  have hrd : r.take n ++ r.drop n = r := List.take_append_drop n r
  have HL := Lib.hid (long_body (f := f) (b := r.take n) (r := r.drop n) h2 h5 hfig hb0)
  rw [hrd, <- hle, <- hs] at HL
  generalize hbd : r.take n = bd at *
  generalize hrs : r.drop n = rs at *
  have HF := Lib.hid (fun w ht => beginsFoot_any rs n h5 w ht)
  have HFB := Lib.hid (footB_iff (t := rs) (n := n))
  have P1 := Lib.hid (fun w => Tryz.strings_HasPrefix (B l) (B (fullR bd)) w)
  have RN := Lib.hid (record_no bd (by omega))
  have RY := Lib.hid (record_yes bd)
  have GD := Lib.hid (fun w => good_any bd (by omega) w)
  have hel : l = headR n f ++ 10 :: (bd ++ rs) := by rw [hrd, <- hle]; exact hs
  clear hbd hrs hrd hs hlt hr hle
  have bsz : (B bd).size <= 50000 := by rw [B_size]; omega
  have HX := Lib.hid x1
  have HY := Lib.hid x2
  clear x1 x2 br
  generalize B r = R at *
  generalize hBD : B bd = BD at *
  generalize B rs = RS at *
  have hl1 : l.length <= 700000 := hl
  cases hg : goodR bd with
  | false =>
   have RN2 := Lib.hid (RN.out hg)
   have GD2 := GD.out
   rw [hg] at GD2
   have GD3 := Lib.hid GD2
   have HO : Hid (ReadIs l 3 [] 0) := read_odd (fun h => by have := (HL.out.1.1 h).1; rw [hg] at this; cases this) (fun ⟨b', h⟩ => by have := ((HL.out.2 b').1 h).2.1; rw [hg] at this; cases this)
   clear GD2 GD RY RN hg hH hln hfig hel hl hl1 P1 HL HF HFB
   go_enter Tryz.func28, Tryz.ntmps28
   go_wp2_with fail
   refine C1.out.mono ?_
   rintro e w1 ⟨rfl, hb1⟩
   go_wp2_with fail
   refine (A1.out _ (ht.below hb1 (Nat.le_refl _))).mono ?_
   rintro e w2 ⟨rfl, hb2⟩
   have hb12 := hb1.trans (hb2.mono hb1.size)
   go_wp2_with fail
   go_quiet (fail)
   go_wp2_with fail
   rw [HX.out, HY.out]
   have ht2 := ht.below hb12 (Nat.le_refl _)
   have hbq : Below w.heap.size w (w2.drewN nq) := ⟨hb12.os, hb12.tape, hb12.output, hb12.size, hb12.block⟩
   have htq := ht.below hbq (Nat.le_refl _)
   generalize w2.drewN nq = w3 at *
   refine (RN2.out _).mono ?_
   rintro e w4 ⟨rfl, hb4⟩
   have hb14 := hbq.trans (hb4.mono hbq.size)
   rw [errV_2]
   go_wp2_with fail
   refine (GD3.out _).mono ?_
   rintro e w5 ⟨rfl, hb5⟩
   have hb15 := hb14.trans (hb5.mono hb14.size)
   go_wp2_with fail
   refine (partIf_no _).mono ?_
   rintro e w7 ⟨rfl, rfl⟩
   go_wp2_with fail
   go_ret3
   exact ⟨3, [], 0, HO.out, rfl, hb15⟩
  | true =>
  have RY2 := Lib.hid (RY.out hg)
  have GD2 := GD.out
  rw [hg] at GD2
  have GD3 := Lib.hid GD2
  clear GD2 GD RY RN
  have fl := full_le hg
  have e1 : Lib.hasPrefix (B l).data.toList (B (fullR bd)).data.toList = Lib.hasPrefix l (fullR bd) := by rw [B_data, B_data]
  have fs := B_size (fullR bd)
  generalize hFB : B (fullR bd) = FB at *
  cases hp : Lib.hasPrefix l (fullR bd) with
  | true =>
   have HO : Hid (ReadIs l 1 bd (fullR bd).length) := by
    refine .inl ⟨⟨hg, ?_⟩, rfl, rfl⟩
    unfold Lib.hasPrefix at hp
    obtain ⟨z, hz⟩ := List.isPrefixOf_iff_prefix.1 hp
    exact ⟨z, hz.symm⟩
   have P2 := P1.out
   rw [e1, hp] at P2
   have P3 := Lib.hid P2
   clear hp hg e1 hH hln hfig hel hl hl1 P1 P2 HL HF HFB GD3
   rw [<- fs] at HO
   clear fs hFB
   go_enter Tryz.func28, Tryz.ntmps28
   go_wp2_with fail
   refine C1.out.mono ?_
   rintro e w1 ⟨rfl, hb1⟩
   go_wp2_with fail
   refine (A1.out _ (ht.below hb1 (Nat.le_refl _))).mono ?_
   rintro e w2 ⟨rfl, hb2⟩
   have hb12 := hb1.trans (hb2.mono hb1.size)
   go_wp2_with fail
   go_quiet (fail)
   go_wp2_with fail
   rw [HX.out, HY.out]
   have ht2 := ht.below hb12 (Nat.le_refl _)
   have hbq : Below w.heap.size w (w2.drewN nq) := ⟨hb12.os, hb12.tape, hb12.output, hb12.size, hb12.block⟩
   have htq := ht.below hbq (Nat.le_refl _)
   generalize w2.drewN nq = w3 at *
   refine (RY2.out _ htq).mono ?_
   rintro e w4 ⟨rfl, hb4⟩
   have hb14 := hbq.trans (hb4.mono hbq.size)
   go_wp2_with fail
   refine (P3.out _).mono ?_
   rintro e w5 ⟨rfl, rfl⟩
   go_wp2_with fail
   go_ret3
   exact ⟨1, bd, FB.size, HO.out, by rw [<- hBD]; rfl, hb14⟩
  | false =>
  have P2 := P1.out
  rw [e1, hp] at P2
  have P3 := Lib.hid P2
  have hw : ¬ ∃ b, WholeT l b := by
   rintro ⟨b', h'⟩
   obtain ⟨rfl, _, _, _⟩ := (HL.out.2 b').1 h'
   obtain ⟨_, more, e⟩ := h'
   have : Lib.hasPrefix l (fullR b') = true := by unfold Lib.hasPrefix; rw [List.isPrefixOf_iff_prefix]; exact ⟨more, e.symm⟩
   rw [hp] at this; cases this
  have hpt : PartT l ↔ footB rs n = true := by
   rw [HL.out.1, HFB.out]
   exact ⟨fun h => h.2, fun h => ⟨hg, h⟩⟩
  have HO := Lib.hid (show (footB rs n = true -> ReadIs l 2 [] 0) /\ (footB rs n = false -> ReadIs l 3 [] 0) from
   ⟨fun h => read_part (hpt.2 h), fun h => read_odd (fun h' => by rw [hpt.1 h'] at h; cases h) hw⟩)
  generalize footB rs n = q at *
  clear hp hg e1 hH hln hfig hel hl hl1 P1 P2 HL HFB hw hpt fs hFB
  cases q with
  | true =>
   have HO2 := Lib.hid (HO.out.1 rfl)
   go_enter Tryz.func28, Tryz.ntmps28
   go_wp2_with fail
   refine C1.out.mono ?_
   rintro e w1 ⟨rfl, hb1⟩
   go_wp2_with fail
   refine (A1.out _ (ht.below hb1 (Nat.le_refl _))).mono ?_
   rintro e w2 ⟨rfl, hb2⟩
   have hb12 := hb1.trans (hb2.mono hb1.size)
   go_wp2_with fail
   go_quiet (fail)
   go_wp2_with fail
   rw [HX.out, HY.out]
   have ht2 := ht.below hb12 (Nat.le_refl _)
   have hbq : Below w.heap.size w (w2.drewN nq) := ⟨hb12.os, hb12.tape, hb12.output, hb12.size, hb12.block⟩
   have htq := ht.below hbq (Nat.le_refl _)
   generalize w2.drewN nq = w3 at *
   refine (RY2.out _ htq).mono ?_
   rintro e w4 ⟨rfl, hb4⟩
   have hb14 := hbq.trans (hb4.mono hbq.size)
   go_wp2_with fail
   refine (P3.out _).mono ?_
   rintro e w5 ⟨rfl, rfl⟩
   go_wp2_with fail
   refine (GD3.out _).mono ?_
   rintro e w5 ⟨rfl, hb5⟩
   have hb15 := hb14.trans (hb5.mono hb14.size)
   go_wp2_with fail
   refine (HF.out _ (ht.below hb15 (Nat.le_refl _))).mono ?_
   rintro e w6 ⟨rfl, hb6⟩
   have hb16 := hb15.trans (hb6.mono hb15.size)
   go_wp2_with fail
   refine (partIf_yes _).mono ?_
   rintro e w7 ⟨rfl, rfl⟩
   go_wp2_with fail
   go_ret3
   exact ⟨2, [], 0, HO2.out, rfl, hb16⟩
  | false =>
  have HO2 := Lib.hid (HO.out.2 rfl)
  go_enter Tryz.func28, Tryz.ntmps28
  go_wp2_with fail
  refine C1.out.mono ?_
  rintro e w1 ⟨rfl, hb1⟩
  go_wp2_with fail
  refine (A1.out _ (ht.below hb1 (Nat.le_refl _))).mono ?_
  rintro e w2 ⟨rfl, hb2⟩
  have hb12 := hb1.trans (hb2.mono hb1.size)
  go_wp2_with fail
  go_quiet (fail)
  go_wp2_with fail
  rw [HX.out, HY.out]
  have ht2 := ht.below hb12 (Nat.le_refl _)
  have hbq : Below w.heap.size w (w2.drewN nq) := ⟨hb12.os, hb12.tape, hb12.output, hb12.size, hb12.block⟩
  have htq := ht.below hbq (Nat.le_refl _)
  generalize w2.drewN nq = w3 at *
  refine (RY2.out _ htq).mono ?_
  rintro e w4 ⟨rfl, hb4⟩
  have hb14 := hbq.trans (hb4.mono hbq.size)
  go_wp2_with fail
  refine (P3.out _).mono ?_
  rintro e w5 ⟨rfl, rfl⟩
  go_wp2_with fail
  refine (GD3.out _).mono ?_
  rintro e w5 ⟨rfl, hb5⟩
  have hb15 := hb14.trans (hb5.mono hb14.size)
  go_wp2_with fail
  refine (HF.out _ (ht.below hb15 (Nat.le_refl _))).mono ?_
  rintro e w6 ⟨rfl, hb6⟩
  have hb16 := hb15.trans (hb6.mono hb15.size)
  go_wp2_with fail
  refine (partIf_no _).mono ?_
  rintro e w7 ⟨rfl, rfl⟩
  go_wp2_with fail
  go_ret3
  exact ⟨3, [], 0, HO2.out, rfl, hb16⟩
 have hc : l.contains 10 = false := by simpa using h10
 have eh : l.takeWhile (· != 10) = l := takeWhile_all (no_all h10)
 rw [hc, eh] at C1
 have BH := Lib.hid (fun w ht => beginsHead_any l (by omega) w ht)
 have HO := Lib.hid (show (HeadPart l -> ReadIs l 2 [] 0) /\ (¬ HeadPart l -> ReadIs l 3 [] 0) from
  ⟨part_of, fun h => read_odd (fun h' => h ((part_line h10).1 h')) (fun ⟨b, h'⟩ => no_whole_line h10 h')⟩)
 clear hc eh h10
 generalize B (l.drop (l.length + 1)) = R at *
 go_enter Tryz.func28, Tryz.ntmps28
 go_wp2_with fail
 refine C1.out.mono ?_
 rintro e w1 ⟨rfl, hb1⟩
 go_wp2_with fail
 refine (BH.out _ (ht.below hb1 (Nat.le_refl _))).mono ?_
 rintro e w2 ⟨q, hq, rfl, hb2⟩
 have hb12 := hb1.trans (hb2.mono hb1.size)
 have HQ := Lib.hid hq
 clear hq
 go_wp2_with fail
 cases q with
 | true =>
  have HO2 := Lib.hid (HO.out.1 (HQ.out.1 rfl))
  refine (partIf_yes _).mono ?_
  rintro e w7 ⟨rfl, rfl⟩
  go_wp2_with fail
  go_ret3
  exact ⟨2, [], 0, HO2.out, rfl, hb12⟩
 | false =>
 have HO2 := Lib.hid (HO.out.2 (fun h => by cases HQ.out.2 h))
 refine (partIf_no _).mono ?_
 rintro e w7 ⟨rfl, rfl⟩
 go_wp2_with fail
 go_ret3
 exact ⟨3, [], 0, HO2.out, rfl, hb12⟩
end Go.Proofs.YtbkeoiefolkjfaaGreatDoor.Fr
