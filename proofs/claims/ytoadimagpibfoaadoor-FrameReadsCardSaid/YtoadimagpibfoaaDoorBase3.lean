/- Texts put together: DG, DH, DI, DJ, DK, DL, DN, DO, DS. -/
import Derived.Lib.ConvBytes
import Derived.Test.YtoadimagpibfoaaDoorBase2
set_option linter.unusedVariables false
/- Good: of lines, of bytes; the program's. -/
namespace Go.Proofs.YtoadimagpibfoaaDoor
open Go.Lib

def goodLn (x : Ln) : Bool := x.ended && hasPrefix x.text [32]
theorem sp_clean : ∀ (h : List UInt8), (10 : UInt8) ∉ h → sp false h = true ∧ fresh false h = false
  | [], _ => ⟨rfl, rfl⟩
  | c :: h, hc => by
    have hc1 : c ≠ 10 := fun e => hc (e ▸ List.mem_cons_self)
    have ih := sp_clean h (fun q => hc (List.mem_cons_of_mem _ q))
    have e : (c == 10) = false := by simpa using hc1
    refine ⟨by simp [sp, e, ih.1], ?_⟩
    have := ih.2
    unfold fresh at *
    rw [List.getLast?_cons]
    cases hl : h.getLast? with
    | none => simpa using hc1
    | some d => rw [hl] at this; simpa using this
theorem sp_line (h : List UInt8) (hc : (10 : UInt8) ∉ h) : sp true (h ++ [10]) = hasPrefix h [32] := by
  cases h with
  | nil => rfl
  | cons c h =>
    have hc1 : c ≠ 10 := fun e => hc (e ▸ List.mem_cons_self)
    have h1 := sp_clean h (fun q => hc (List.mem_cons_of_mem _ q))
    have e : (c == 10) = false := by simpa using hc1
    rw [List.cons_append]
    unfold sp
    rw [e, sp_append, h1.1, h1.2]
    by_cases h32 : c = 32
    · subst h32; rfl
    · have e1 : (c == 32) = false := by simpa using h32
      have e2 : hasPrefix (c :: h) [32] = ((32 == c) && true) := by simp [hasPrefix, List.isPrefixOf]
      have e3 : ((32 : UInt8) == c) = false := by simpa using fun e => h32 e.symm
      rw [e1, e2, e3]; rfl
theorem takeWhile_no : ∀ {l : List UInt8}, (10 : UInt8) ∈ head l → False
  | [], h => by simp [head] at h
  | c :: l, h => by
    unfold head at h
    rw [List.takeWhile_cons] at h
    by_cases hc : c = 10
    · subst hc; simp at h
    · have e : (c != 10) = true := by simpa using hc
      rw [if_pos e] at h
      rcases List.mem_cons.1 h with h | h
      · exact hc h.symm
      · exact takeWhile_no h
theorem good_lines : ∀ (n no at_ : Nat) (l : List UInt8), l.length ≤ n → ((linesOn no at_ l).all goodLn = true ↔ (sp true l = true ∧ (l = [] ∨ lastNl l = true)))
  | n, no, at_, l, hn => by
    by_cases h0 : l = []
    · subst h0; simp [linesOn_nil, sp]
    · rw [linesOn_cons no at_ l h0, List.all_cons]
      have hs := head_split l
      have hu := used_pos l h0
      have hlen := used_le l
      have hc : (10 : UInt8) ∉ head l := by
        intro hm
        exact takeWhile_no hm
      cases hnl : nl l with
      | false =>
        have h10 : (10 : UInt8) ∉ l := by unfold nl at hnl; simpa using hnl
        have : lastNl l = false := by
          unfold lastNl
          cases hg : l.getLast? with
          | none => rfl
          | some c =>
            have := List.mem_of_getLast? hg
            have : c ≠ 10 := fun e => h10 (e ▸ this)
            simpa using this
        simp [goodLn, this, h0]
      | true =>
        match n, hn with
        | 0, hn => exact absurd (List.eq_nil_of_length_eq_zero (by omega)) h0
        | n + 1, hn =>
          have ih := good_lines n (no + 1) (at_ + used l) (l.drop (used l)) (by rw [List.length_drop]; omega)
          rw [hnl, if_pos rfl] at hs
          rw [Bool.and_eq_true, ih]
          generalize l.drop (used l) = r at *
          generalize hh : head l = h at *
          subst hs
          rw [sp_append, sp_line h hc, fresh_append h [10] true (by simp)]
          have e2 : fresh true ([10] : List UInt8) = true := rfl
          rw [e2]
          have e3 : lastNl (h ++ [10] ++ r) = true ↔ (r = [] ∨ lastNl r = true) := by
            unfold lastNl
            rw [List.getLast?_append]
            cases hr : r.getLast? with
            | none => rw [List.getLast?_eq_none_iff.1 hr]; simp
            | some c =>
              have : r ≠ [] := fun e => by rw [e] at hr; cases hr
              simp [this]
          rw [e3]
          simp [goodLn, and_assoc]
theorem good_of (l : List UInt8) : goodR l = (decide (2 ≤ (l.length : Int) ∧ (l.length : Int) ≤ 50000) && (linesOf l).all goodLn) := by
  rw [Bool.eq_iff_iff, good_iff, Bool.and_eq_true]
  unfold linesOf
  rw [good_lines l.length 0 0 l (Nat.le_refl _)]
  constructor
  · rintro ⟨a, b, c, d⟩
    exact ⟨by simp; omega, d, .inr c⟩
  · rintro ⟨a, d, c⟩
    simp at a
    have : l ≠ [] := by rintro rfl; simp at a
    exact ⟨by omega, by omega, c.resolve_left this, d⟩
namespace Fr
open Go.RowKit Go.Shelf
attribute [local go_sem] Oper.semAt_some

def InvG (w : World) (pre : List Ln) (W : World) : Prop := Boxed W w.heap.size 4 (.bool false) ∧ Below w.heap.size w W ∧ pre.all goodLn = true
def OutG (w : World) (c : Code) (pre : List Ln) (W : World) : Prop := Boxed W w.heap.size 4 (.bool false) ∧ Below w.heap.size w W ∧ c = .ret ∧ pre.all goodLn = false
theorem goodOut (w W : World) (b : Bool) (tmps : Array Value) (h : Boxed W w.heap.size 4 (.bool b)) (hK : W.heap[w.heap.size + 2]? = some (.deferred (some []))) (hB : Below w.heap.size w W) (t2 : tmps[2]? = some (.pointer (some ⟨w.heap.size, 0, none⟩))) :
    bodyPostM Fence.wide 9 Tryd.prog Tryd.f10 (fun e w' => e = .returned (.bool b) ∧ Below w.heap.size w w') .ret { tmps := tmps, defers := [{ target := .collected (w.heap.size + 2), args := #[] }] } W := by
  have p1 := grownBy_putObj' W (w.heap.size + 2) (.deferred none)
  have zW : w.heap.size + 2 < W.heap.size := (Array.getElem?_eq_some_iff.1 hK).1
  have r : Boxed (W.putObj (w.heap.size + 2) (.deferred none)) w.heap.size 4 (.bool b) := (p1.block _ (by omega) (fun e => by have := Option.some.inj e; omega)).trans h
  have c := r.cell
  refine ⟨by simp, .inl ⟨_, _, rfl, run_takeDeferred hK, ?_⟩⟩
  exact ⟨.bool b, by simp [results, Tryd.f10, go_sem, t2, c], rfl, hB.trans (belowK_b (w := w) (Nat.le_refl _) W _ _ _ (by omega) hK rfl rfl)⟩
set_option maxRecDepth 100000 in
set_option maxHeartbeats 4000000 in
theorem good_str (s : ByteArray) (hsz : s.size ≤ 1000000) (w : World) :
    Calls Tryd.prog 10 #[.string s] w fun e w' => e = .returned (.bool (goodR s.data.toList)) ∧ Below w.heap.size w w' := by
  have hg := good_of s.data.toList
  rw [← Lib.size_eq] at hg
  have FT := Lib.hid (fits_any (s.size : Int))
  generalize goodR s.data.toList = g at *
  obtain ⟨xs, hxs⟩ : ∃ xs, linesOf s.data.toList = xs := ⟨_, rfl⟩
  rw [hxs] at hg
  have HXS := Lib.hid hxs
  have HH := fun w b => split_hands s b w
  rw [hxs] at HH
  clear hxs
  refine callsIn_wide (n := 9).1 ?_
  refine callsIn_of_wp_marks Tryd.func10 rfl trivial ?_ rfl
  simp only [Tryd.ntmps10, List.size_toArray, List.length_cons, List.length_nil, Nat.reduceAdd, Nat.reduceSub, Array.replicate_succ, Array.replicate_zero, List.push_toArray, List.append_toArray, List.nil_append, List.cons_append]
  have k1 := Boxed.new w 4 (.bool false)
  have kb : Below w.heap.size w (w.alloc (.cells #[.bool false] 4)) := (Below.refl _ w).alloc (Nat.le_refl _) _
  cases hf : decide (2 ≤ (s.size : Int) ∧ (s.size : Int) ≤ 50000) with
  | false =>
    rw [hf] at hg FT
    simp only [Bool.false_and] at hg
    subst hg
    clear hf HH
    gi_wp2_with fail
    refine ⟨trivial, (callsIn_wide.2 (FT.out _)).mono ?_⟩
    rintro e w3 ⟨rfl, rfl⟩
    gi_wp2
    have c := k1.cell
    exact ⟨.bool false, by simp [results, Tryd.f10, go_sem, c], rfl, kb⟩
  | true =>
    rw [hf] at hg FT
    simp only [Bool.true_and] at hg
    clear hf
    gi_wp2_with fail
    refine ⟨trivial, (callsIn_wide.2 (FT.out _)).mono ?_⟩
    rintro e w3 ⟨rfl, rfl⟩
    gi_wp2_with fail
    refine ⟨trivial, (callsIn_wide.2 (split_any s _)).mono ?_⟩
    rintro e w3 ⟨rfl, rfl⟩
    gi_wp2_with fail
    have k2 := boxNew2 w (.cells #[.bool false] 4) 9 (.string s)
    have kb2 := kb.alloc (o := .cells #[.string s] 9) kb.size
    have k1b := k1.alloc (.cells #[.string s] 9)
    have kz : ((w.alloc (.cells #[.bool false] 4)).alloc (.cells #[.string s] 9)).heap.size = w.heap.size + 2 := by simp
    generalize (w.alloc (.cells #[.bool false] 4)).alloc (.cells #[.string s] 9) = w1 at *
    clear k1 kb FT
    have ab : ∀ k, k ≤ 5 → Abide (w.heap.size + 2) k (InvG w) := fun k hk pre W W' h ht =>
      ⟨ht.box h.1 (.inl (by omega)), h.2.1.trans (ht.below (by omega) h.2.1.size), h.2.2⟩
    refine wp_rangedA (gf := 44) (lb := #[.pointer (some ⟨w.heap.size + 1, 0, none⟩)]) rfl (enters_of Tryd.func44 (by kernel_rfl) rfl) (HH w1 _ k2 (by omega)) (fun _ => rfl)
      (InvG w) (OutG w) (by rw [kz]; exact ab _ (by omega)) (fun c pre W W' h ht => ⟨ht.box h.1 (.inl (by rw [kz]; omega)), h.2.1.trans (ht.below (by rw [kz]; omega) h.2.1.size), h.2.2⟩) ⟨k1b, kb2, rfl⟩
      (fun a pre x a' W => ∃ Bx, w.heap.size + 2 + 5 ≤ Bx ∧ a' = { tmps := (a.tmps.setIfInBounds 10 (.agg (lineV x))).setIfInBounds 3 (.pointer (some ⟨Bx, 0, none⟩)), defers := [] } ∧ Cells W Bx 50 (lineV x) ∧ InvG w pre W)
      ?hM ?assign ?body ?done ?stop
    case hM =>
      rw [kz]
      rintro a pre x a' _ W W' ⟨Bx, h1, h2, h3, h4⟩ ht
      exact ⟨Bx, h1, h2, (ht.same Bx h3.lt (.inr (by omega))).trans h3, ab 2 (by omega) pre W W' h4 ht⟩
    case assign =>
      rw [kz]
      intro l pre x post W hx hsz hi
      clear hx
      dsimp only [lineV]
      gi_wp2
      exact ⟨(Stay.refl _ _ W).alloc hsz _, W.heap.size, by omega, rfl, Cells.new _ _ _, hi.1.alloc _, hi.2.1.alloc hi.2.1.size _, hi.2.2⟩
    case body =>
      rw [kz]
      rintro l pre x post a' W hx hsz ⟨Bx, hB, rfl, hc, h1, h2, h3⟩
      clear hx
      simp only [List.setIfInBounds_toArray, List.set_cons_zero, List.set_cons_succ, lineV] at hc ⊢
      have hne : Bx ≠ w.heap.size := by omega
      have gx : goodLn x = (x.ended && Lib.hasPrefix x.text [32]) := rfl
      have gs : (pre ++ [x]).all goodLn = goodLn x := by rw [List.all_append, h3]; simp
      have c3 := h1.cell
      have f3 := h1.frozen
      have p2 : W.cell? ⟨Bx, 2, none⟩ = some (.string ⟨x.text.toArray⟩) := hc.cell 2
      have p3 : W.cell? ⟨Bx, 3, none⟩ = some (.bool x.ended) := hc.cell 3
      generalize x.ended = en at *
      cases en with
      | false =>
        gi_wp2_with fail
        refine ⟨trivial, ?_⟩
        gi_wp2
        exact ⟨(Stay.refl _ _ _).setCell (.inl (by show w.heap.size < _; omega)) _, Boxed.set _ h1, h2.setCell (p := ⟨w.heap.size, 0, none⟩) (Nat.le_refl _) _, rfl, by rw [gs, gx]; rfl⟩
      | true =>
        gi_wp2_with fail
        refine ⟨trivial, ((callsIn_wide.2 (Tryd.strings_HasPrefix ⟨x.text.toArray⟩ ⟨#[32]⟩ W)).inRound l).mono ?_⟩
        rintro e V ⟨rfl, rfl⟩
        have eh : Lib.hasPrefix (⟨x.text.toArray⟩ : ByteArray).data.toList (⟨#[32]⟩ : ByteArray).data.toList = Lib.hasPrefix x.text [32] := rfl
        rw [eh]
        rw [Bool.true_and] at gx
        generalize Lib.hasPrefix x.text [32] = hp at *
        cases hp with
        | false =>
          gi_wp2
          exact ⟨(Stay.refl _ _ _).setCell (.inl (by show w.heap.size < _; omega)) _, Boxed.set _ h1, h2.setCell (p := ⟨w.heap.size, 0, none⟩) (Nat.le_refl _) _, rfl, by rw [gs, gx]⟩
        | true =>
          gi_wp2
          exact ⟨Stay.refl _ _ _, h1, h2, by rw [gs, gx]⟩
    case done =>
      rw [kz]
      rintro W ⟨h1, h2, h3⟩ hmark
      have zW : w.heap.size + 2 < W.heap.size := (Array.getElem?_eq_some_iff.1 hmark).1
      have c3 := h1.cell
      have f3 := h1.frozen
      rw [h3] at hg
      subst hg
      gi_wp2
      exact goodOut w _ true _ (Boxed.set _ h1) ((Below.heap_setCell _ _ _ _ (by show w.heap.size + 2 ≠ w.heap.size; omega)).trans hmark) (h2.setCell (p := ⟨w.heap.size, 0, none⟩) (Nat.le_refl _) _) rfl
    case stop =>
      rw [kz]
      rintro c pre W hpre ⟨h1, h2, rfl, h3⟩ hmark
      have hg0 : g = false := by
        rw [hg]
        obtain ⟨z, rfl⟩ := hpre
        rw [List.all_append, h3]; rfl
      subst hg0
      gi_wp2
      exact goodOut w W false _ h1 hmark h2 rfl
theorem good_any (l : List UInt8) (hl : l.length ≤ 1000000) (w : World) :
    Calls Tryd.prog 10 #[.string (B l)] w fun e w' => e = .returned (.bool (goodR l)) ∧ Below w.heap.size w w' := by
  have := good_str (B l) (by rw [B_size]; exact hl) w
  rwa [B_data] at this
end Fr
end Go.Proofs.YtoadimagpibfoaaDoor
/- announced, beginsHead, beginsBody, beginsFoot. -/
namespace Go.Proofs.YtoadimagpibfoaaDoor.Fr
open Go.RowKit Go.Shelf
attribute [local go_sem] Oper.semAt_some

theorem ext_to (X : List UInt8) (i j : Nat) : (B X).extract i j = B ((X.drop i).take (j - i)) := by
  apply ByteArray.ext
  apply Array.toList_inj.1
  rw [Lib.extract_data, B_data, B_data]
theorem ext_drop (X : List UInt8) (i : Nat) : (B X).extract i (B X).size = B (X.drop i) := by
  rw [ext_to, B_size, List.take_of_length_le (by simp)]
theorem ext_take (X : List UInt8) (j : Nat) : (B X).extract 0 j = B (X.take j) := by rw [ext_to]; simp
theorem no_all {l : List UInt8} {c : UInt8} (h : c ∉ l) : ∀ x ∈ l, (x != c) = true := fun x hx => by
  have : x ≠ c := fun e => h (by rw [← e]; exact hx)
  simpa using this
theorem cutB_any (l : List UInt8) (c : UInt8) (hl : l.length ≤ 1000000) (w : World) :
    Calls Tryd.prog 27 #[.string (B l), .string ⟨#[c]⟩] w fun e w' =>
      e = .returned (.tuple #[.string (B (l.takeWhile (· != c))), .string (B (l.drop ((l.takeWhile (· != c)).length + 1))), .bool (l.contains c)]) ∧ Below w.heap.size w w' := by
  by_cases h : c ∈ l
  · refine (cut_yes (B l) c w (by rw [B_size]; unfold maxLen; omega) (by rw [B_data]; exact h)).mono ?_
    rintro e w' ⟨rfl, n, rfl⟩
    refine ⟨?_, ⟨rfl, rfl, rfl, Nat.le_refl _, fun _ _ => rfl⟩⟩
    have hp : l.take (l.takeWhile (· != c)).length = l.takeWhile (· != c) := (List.prefix_iff_eq_take.1 (List.takeWhile_prefix _)).symm
    rw [B_data, ext_drop, ext_take, hp]
    simp [h]
  · refine (cut_no (B l) c w (by rw [B_data]; exact h)).mono ?_
    rintro e w' ⟨rfl, n, rfl⟩
    refine ⟨?_, ⟨rfl, rfl, rfl, Nat.le_refl _, fun _ _ => rfl⟩⟩
    have hp : l.takeWhile (· != c) = l := takeWhile_all (no_all h)
    rw [hp, List.drop_of_length_le (by omega)]
    simp [h]; rfl
def numP (l : List UInt8) : List UInt8 := (Lib.trimPrefix l AMD).takeWhile (· != 32)
def figP (l : List UInt8) : List UInt8 := (Lib.trimPrefix l AMD).drop ((numP l).length + 1)
def annM (l : List UInt8) : Int := atoiV (numP l)
def annB (l : List UInt8) : Bool := (Sm.takes (figP l)).isSome && decide (2 ≤ annM l ∧ annM l ≤ 50000) && decide (headR (annM l).toNat (figP l) = l)
theorem annB_of {l : List UInt8} {n : Nat} {f : List UInt8} (h : IsHead l n f) : annB l = true ∧ annM l = n := by
  have e1 : Lib.trimPrefix l AMD = Lib.decDigits n ++ 32 :: f := by
    rw [h.eq]; unfold headR Lib.trimPrefix
    have : Lib.hasPrefix (AMD ++ (Lib.decDigits n ++ 32 :: f)) AMD = true := by unfold Lib.hasPrefix; rw [List.isPrefixOf_iff_prefix]; exact List.prefix_append _ _
    rw [if_pos this, List.drop_left]
  have e2 : numP l = Lib.decDigits n := by
    unfold numP
    rw [e1, List.takeWhile_append_of_pos (no_all (dec_no32 n))]
    simp
  have e3 : figP l = f := by unfold figP; rw [e2, e1, ← List.drop_drop, List.drop_left]; rfl
  have hn : I64 (n : Int) := by have := h.hi; unfold I64; omega
  have e4 : annM l = n := by unfold annM; rw [e2, ← Lib.itoa_nonneg, atoiV_itoa hn]
  have h2 := h.lo
  have h5 := h.hi
  obtain ⟨x, hx⟩ := h.fig
  refine ⟨?_, e4⟩
  unfold annB
  rw [e4, e3, hx, h.eq]
  simp; omega
theorem annB_head {l : List UInt8} (h : annB l = true) : ∃ n f, IsHead l n f := by
  unfold annB at h
  simp only [Bool.and_eq_true, decide_eq_true_eq] at h
  obtain ⟨⟨h1, h2, h3⟩, h4⟩ := h
  obtain ⟨x, hx⟩ := Option.isSome_iff_exists.1 h1
  exact ⟨(annM l).toNat, figP l, by omega, by omega, ⟨x, hx⟩, h4.symm⟩
theorem annB_iff {l : List UInt8} : annB l = true ↔ ∃ n f, IsHead l n f := ⟨annB_head, fun ⟨_, _, h⟩ => (annB_of h).1⟩
theorem takeV_is (s : List UInt8) : Sm.takeV s = .tuple #[.int .u32 ((Sm.takes s).getD 0 : Nat), .bool (Sm.takes s).isSome] := by
  cases h : Sm.takes s with
  | none => rw [Sm.takeV_not h]; rfl
  | some n => rw [Sm.takeV_of h]; rfl
set_option maxRecDepth 100000 in
set_option maxHeartbeats 2000000 in
theorem announced_any (l : List UInt8) (hl : l.length ≤ 900000) (w : World) (ht : TabsN w) :
    Calls Tryd.prog 30 #[.string (B l)] w fun e w' => e = .returned (.tuple #[.int .i64 (annM l), .bool (annB l)]) ∧ Below w.heap.size w w' := by
  have T1 := Lib.hid (Tryd.strings_TrimPrefix (B l) (B AMD) w)
  have hp : (Lib.trimPrefix l AMD).length ≤ 900000 := Nat.le_trans (Lib.trimPrefix_le l AMD) hl
  have C1 := Lib.hid (fun w => cutB_any (Lib.trimPrefix l AMD) 32 (by omega) w)
  have e1 : (Lib.trimPrefix l AMD).takeWhile (· != 32) = numP l := rfl
  have e2 : (Lib.trimPrefix l AMD).drop ((numP l).length + 1) = figP l := rfl
  have hn : (numP l).length ≤ 900000 := Nat.le_trans (List.takeWhile_sublist _).length_le hp
  have hf : (figP l).length ≤ 900000 := by rw [← e2, List.length_drop]; omega
  have K1 := Lib.hid (fun w => Sm.take_any (B (figP l)) w (by rw [B_size]; unfold maxLen; omega))
  have A1 := Lib.hid (fun w ht => atoi_any (numP l) (by omega) w ht)
  have F1 := Lib.hid (fits_any (annM l))
  have hm : atoiV (numP l) = annM l := rfl
  rw [hm] at A1
  rw [e1, e2] at C1
  simp only [takeV_is, B_data] at K1
  simp only [B_data] at T1
  have e3 : (⟨(Lib.trimPrefix l AMD).toArray⟩ : ByteArray) = B (Lib.trimPrefix l AMD) := rfl
  rw [e3] at T1
  have NS := Lib.hid hn
  have hb : annB l = ((Sm.takes (figP l)).isSome && decide (2 ≤ annM l ∧ annM l ≤ 50000) && decide (headR (annM l).toNat (figP l) = l)) := rfl
  have H1 := Lib.hid (fun (n : Nat) (h : n ≤ 50000) w ht => head_any n (by omega) (figP l) (by omega) w ht)
  have ba : (⟨#[37, 97, 109, 101, 110, 100, 32]⟩ : ByteArray) = B AMD := rfl
  have same : ∀ x : List UInt8, ((B x).toList == (B l).toList) = decide (x = l) := fun x => by rw [Lib.toList_data, Lib.toList_data, B_data, B_data, Bool.eq_iff_iff]; simp
  generalize (Sm.takes (figP l)).getD 0 = tv at *
  generalize (Sm.takes (figP l)).isSome = tb at *
  generalize annM l = m at *
  generalize annB l = q at *
  clear e1 e2 hm hn hp e3
  go_enter Tryd.func30, Tryd.ntmps30
  rw [ba]
  go_wp2_with fail
  refine T1.out.mono ?_
  rintro e w1 ⟨rfl, rfl⟩
  go_wp2_with fail
  refine (C1.out _).mono ?_
  rintro e w1 ⟨rfl, hb1⟩
  go_wp2_with fail
  refine (K1.out _).mono ?_
  rintro e w2 ⟨rfl, rfl⟩
  go_wp2_with fail
  refine (A1.out _ (ht.below hb1 (Nat.le_refl _))).mono ?_
  rintro e w3 ⟨⟨T, v, he⟩, hb3⟩
  have ht3 := (ht.below hb1 (Nat.le_refl _)).below hb3 (Nat.le_refl _)
  have hb13 := hb1.trans (hb3.mono hb1.size)
  rcases he with rfl | rfl
  all_goals
    cases tb with
    | false =>
      simp only [Bool.false_and] at hb
      subst hb
      go_wp2_with fail
      go_ret2
      exact ⟨rfl, hb13⟩
    | true =>
      cases hf : decide (2 ≤ m ∧ m ≤ 50000) with
      | false =>
        rw [hf] at hb F1
        simp only [Bool.true_and, Bool.false_and] at hb
        subst hb
        go_wp2_with fail
        refine (F1.out _).mono ?_
        rintro e w4 ⟨rfl, rfl⟩
        go_wp2_with fail
        go_ret2
        exact ⟨rfl, hb13⟩
      | true =>
        rw [hf] at hb F1
        have hf' := of_decide_eq_true hf
        obtain ⟨n, rfl⟩ : ∃ n : Nat, m = n := ⟨m.toNat, by omega⟩
        simp only [Bool.true_and, Int.toNat_natCast] at hb
        go_wp2_with fail
        refine (F1.out _).mono ?_
        rintro e w4 ⟨rfl, rfl⟩
        go_wp2_with fail
        refine (H1.out n (by omega) _ ht3).mono ?_
        rintro e w4 ⟨rfl, hb4⟩
        go_wp2_with fail
        go_ret2
        exact ⟨by rw [hb]; rfl, hb13.trans (hb4.mono hb13.size)⟩
theorem longB : B longest = B (headR 50000 zeros) := by rw [longest_eq]
set_option maxRecDepth 100000 in
set_option maxHeartbeats 2000000 in
theorem beginsHead_any (l : List UInt8) (hl : l.length ≤ 800000) (w : World) (ht : TabsN w) :
    Calls Tryd.prog 29 #[.string (B l)] w fun e w' => ∃ q : Bool, (q = true ↔ HeadPart l) ∧ e = .returned (.bool q) ∧ Below w.heap.size w w' := by
  have H1 := Lib.hid (head_any 50000 (by omega) zeros (by decide) w ht)
  rw [← longB] at H1
  have zs : (⟨#[48, 48, 48, 48, 48, 48, 48, 48]⟩ : ByteArray) = B zeros := rfl
  have ls : (B longest).size = 21 := rfl
  have bl := B_size l
  by_cases h21 : 21 < l.length
  · have hno : ¬ HeadPart l := fun h => by have := part_len h; omega
    have q1 : (21 : Int) < ((B l).size : Int) := by rw [bl]; omega
    go_enter Tryd.func29, Tryd.ntmps29
    rw [zs]
    go_wp2_with fail
    refine H1.out.mono ?_
    rintro e w1 ⟨rfl, hb1⟩
    go_wp2_with fail
    go_ret
    exact ⟨false, by simp [hno], rfl, hb1⟩
  · have q1 : ¬ (21 : Int) < ((B l).size : Int) := by rw [bl]; omega
    have bs : (B l).size ≤ 21 := by rw [bl]; omega
    have hp := head_parts (l := l)
    have A1 := Lib.hid (fun k w ht => announced_any (l ++ longest.drop k) (by rw [List.length_append, List.length_drop]; have : longest.length = 21 := rfl; omega) w ht)
    have E1 : Hid (∀ k, B l ++ (B longest).extract k 21 = B (l ++ longest.drop k)) := fun k => by
      have := ext_drop longest k
      rw [ls] at this
      rw [this, B_append]
    generalize hL : B longest = L at *
    go_enter Tryd.func29, Tryd.ntmps29
    rw [zs]
    go_wp2_with fail
    refine H1.out.mono ?_
    rintro e w1 ⟨rfl, hb1⟩
    go_wp2_with fail
    go_loopw [16] (fun i wr => ∃ k : Nat, k ≤ 22 ∧ i = .int .i64 k ∧ Below w.heap.size w wr ∧ ∀ j, j < k → annB (l ++ longest.drop j) = false) (fun i _ => 22 - (intOf i).toNat)
    case atStart => exact ⟨0, by omega, rfl, hb1, fun j hj => by omega⟩
    case round =>
      obtain ⟨k, hk, rfl, hb, hj⟩ := hrel
      have HJ := Lib.hid hj
      clear hj
      by_cases hlt : k < 22
      · have hk2 : (k : Int) ≤ 21 := by omega
        go_wp2_with fail
        rw [E1.out k]
        refine (A1.out k _ (ht.below hb (Nat.le_refl _))).mono ?_
        rintro e w2 ⟨rfl, hb2⟩
        have hb' := hb.trans (hb2.mono hb.size)
        cases hq : annB (l ++ longest.drop k) with
        | true =>
          have hyes : HeadPart l := hp.2 ⟨k, by omega, annB_head hq⟩
          clear hq
          go_wp2_with fail
          go_ret
          exact ⟨true, by simp [hyes], rfl, hb'⟩
        | false =>
          have HN : Hid (∀ j, j < k + 1 → annB (l ++ longest.drop j) = false) := by
            intro j hj
            by_cases e : j = k
            · rw [e]; exact hq
            · exact HJ.out j (by omega)
          clear hq
          go_wp2_with fail
          go_roundw
          case rel => exact ⟨k + 1, by omega, by go_num, hb', HN.out⟩
          case measure => simp [intOf]; omega
      · obtain rfl : k = 22 := by omega
        go_wp2_with fail
        go_ret
        refine ⟨false, ?_, rfl, hb⟩
        rw [hp]
        constructor
        · intro h; cases h
        · rintro ⟨j, hj, n, f, h⟩
          have := annB_iff.2 ⟨n, f, h⟩
          rw [HJ.out j (by omega)] at this
          cases this
end Go.Proofs.YtoadimagpibfoaaDoor.Fr
/- beginsBody, beginsFoot, Record, Length. -/
namespace Go.Proofs.YtoadimagpibfoaaDoor.Fr
open Go.RowKit Go.Shelf
attribute [local go_sem] Oper.semAt_some

theorem repeat_spaces (k : Nat) : Lib.repeatL [32] k = List.replicate k 32 := by
  induction k with
  | zero => rfl
  | succ k ih => rw [List.replicate_succ, ← ih]; rfl
set_option maxRecDepth 100000 in
set_option maxHeartbeats 2000000 in
theorem beginsBody_any (t : List UInt8) (n : Nat) (h2 : 2 ≤ n) (h5 : n ≤ 50000) (hl : t.length < n) (w : World) :
    Calls Tryd.prog 31 #[.string (B t), .int .i64 (n : Int)] w fun e w' => e = .returned (.bool (bodyPart t n)) ∧ Below w.heap.size w w' := by
  have bt := B_size t
  have e10 : (B [32]).size = 1 := rfl
  have hc0 : (B [32]).size * (n - t.length - 1) ≤ 140737488355328 := by simp only [e10]; omega
  have R1 := Lib.hid (Tryd.strings_Repeat (B [32]) (n - t.length - 1) w (by omega) hc0)
  have G1 := Lib.hid (fun w => good_any (t ++ (List.replicate (n - t.length - 1) 32 ++ [10])) (by simp; omega) w)
  have hk : ((n - t.length - 1 : Nat) : Int) = (n : Int) - (t.length : Int) - 1 := by omega
  rw [hk, B_data, repeat_spaces, show (⟨(List.replicate (n - t.length - 1) (32 : UInt8)).toArray⟩ : ByteArray) = B (List.replicate (n - t.length - 1) 32) from rfl] at R1
  have E1 : Hid (B t ++ B (List.replicate (n - t.length - 1) 32) ++ ⟨#[10]⟩ = B (t ++ (List.replicate (n - t.length - 1) 32 ++ [10]))) := by
    show _ = _
    rw [show (⟨#[10]⟩ : ByteArray) = B [10] from rfl, B_append, B_append, List.append_assoc]
  have s1 : (B (List.replicate (n - t.length - 1) 32)).size ≤ 50000 := by rw [B_size]; simp; omega
  have s2 : (B t ++ B (List.replicate (n - t.length - 1) 32)).size ≤ 100000 := by rw [ByteArray.size_append]; omega
  have s0 : (B t).size ≤ 50000 := by omega
  simp only [body_tail h2 h5 hl] at G1
  have z1 : (⟨#[32]⟩ : ByteArray) = B [32] := rfl
  have w1 : IntKind.i64.wrap ((n : Int) - (t.length : Int)) = (n : Int) - (t.length : Int) := IntWalk.i64_in _ (by omega)
  have w2 : IntKind.i64.wrap ((n : Int) - (t.length : Int) - 1) = (n : Int) - (t.length : Int) - 1 := IntWalk.i64_in _ (by omega)
  generalize B (List.replicate (n - t.length - 1) 32) = R at *
  generalize bodyPart t n = q at *
  clear hk
  rw [← bt] at w1 w2 R1
  generalize hX : B t = X at *
  clear bt hX
  go_enter Tryd.func31, Tryd.ntmps31
  rw [z1]
  go_wp2_with fail
  refine R1.out.mono ?_
  rintro e w3 ⟨rfl, hb1⟩
  go_wp2_with fail
  rw [E1.out]
  refine (G1.out _).mono ?_
  rintro e w4 ⟨rfl, hb2⟩
  go_wp2_with fail
  go_ret
  exact ⟨rfl, hb1.trans (hb2.mono hb1.size)⟩
/-- A true beginning of the line behind a body. -/
def footB (t : List UInt8) (n : Nat) : Bool := !(decide (t = footR n)) && Lib.hasPrefix (footR n) t
theorem footB_iff {t : List UInt8} {n : Nat} : footB t n = true ↔ ∃ z, t ++ z = footR n ∧ z ≠ [] := by
  unfold footB Lib.hasPrefix
  simp only [Bool.and_eq_true, Bool.not_eq_true', decide_eq_false_iff_not, List.isPrefixOf_iff_prefix]
  constructor
  · rintro ⟨h1, z, h2⟩
    exact ⟨z, h2, fun e => h1 (by rw [← h2, e]; simp)⟩
  · rintro ⟨z, h2, h3⟩
    refine ⟨fun e => ?_, z, h2⟩
    rw [e] at h2
    exact h3 (by simpa using h2)
set_option maxRecDepth 100000 in
set_option maxHeartbeats 2000000 in
theorem beginsFoot_any (t : List UInt8) (n : Nat) (h5 : n ≤ 50000) (w : World) (ht : TabsN w) :
    Calls Tryd.prog 32 #[.string (B t), .int .i64 (n : Int)] w fun e w' => e = .returned (.bool (footB t n)) ∧ Below w.heap.size w w' := by
  have F1 := Lib.hid (foot_any n (by omega) w ht)
  have P1 := Lib.hid (fun w => Tryd.strings_HasPrefix (B (footR n)) (B t) w)
  simp only [B_data] at P1
  have same : ((B t).toList == (B (footR n)).toList) = decide (t = footR n) := by rw [Lib.toList_data, Lib.toList_data, B_data, B_data, Bool.eq_iff_iff]; simp
  have hq : footB t n = (!(decide (t = footR n)) && Lib.hasPrefix (footR n) t) := rfl
  generalize footB t n = q at *
  generalize Lib.hasPrefix (footR n) t = p at *
  generalize decide (t = footR n) = d at *
  generalize B (footR n) = f at *
  generalize B t = X at *
  cases d with
  | true =>
    go_enter Tryd.func32, Tryd.ntmps32
    go_wp2_with fail
    refine F1.out.mono ?_
    rintro e w1 ⟨rfl, hb1⟩
    go_wp2_with fail
    go_ret
    exact ⟨by rw [hq]; rfl, hb1⟩
  | false =>
    go_enter Tryd.func32, Tryd.ntmps32
    go_wp2_with fail
    refine F1.out.mono ?_
    rintro e w1 ⟨rfl, hb1⟩
    go_wp2_with fail
    refine (P1.out _).mono ?_
    rintro e w2 ⟨rfl, rfl⟩
    go_wp2_with fail
    go_ret
    exact ⟨by rw [hq]; rfl, hb1⟩
theorem strs1 (a : ByteArray) (w : World) : Sm.Strs (w.alloc (.cells #[.string a] 9)) (.slice (some ⟨w.heap.size, 0, none⟩) 1 1) [a] := by
  refine ⟨_, 1, rfl, ?_⟩
  intro i s h
  refine ⟨w.heap.size, 0, rfl, by simp, ?_⟩
  rw [World.cell?_alloc_at _ _ _ _ rfl]
  match i, h with
  | 0, h => simp at h; subst h; rfl
  | n + 1, h => simp at h
theorem sum1_any (a : ByteArray) (ha : a.size ≤ maxLen) (w : World) :
    Calls Tryd.prog 20 #[.slice (some ⟨w.heap.size, 0, none⟩) 1 1] (w.alloc (.cells #[.string a] 9)) fun e w' => e = .returned (.int .u32 (Sm.M.crc a.data.toList : Nat)) ∧ Below w.heap.size w w' :=
  (Sm.sum_any _ [a] _ (strs1 a w) (by simp [maxLen]) (fun i s h => by
    match i, h with
    | 0, h => simp at h; subst h; exact ha
    | n + 1, h => simp at h)).mono fun e w' ⟨he, hb⟩ => ⟨by rw [he]; simp [Sm.cat, Sm.M.crc], ((Below.refl _ _).alloc (Nat.le_refl _) _).trans (hb.mono (by simp))⟩
theorem full_size {b : List UInt8} (hg : goodR b = true) : (fullR b).length = b.length + 27 + 2 * (Lib.decDigits b.length).length - 4 := by
  have := fig_len (figsB_ok b)
  unfold fullR recR headR footR AMD END
  simp; omega
theorem full_le {b : List UInt8} (hg : goodR b = true) : (fullR b).length ≤ 50100 := by
  obtain ⟨h2, h5, _, _⟩ := good_iff.1 hg
  have := dec_len5 (show b.length ≤ 99999 by omega)
  have := full_size hg
  omega
set_option maxRecDepth 100000 in
set_option maxHeartbeats 2000000 in
theorem record_yes (l : List UInt8) (hg : goodR l = true) (w : World) (ht : TabsN w) :
    Calls Tryd.prog 8 #[.string (B l)] w fun e w' => e = .returned (.tuple #[.string (B (fullR l)), .nilIface]) ∧ Below w.heap.size w w' := by
  obtain ⟨h2, h5, _, _⟩ := good_iff.1 hg
  have bl := B_size l
  have G1 := Lib.hid (good_any l (by omega) w)
  rw [hg] at G1
  have S1 := Lib.hid (fun w => sum1_any (B l) (by rw [bl]; unfold maxLen; omega) w)
  simp only [B_data] at S1
  have F1 := Lib.hid (fun w => Sm.figures_any (Sm.M.crc l) (Sm.M.crc_lt l) w)
  have eF : Sm.figs (Sm.M.crc l) = B (figsB l) := (B_of _).symm
  simp only [eF] at F1
  have H1 := Lib.hid (fun w ht => head_any l.length (by omega) (figsB l) (by rw [fig_len (figsB_ok l)]; omega) w ht)
  have T1 := Lib.hid (fun w ht => foot_any l.length (by omega) w ht)
  have hh : (headR l.length (figsB l)).length ≤ 30 := by
    have := fig_len (figsB_ok l)
    have := dec_len5 (show l.length ≤ 99999 by omega)
    unfold headR AMD; simp; omega
  have E1 : Hid (B (headR l.length (figsB l)) ++ ⟨#[10]⟩ ++ B l ++ B (footR l.length) = B (fullR l)) := by
    show _ = _
    rw [show (⟨#[10]⟩ : ByteArray) = B [10] from rfl, B_append, B_append, B_append]
    congr 1
    unfold fullR; rw [rec_def]; simp
  have s1 : (B (headR l.length (figsB l))).size ≤ 30 := by rw [B_size]; exact hh
  have s2 : (B (headR l.length (figsB l)) ++ ⟨#[10]⟩).size ≤ 31 := by rw [ByteArray.size_append]; show _ + 1 ≤ _; omega
  have s3 : (B (headR l.length (figsB l)) ++ ⟨#[10]⟩ ++ B l).size ≤ 60000 := by rw [ByteArray.size_append]; omega
  have s4 : (B (footR l.length)).size ≤ 30 := by
    have := dec_len5 (show l.length ≤ 99999 by omega)
    rw [B_size]; unfold footR END; simp; omega
  have s0 : (B l).size ≤ 50000 := by omega
  generalize B (headR l.length (figsB l)) = X at *
  generalize B (footR l.length) = Y at *
  generalize B (figsB l) = Z at *
  rw [← bl] at H1 T1
  generalize hL : B l = L at *
  clear hL bl hg hh
  go_enter Tryd.func8, Tryd.ntmps8
  go_wp2_with fail
  refine G1.out.mono ?_
  rintro e w1 ⟨rfl, hb1⟩
  go_wp2_with fail
  refine (S1.out _).mono ?_
  rintro e w2 ⟨rfl, hb2⟩
  have hb12 := hb1.trans (hb2.mono hb1.size)
  go_wp2_with fail
  refine (F1.out _).mono ?_
  rintro e w3 ⟨rfl, hb3⟩
  have hb13 := hb12.trans (hb3.mono hb12.size)
  go_wp2_with fail
  refine (H1.out _ (ht.below hb13 (Nat.le_refl _))).mono ?_
  rintro e w4 ⟨rfl, hb4⟩
  have hb14 := hb13.trans (hb4.mono hb13.size)
  go_wp2_with fail
  refine (T1.out _ (ht.below hb14 (Nat.le_refl _))).mono ?_
  rintro e w5 ⟨rfl, hb5⟩
  have hb15 := hb14.trans (hb5.mono hb14.size)
  go_wp2_with fail
  go_ret2
  exact ⟨by rw [← E1.out]; rfl, hb15⟩
set_option maxRecDepth 100000 in
theorem record_no (l : List UInt8) (hl : l.length ≤ 1000000) (hg : goodR l = false) (w : World) :
    Calls Tryd.prog 8 #[.string (B l)] w fun e w' => e = .returned (.tuple #[.string (B []), errV 2]) ∧ Below w.heap.size w w' := by
  have G1 := Lib.hid (good_any l hl w)
  rw [hg] at G1
  go_enter Tryd.func8, Tryd.ntmps8
  go_wp2_with fail
  refine G1.out.mono ?_
  rintro e w1 ⟨rfl, hb1⟩
  go_wp2_with fail
  go_ret2
  exact ⟨rfl, hb1⟩
def lenR (n : Int) : Int := if 2 ≤ n ∧ n ≤ 50000 then ((headR n.toNat zeros).length : Int) + 1 + n + ((footR n.toNat).length : Int) else 0
set_option maxRecDepth 100000 in
set_option maxHeartbeats 2000000 in
theorem length_any (n : Int) (w : World) (ht : TabsN w) :
    Calls Tryd.prog 14 #[.int .i64 n] w fun e w' => e = .returned (.int .i64 (lenR n)) ∧ Below w.heap.size w w' := by
  have F1 := Lib.hid (fits_any n w)
  by_cases h : 2 ≤ n ∧ n ≤ 50000
  · obtain ⟨k, rfl⟩ : ∃ k : Nat, n = k := ⟨n.toNat, by omega⟩
    have e0 : lenR k = ((headR k zeros).length : Int) + 1 + k + ((footR k).length : Int) := by unfold lenR; rw [if_pos h]; rfl
    rw [e0]
    have hd : decide (2 ≤ (k : Int) ∧ (k : Int) ≤ 50000) = true := by simpa using h
    rw [hd] at F1
    have H1 := Lib.hid (fun w ht => head_any k (by omega) zeros (by decide) w ht)
    have T1 := Lib.hid (fun w ht => foot_any k (by omega) w ht)
    have h5 := dec_len5 (show k ≤ 99999 by omega)
    have hh : (headR k zeros).length ≤ 30 := by unfold headR AMD zeros; simp; omega
    have hf : (footR k).length ≤ 30 := by unfold footR END; simp; omega
    have bh := B_size (headR k zeros)
    have bf := B_size (footR k)
    have zs : (⟨#[48, 48, 48, 48, 48, 48, 48, 48]⟩ : ByteArray) = B zeros := rfl
    have hk : (k : Int) ≤ 50000 := h.2
    have hh2 : (B (headR k zeros)).size ≤ 30 := by rw [bh]; exact hh
    have hf2 : (B (footR k)).size ≤ 30 := by rw [bf]; exact hf
    rw [← bh, ← bf]
    clear hh hf
    generalize B (headR k zeros) = X at *
    generalize B (footR k) = Y at *
    clear h hd e0 h5 bh bf
    have w1 : IntKind.i64.wrap ((X.size : Int) + 1) = (X.size : Int) + 1 := IntWalk.i64_in _ (by omega)
    have w2 : IntKind.i64.wrap ((X.size : Int) + 1 + k) = (X.size : Int) + 1 + k := IntWalk.i64_in _ (by omega)
    have w3 : IntKind.i64.wrap ((X.size : Int) + 1 + k + (Y.size : Int)) = (X.size : Int) + 1 + k + (Y.size : Int) := IntWalk.i64_in _ (by omega)
    go_enter Tryd.func14, Tryd.ntmps14
    rw [zs]
    go_wp2_with fail
    refine F1.out.mono ?_
    rintro e w1 ⟨rfl, rfl⟩
    go_wp2_with fail
    refine (H1.out _ ht).mono ?_
    rintro e w2 ⟨rfl, hb2⟩
    go_wp2_with fail
    refine (T1.out _ (ht.below hb2 (Nat.le_refl _))).mono ?_
    rintro e w3 ⟨rfl, hb3⟩
    go_wp2_with fail
    go_ret
    exact ⟨rfl, hb2.trans (hb3.mono hb2.size)⟩
  · have e0 : lenR n = 0 := by unfold lenR; rw [if_neg h]
    have hd : decide (2 ≤ n ∧ n ≤ 50000) = false := by simpa using h
    rw [hd] at F1
    rw [e0]
    go_enter Tryd.func14, Tryd.ntmps14
    go_wp2_with fail
    refine F1.out.mono ?_
    rintro e w1 ⟨rfl, rfl⟩
    go_wp2_with fail
    go_ret
    exact ⟨rfl, Below.refl _ _⟩
end Go.Proofs.YtoadimagpibfoaaDoor.Fr
/- Read. -/
namespace Go.Proofs.YtoadimagpibfoaaDoor.Fr
open Go.RowKit Go.Shelf
attribute [local go_sem] Oper.semAt_some

theorem read_part {t : List UInt8} (h : PartT t) : ReadIs t 2 [] 0 := .inr (.inl ⟨h, rfl, rfl, rfl⟩)
theorem read_odd {t : List UInt8} (h : ¬ PartT t) (h2 : ¬ ∃ b, WholeT t b) : ReadIs t 3 [] 0 := .inr (.inr ⟨h, h2, rfl, rfl, rfl⟩)
theorem line_split {l : List UInt8} (h : (10 : UInt8) ∈ l) : l = head l ++ 10 :: l.drop ((head l).length + 1) := by
  have := head_split l
  have hn : nl l = true := by unfold nl; simpa using h
  unfold used at this
  rw [hn, if_pos rfl, if_pos rfl] at this
  simpa using this
def readV (k : Nat) (b : List UInt8) (n : Nat) : Ending := .returned (.tuple #[.int .i64 (k : Int), .string (B b), .int .i64 (n : Int)])
set_option maxRecDepth 100000 in
set_option maxHeartbeats 4000000 in
theorem read_any (l : List UInt8) (hl : l.length ≤ 700000) (w : World) (ht : TabsN w) :
    Calls Tryd.prog 12 #[.string (B l)] w fun e w' => ∃ k b n, ReadIs l k b n ∧ e = readV k b n ∧ Below w.heap.size w w' := by
  have C1 := Lib.hid (cutB_any l 10 (by omega) w)
  by_cases h10 : (10 : UInt8) ∈ l
  · have hc : l.contains 10 = true := by simpa using h10
    have hln : (10 : UInt8) ∉ head l := takeWhile_no
    have hs := line_split h10
    have eh : l.takeWhile (· != 10) = head l := rfl
    rw [hc, eh] at C1
    have hh : (head l).length ≤ 700000 := by have := head_le l; omega
    have A1 := Lib.hid (fun w ht => announced_any (head l) (by omega) w ht)
    generalize head l = line at *
    generalize l.drop (line.length + 1) = r at *
    clear hc eh
    have hr : r.length ≤ 700000 := by have := congrArg List.length hs; simp at this; omega
    cases hq : annB line with
    | false =>
      have HO : Hid (ReadIs l 3 [] 0) := by
        have h := odd_line (r := r) hln (fun h => by have := annB_iff.2 h; rw [hq] at this; cases this)
        rw [← hs] at h
        exact read_odd h.1 h.2
      rw [hq] at A1
      clear hq hs hln hr
      go_enter Tryd.func12, Tryd.ntmps12
      go_wp2_with fail
      refine C1.out.mono ?_
      rintro e w1 ⟨rfl, hb1⟩
      go_wp2_with fail
      refine (A1.out _ (ht.below hb1 (Nat.le_refl _))).mono ?_
      rintro e w2 ⟨rfl, hb2⟩
      go_wp2_with fail
      go_ret3
      exact ⟨3, [], 0, HO.out, rfl, hb1.trans (hb2.mono hb1.size)⟩
    | true =>
      obtain ⟨n, f, hH⟩ := annB_head hq
      obtain ⟨_, hM⟩ := annB_of hH
      rw [hq, hM] at A1
      have h2 := hH.lo
      have h5 := hH.hi
      have hfig := hH.fig
      have hle := hH.eq
      clear hq hM
      by_cases hlt : r.length < n
      · have hlt' : ((B r).size : Int) < n := by rw [B_size]; omega
        have HS := Lib.hid (short_body (f := f) h2 h5 hfig hlt)
        rw [← hle, ← hs] at HS
        have BB := Lib.hid (fun w => beginsBody_any r n h2 h5 hlt w)
        generalize bodyPart r n = q at *
        clear hs hle hH hln hfig hlt hr
        generalize B r = R at *
        cases q with
        | true =>
          have HO : Hid (ReadIs l 2 [] 0) := read_part (HS.out.1.2 rfl)
          go_enter Tryd.func12, Tryd.ntmps12
          go_wp2_with fail
          refine C1.out.mono ?_
          rintro e w1 ⟨rfl, hb1⟩
          go_wp2_with fail
          refine (A1.out _ (ht.below hb1 (Nat.le_refl _))).mono ?_
          rintro e w2 ⟨rfl, hb2⟩
          have hb12 := hb1.trans (hb2.mono hb1.size)
          go_wp2_with fail
          refine (BB.out _).mono ?_
          rintro e w3 ⟨rfl, hb3⟩
          have hb13 := hb12.trans (hb3.mono hb12.size)
          go_wp2_with fail
          refine (partIf_yes _).mono ?_
          rintro e w4 ⟨rfl, rfl⟩
          go_wp2_with fail
          go_ret3
          exact ⟨2, [], 0, HO.out, rfl, hb13⟩
        | false =>
          have HO : Hid (ReadIs l 3 [] 0) := read_odd (fun h => by cases HS.out.1.1 h) HS.out.2
          go_enter Tryd.func12, Tryd.ntmps12
          go_wp2_with fail
          refine C1.out.mono ?_
          rintro e w1 ⟨rfl, hb1⟩
          go_wp2_with fail
          refine (A1.out _ (ht.below hb1 (Nat.le_refl _))).mono ?_
          rintro e w2 ⟨rfl, hb2⟩
          have hb12 := hb1.trans (hb2.mono hb1.size)
          go_wp2_with fail
          refine (BB.out _).mono ?_
          rintro e w3 ⟨rfl, hb3⟩
          have hb13 := hb12.trans (hb3.mono hb12.size)
          go_wp2_with fail
          refine (partIf_no _).mono ?_
          rintro e w4 ⟨rfl, rfl⟩
          go_wp2_with fail
          go_ret3
          exact ⟨3, [], 0, HO.out, rfl, hb13⟩
      · have br := B_size r
        have hlt' : ¬ ((B r).size : Int) < n := by rw [br]; omega
        have hnr : (n : Int) ≤ (B r).size := by rw [br]; omega
        have x1 : (B r).extract 0 n = B (r.take n) := ext_take r n
        have x2 : (B r).extract n (B r).size = B (r.drop n) := ext_drop r n
        have hb0 : (r.take n).length = n := by simp; omega
        have hrd : r.take n ++ r.drop n = r := List.take_append_drop n r
        have HL := Lib.hid (long_body (f := f) (b := r.take n) (r := r.drop n) h2 h5 hfig hb0)
        rw [hrd, ← hle, ← hs] at HL
        generalize hbd : r.take n = bd at *
        generalize hrs : r.drop n = rs at *
        have HF := Lib.hid (fun w ht => beginsFoot_any rs n h5 w ht)
        have HFB := Lib.hid (footB_iff (t := rs) (n := n))
        have P1 := Lib.hid (fun w => Tryd.strings_HasPrefix (B l) (B (fullR bd)) w)
        have RN := Lib.hid (record_no bd (by omega))
        have RY := Lib.hid (record_yes bd)
        have GD := Lib.hid (fun w => good_any bd (by omega) w)
        have hel : l = headR n f ++ 10 :: (bd ++ rs) := by rw [hrd, ← hle]; exact hs
        clear hbd hrs hrd hs hlt hr hle
        have bsz : (B bd).size ≤ 50000 := by rw [B_size]; omega
        have HX := Lib.hid x1
        have HY := Lib.hid x2
        clear x1 x2 br
        generalize B r = R at *
        generalize hBD : B bd = BD at *
        generalize B rs = RS at *
        have hl1 : l.length ≤ 700000 := hl
        cases hg : goodR bd with
        | false =>
          have RN2 := Lib.hid (RN.out hg)
          have GD2 := GD.out
          rw [hg] at GD2
          have GD3 := Lib.hid GD2
          have HO : Hid (ReadIs l 3 [] 0) := read_odd (fun h => by have := (HL.out.1.1 h).1; rw [hg] at this; cases this) (fun ⟨b', h⟩ => by have := ((HL.out.2 b').1 h).2.1; rw [hg] at this; cases this)
          clear GD2 GD RY RN hg hH hln hfig hel hl hl1 P1 HL HF HFB
          go_enter Tryd.func12, Tryd.ntmps12
          go_wp2_with fail
          refine C1.out.mono ?_
          rintro e w1 ⟨rfl, hb1⟩
          go_wp2_with fail
          refine (A1.out _ (ht.below hb1 (Nat.le_refl _))).mono ?_
          rintro e w2 ⟨rfl, hb2⟩
          have hb12 := hb1.trans (hb2.mono hb1.size)
          go_wp2_with fail
          go_quiet (fail)
          go_wp2_with fail
          rw [HX.out, HY.out]
          have ht2 := ht.below hb12 (Nat.le_refl _)
          have hbq : Below w.heap.size w (w2.drewN nq) := ⟨hb12.os, hb12.tape, hb12.output, hb12.size, hb12.block⟩
          have htq := ht.below hbq (Nat.le_refl _)
          generalize w2.drewN nq = w3 at *
          refine (RN2.out _).mono ?_
          rintro e w4 ⟨rfl, hb4⟩
          have hb14 := hbq.trans (hb4.mono hbq.size)
          rw [errV_2]
          go_wp2_with fail
          refine (GD3.out _).mono ?_
          rintro e w5 ⟨rfl, hb5⟩
          have hb15 := hb14.trans (hb5.mono hb14.size)
          go_wp2_with fail
          refine (partIf_no _).mono ?_
          rintro e w7 ⟨rfl, rfl⟩
          go_wp2_with fail
          go_ret3
          exact ⟨3, [], 0, HO.out, rfl, hb15⟩
        | true =>
          have RY2 := Lib.hid (RY.out hg)
          have GD2 := GD.out
          rw [hg] at GD2
          have GD3 := Lib.hid GD2
          clear GD2 GD RY RN
          have fl := full_le hg
          have e1 : Lib.hasPrefix (B l).data.toList (B (fullR bd)).data.toList = Lib.hasPrefix l (fullR bd) := by rw [B_data, B_data]
          have fs := B_size (fullR bd)
          generalize hFB : B (fullR bd) = FB at *
          cases hp : Lib.hasPrefix l (fullR bd) with
          | true =>
            have HO : Hid (ReadIs l 1 bd (fullR bd).length) := by
              refine .inl ⟨⟨hg, ?_⟩, rfl, rfl⟩
              unfold Lib.hasPrefix at hp
              obtain ⟨z, hz⟩ := List.isPrefixOf_iff_prefix.1 hp
              exact ⟨z, hz.symm⟩
            have P2 := P1.out
            rw [e1, hp] at P2
            have P3 := Lib.hid P2
            clear hp hg e1 hH hln hfig hel hl hl1 P1 P2 HL HF HFB GD3
            rw [← fs] at HO
            clear fs hFB
            go_enter Tryd.func12, Tryd.ntmps12
            go_wp2_with fail
            refine C1.out.mono ?_
            rintro e w1 ⟨rfl, hb1⟩
            go_wp2_with fail
            refine (A1.out _ (ht.below hb1 (Nat.le_refl _))).mono ?_
            rintro e w2 ⟨rfl, hb2⟩
            have hb12 := hb1.trans (hb2.mono hb1.size)
            go_wp2_with fail
            go_quiet (fail)
            go_wp2_with fail
            rw [HX.out, HY.out]
            have ht2 := ht.below hb12 (Nat.le_refl _)
            have hbq : Below w.heap.size w (w2.drewN nq) := ⟨hb12.os, hb12.tape, hb12.output, hb12.size, hb12.block⟩
            have htq := ht.below hbq (Nat.le_refl _)
            generalize w2.drewN nq = w3 at *
            refine (RY2.out _ htq).mono ?_
            rintro e w4 ⟨rfl, hb4⟩
            have hb14 := hbq.trans (hb4.mono hbq.size)
            go_wp2_with fail
            refine (P3.out _).mono ?_
            rintro e w5 ⟨rfl, rfl⟩
            go_wp2_with fail
            go_ret3
            exact ⟨1, bd, FB.size, HO.out, by rw [← hBD]; rfl, hb14⟩
          | false =>
            have P2 := P1.out
            rw [e1, hp] at P2
            have P3 := Lib.hid P2
            have hw : ¬ ∃ b, WholeT l b := by
              rintro ⟨b', h'⟩
              obtain ⟨rfl, _, _, _⟩ := (HL.out.2 b').1 h'
              obtain ⟨_, more, e⟩ := h'
              have : Lib.hasPrefix l (fullR b') = true := by unfold Lib.hasPrefix; rw [List.isPrefixOf_iff_prefix]; exact ⟨more, e.symm⟩
              rw [hp] at this; cases this
            have hpt : PartT l ↔ footB rs n = true := by
              rw [HL.out.1, HFB.out]
              exact ⟨fun h => h.2, fun h => ⟨hg, h⟩⟩
            have HO := Lib.hid (show (footB rs n = true → ReadIs l 2 [] 0) ∧ (footB rs n = false → ReadIs l 3 [] 0) from
              ⟨fun h => read_part (hpt.2 h), fun h => read_odd (fun h' => by rw [hpt.1 h'] at h; cases h) hw⟩)
            generalize footB rs n = q at *
            clear hp hg e1 hH hln hfig hel hl hl1 P1 P2 HL HFB hw hpt fs hFB
            cases q with
            | true =>
              have HO2 := Lib.hid (HO.out.1 rfl)
              go_enter Tryd.func12, Tryd.ntmps12
              go_wp2_with fail
              refine C1.out.mono ?_
              rintro e w1 ⟨rfl, hb1⟩
              go_wp2_with fail
              refine (A1.out _ (ht.below hb1 (Nat.le_refl _))).mono ?_
              rintro e w2 ⟨rfl, hb2⟩
              have hb12 := hb1.trans (hb2.mono hb1.size)
              go_wp2_with fail
              go_quiet (fail)
              go_wp2_with fail
              rw [HX.out, HY.out]
              have ht2 := ht.below hb12 (Nat.le_refl _)
              have hbq : Below w.heap.size w (w2.drewN nq) := ⟨hb12.os, hb12.tape, hb12.output, hb12.size, hb12.block⟩
              have htq := ht.below hbq (Nat.le_refl _)
              generalize w2.drewN nq = w3 at *
              refine (RY2.out _ htq).mono ?_
              rintro e w4 ⟨rfl, hb4⟩
              have hb14 := hbq.trans (hb4.mono hbq.size)
              go_wp2_with fail
              refine (P3.out _).mono ?_
              rintro e w5 ⟨rfl, rfl⟩
              go_wp2_with fail
              refine (GD3.out _).mono ?_
              rintro e w5 ⟨rfl, hb5⟩
              have hb15 := hb14.trans (hb5.mono hb14.size)
              go_wp2_with fail
              refine (HF.out _ (ht.below hb15 (Nat.le_refl _))).mono ?_
              rintro e w6 ⟨rfl, hb6⟩
              have hb16 := hb15.trans (hb6.mono hb15.size)
              go_wp2_with fail
              refine (partIf_yes _).mono ?_
              rintro e w7 ⟨rfl, rfl⟩
              go_wp2_with fail
              go_ret3
              exact ⟨2, [], 0, HO2.out, rfl, hb16⟩
            | false =>
              have HO2 := Lib.hid (HO.out.2 rfl)
              go_enter Tryd.func12, Tryd.ntmps12
              go_wp2_with fail
              refine C1.out.mono ?_
              rintro e w1 ⟨rfl, hb1⟩
              go_wp2_with fail
              refine (A1.out _ (ht.below hb1 (Nat.le_refl _))).mono ?_
              rintro e w2 ⟨rfl, hb2⟩
              have hb12 := hb1.trans (hb2.mono hb1.size)
              go_wp2_with fail
              go_quiet (fail)
              go_wp2_with fail
              rw [HX.out, HY.out]
              have ht2 := ht.below hb12 (Nat.le_refl _)
              have hbq : Below w.heap.size w (w2.drewN nq) := ⟨hb12.os, hb12.tape, hb12.output, hb12.size, hb12.block⟩
              have htq := ht.below hbq (Nat.le_refl _)
              generalize w2.drewN nq = w3 at *
              refine (RY2.out _ htq).mono ?_
              rintro e w4 ⟨rfl, hb4⟩
              have hb14 := hbq.trans (hb4.mono hbq.size)
              go_wp2_with fail
              refine (P3.out _).mono ?_
              rintro e w5 ⟨rfl, rfl⟩
              go_wp2_with fail
              refine (GD3.out _).mono ?_
              rintro e w5 ⟨rfl, hb5⟩
              have hb15 := hb14.trans (hb5.mono hb14.size)
              go_wp2_with fail
              refine (HF.out _ (ht.below hb15 (Nat.le_refl _))).mono ?_
              rintro e w6 ⟨rfl, hb6⟩
              have hb16 := hb15.trans (hb6.mono hb15.size)
              go_wp2_with fail
              refine (partIf_no _).mono ?_
              rintro e w7 ⟨rfl, rfl⟩
              go_wp2_with fail
              go_ret3
              exact ⟨3, [], 0, HO2.out, rfl, hb16⟩
  · have hc : l.contains 10 = false := by simpa using h10
    have eh : l.takeWhile (· != 10) = l := takeWhile_all (no_all h10)
    rw [hc, eh] at C1
    have BH := Lib.hid (fun w ht => beginsHead_any l (by omega) w ht)
    have HO := Lib.hid (show (HeadPart l → ReadIs l 2 [] 0) ∧ (¬ HeadPart l → ReadIs l 3 [] 0) from
      ⟨part_of, fun h => read_odd (fun h' => h ((part_line h10).1 h')) (fun ⟨b, h'⟩ => no_whole_line h10 h')⟩)
    clear hc eh h10
    generalize B (l.drop (l.length + 1)) = R at *
    go_enter Tryd.func12, Tryd.ntmps12
    go_wp2_with fail
    refine C1.out.mono ?_
    rintro e w1 ⟨rfl, hb1⟩
    go_wp2_with fail
    refine (BH.out _ (ht.below hb1 (Nat.le_refl _))).mono ?_
    rintro e w2 ⟨q, hq, rfl, hb2⟩
    have hb12 := hb1.trans (hb2.mono hb1.size)
    have HQ := Lib.hid hq
    clear hq
    go_wp2_with fail
    cases q with
    | true =>
      have HO2 := Lib.hid (HO.out.1 (HQ.out.1 rfl))
      refine (partIf_yes _).mono ?_
      rintro e w7 ⟨rfl, rfl⟩
      go_wp2_with fail
      go_ret3
      exact ⟨2, [], 0, HO2.out, rfl, hb12⟩
    | false =>
      have HO2 := Lib.hid (HO.out.2 (fun h => by cases HQ.out.2 h))
      refine (partIf_no _).mono ?_
      rintro e w7 ⟨rfl, rfl⟩
      go_wp2_with fail
      go_ret3
      exact ⟨3, [], 0, HO2.out, rfl, hb12⟩
end Go.Proofs.YtoadimagpibfoaaDoor.Fr
/- The document's lines, Good, begins, around, Record, Length, decimal, hex. -/
namespace Go.Proofs.YtoadimagpibfoaaDoor.Fr
open Go.RowKit Go.Shelf
attribute [local go_sem] Oper.semAt_some

theorem byteT {c : UInt8} (d : UInt8) (n : Int) (hn : (d.toNat : Int) = n) : ((c.toNat : Int) == n) = (c == d) := by
  by_cases h : c = d
  · subst h; simp [hn]
  · have : (c.toNat : Int) ≠ n := by intro e; apply h; apply UInt8.toNat_inj.1; omega
    rw [beq_eq_false_iff_ne.2 this]; simp [h]
theorem fresh_take {s : ByteArray} {m : Nat} (h : m < s.size) : fresh true (s.data.toList.take (m + 1)) = (s[m] == 10) := by
  rw [Sm.take_snoc s m h]
  unfold fresh
  simp
theorem sp_take {s : ByteArray} {k : Nat} (h : k < s.size) : sp true (s.data.toList.take (k + 1)) = (sp true (s.data.toList.take k) && (!fresh true (s.data.toList.take k) || s[k] == 32)) := by
  rw [Sm.take_snoc s k h, sp_append]
  simp [sp]
theorem sp_no {s : ByteArray} {k : Nat} (h : sp true (s.data.toList.take k) = false) : sp true s.data.toList = false := by
  rw [← List.take_append_drop k s.data.toList, sp_append, h]; rfl
set_option maxRecDepth 100000 in
set_option maxHeartbeats 2000000 in
theorem reflines_any (s : ByteArray) (hs : s.size ≤ 1000000) (w : World) :
    Calls Tryd.prog 22 #[.string s] w fun e w' => e = .returned (.bool (sp true s.data.toList)) ∧ w' = w := by
  go_enter Tryd.func22, Tryd.ntmps22
  go_wp2_with fail
  go_loop [3] (fun i => ∃ k : Nat, k ≤ s.size ∧ i = .int .i64 k ∧ sp true (s.data.toList.take k) = true) (fun i => s.size - (intOf i).toNat)
  case atStart => exact ⟨0, Nat.zero_le _, rfl, rfl⟩
  case round =>
    obtain ⟨k, hk, rfl, hsp⟩ := hrel
    by_cases hlt : k < s.size
    · have hst := sp_take hlt
      rw [hsp, Bool.true_and] at hst
      have c2 := byteT (c := s[k]) 32 32 rfl
      by_cases hk0 : k = 0
      · subst hk0
        have hf : fresh true (s.data.toList.take 0) = true := rfl
        rw [hf] at hst
        have HST := Lib.hid hst
        clear hst hf hsp
        cases hc : (s[0] == 32) with
        | true =>
          rw [hc] at c2
          go_wp2_with fail
          go_round
          case rel => exact ⟨1, by omega, by go_num, by rw [HST.out, hc]; rfl⟩
          case measure => simp [intOf]; omega
        | false =>
          rw [hc] at c2
          have HN := Lib.hid (sp_no (s := s) (k := 1) (by rw [HST.out, hc]; rfl))
          go_wp2_with fail
          go_ret
          exact ⟨by rw [HN.out]; rfl, rfl⟩
      · obtain ⟨m, rfl⟩ : ∃ m, k = m + 1 := ⟨k - 1, by omega⟩
        have hm : m < s.size := by omega
        rw [fresh_take hm] at hst
        have c1 := byteT (c := s[m]) 10 10 rfl
        have HST := Lib.hid hst
        clear hst hsp
        have wm : IntKind.i64.wrap (m : Int) = m := IntWalk.i64_in _ (by omega)
        have m0 : (0 : Int) ≤ m := by omega
        have q0 : (((m : Int) + 1) == 0) = false := by rw [beq_eq_false_iff_ne]; omega
        cases hd : (s[m] == 10) with
        | false =>
          rw [hd] at c1
          have HN : Hid (sp true (s.data.toList.take (m + 1 + 1)) = true) := by show _ = _; rw [HST.out, hd]; rfl
          clear hd
          go_wp2_with fail
          go_round
          case rel => exact ⟨m + 1 + 1, by omega, by go_num, HN.out⟩
          case measure => simp [intOf]; omega
        | true =>
          rw [hd] at c1
          cases hc : (s[m + 1] == 32) with
          | true =>
            rw [hc] at c2
            have HN : Hid (sp true (s.data.toList.take (m + 1 + 1)) = true) := by show _ = _; rw [HST.out, hd, hc]; rfl
            clear hd hc
            go_wp2_with fail
            go_round
            case rel => exact ⟨m + 1 + 1, by omega, by go_num, HN.out⟩
            case measure => simp [intOf]; omega
          | false =>
            rw [hc] at c2
            have HN := Lib.hid (sp_no (s := s) (k := m + 1 + 1) (by rw [HST.out, hd, hc]; rfl))
            clear hd hc
            go_wp2_with fail
            go_ret
            exact ⟨by rw [HN.out]; rfl, rfl⟩
    · have : k = s.size := by omega
      subst this
      have HE : Hid (sp true s.data.toList = true) := by
        show _ = _
        rw [List.take_of_length_le (by simp)] at hsp
        exact hsp
      go_wp2_with fail
      go_ret
      exact ⟨by rw [HE.out]; rfl, rfl⟩
set_option maxRecDepth 100000 in
set_option maxHeartbeats 1000000 in
theorem begins11_any (l p : List UInt8) (hl : l.length ≤ 1000000) (hp : p.length ≤ 1000) (w : World) :
    Calls Tryd.prog 35 #[.string (B l), .string (B p)] w fun e w' => e = .returned (.bool (Lib.hasPrefix l p)) ∧ w' = w := by
  have bl := B_size l
  have bp := B_size p
  have hx : (B l).extract 0 (B p).size = B (l.take p.length) := by
    apply ByteArray.ext
    apply Array.toList_inj.1
    rw [Lib.extract_data, List.drop_zero, Nat.sub_zero, B_data, B_data, bp]
  by_cases hle : p.length ≤ l.length
  · have q0 : decide (((B p).size : Int) ≤ ((B l).size : Int)) = true := by simp; omega
    have hb : ((B (l.take p.length)).toList == (B p).toList) = Lib.hasPrefix l p := by
      rw [Bool.eq_iff_iff]
      unfold Lib.hasPrefix
      rw [List.isPrefixOf_iff_prefix, List.prefix_iff_eq_take, beq_iff_eq, Lib.toList_data, Lib.toList_data, B_data, B_data]
      exact eq_comm
    generalize Lib.hasPrefix l p = q at *
    generalize B (l.take p.length) = V at *
    generalize B l = X at *
    generalize B p = Y at *
    go_enter Tryd.func35, Tryd.ntmps35
    go_wp2_with fail
    go_ret
    exact ⟨by rw [← hb, ← hx, bp]; rfl, rfl⟩
  · have q0 : decide (((B p).size : Int) ≤ ((B l).size : Int)) = false := by simp; omega
    have hb : Lib.hasPrefix l p = false := by
      cases q : Lib.hasPrefix l p with
      | false => rfl
      | true =>
        unfold Lib.hasPrefix at q
        have := (List.isPrefixOf_iff_prefix.1 q).length_le
        omega
    rw [hb]
    generalize B l = X at *
    generalize B p = Y at *
    go_enter Tryd.func35, Tryd.ntmps35
    go_wp2_with fail
    go_ret
    exact ⟨rfl, rfl⟩
theorem begins_iff {l p : List UInt8} : Lib.hasPrefix l p = true ↔ ∃ q, l = p ++ q := by
  unfold Lib.hasPrefix
  rw [List.isPrefixOf_iff_prefix]
  exact ⟨fun ⟨q, h⟩ => ⟨q, h.symm⟩, fun ⟨q, h⟩ => ⟨q, h.symm⟩⟩
theorem beginning_any (l p : List UInt8) (hl : l.length ≤ 1000) (hp : p.length ≤ 1000) (w : World) :
    Calls Tryd.prog 34 #[.string (B l), .string (B p)] w fun e w' => e = .returned (.bool (Lib.hasPrefix p l)) ∧ w' = w := by
  have B1 := Lib.hid (begins11_any p l (by omega) hl w)
  go_enter Tryd.func34, Tryd.ntmps34
  go_wp2_with fail
  refine B1.out.mono ?_
  rintro e w1 ⟨rfl, rfl⟩
  go_wp2_with fail
  go_ret
  exact ⟨rfl, rfl⟩
set_option maxRecDepth 100000 in
set_option maxHeartbeats 2000000 in
theorem refGood_any (s : ByteArray) (hs : s.size ≤ 1000000) (w : World) :
    Calls Tryd.prog 9 #[.string s] w fun e w' => e = .returned (.bool (goodR s.data.toList)) ∧ w' = w := by
  have hg : goodR s.data.toList = (decide (2 ≤ s.size) && decide (s.size ≤ 50000) && lastNl s.data.toList && sp true s.data.toList) := by unfold goodR; rw [← Lib.size_eq]
  have L1 := Lib.hid (reflines_any s hs)
  rw [hg]
  clear hg
  by_cases h2 : 2 ≤ s.size
  · have q2 : (2 : Int) ≤ s.size := by omega
    by_cases h5 : s.size ≤ 50000
    · have q5 : (s.size : Int) ≤ 50000 := by omega
      have e2 : decide (2 ≤ s.size) = true := by simpa using h2
      have e5 : decide (s.size ≤ 50000) = true := by simpa using h5
      have wm : IntKind.i64.wrap ((s.size : Int) - 1) = ((s.size - 1 : Nat) : Int) := by rw [show (s.size : Int) - 1 = ((s.size - 1 : Nat) : Int) by omega]; exact IntWalk.i64_in _ (by omega)
      have hl : lastNl s.data.toList = (s[s.size - 1] == 10) := by
        unfold lastNl
        rw [List.getLast?_eq_getElem?, ← Lib.size_eq, List.getElem?_eq_getElem (by rw [← Lib.size_eq]; omega)]
        simp
        rfl
      have c1 := byteT (c := s[s.size - 1]) 10 10 rfl
      rw [e2, e5, hl]
      generalize sp true s.data.toList = z at *
      clear hl e2 e5
      have hs1 : s.size - 1 < s.size := by omega
      obtain ⟨m, hm⟩ : ∃ m, s.size - 1 = m := ⟨_, rfl⟩
      have key : ∀ (m : Nat) (h : m < s.size), s.size - 1 = m → (s[s.size - 1] = s[m]) := fun m h e => by subst e; rfl
      rw [hm] at wm hs1
      have hk := key m hs1 hm
      rw [hk] at c1 ⊢
      clear key hk
      have hmz : (m : Int) < s.size := by omega
      clear hm
      cases hc : (s[m] == 10) with
      | true =>
        rw [hc] at c1
        clear hc
        go_enter Tryd.func9, Tryd.ntmps9
        go_wp2_with fail
        refine (L1.out _).mono ?_
        rintro e w1 ⟨rfl, rfl⟩
        go_wp2_with fail
        go_ret
        exact ⟨by simp, rfl⟩
      | false =>
        rw [hc] at c1
        clear hc
        go_enter Tryd.func9, Tryd.ntmps9
        go_wp2_with fail
        go_ret
        exact ⟨by simp, rfl⟩
    · have q5 : ¬ (s.size : Int) ≤ 50000 := by omega
      have e5 : decide (s.size ≤ 50000) = false := by simpa using h5
      rw [e5]
      go_enter Tryd.func9, Tryd.ntmps9
      go_wp2_with fail
      go_ret
      exact ⟨by simp, rfl⟩
  · have q2 : ¬ (2 : Int) ≤ s.size := by omega
    have e2 : decide (2 ≤ s.size) = false := by simpa using h2
    rw [e2]
    go_enter Tryd.func9, Tryd.ntmps9
    go_wp2_with fail
    go_ret
    exact ⟨by simp, rfl⟩
theorem refFigures_nat (n : Nat) (hn : n ≤ 9223372036854775807) (w : World) : Calls Tryd.prog 52 #[.int .i64 (n : Int)] w fun e w' => e = .returned (.string (B (Lib.decDigits n))) ∧ w' = w := by
  have := figures_any (n : Int) (by unfold I64; omega) w
  rwa [Lib.itoa_nonneg] at this
set_option maxRecDepth 100000 in
set_option maxHeartbeats 2000000 in
theorem around_any (n : Nat) (hn : n ≤ 50000) (f : List UInt8) (hf : f.length ≤ 1000000) (w : World) :
    Calls Tryd.prog 33 #[.int .i64 (n : Int), .string (B f)] w fun e w' => e = .returned (.tuple #[.string (B (headR n f ++ [10])), .string (B (footR n))]) ∧ w' = w := by
  have IT := Lib.hid (fun w => refFigures_nat n (by omega) w)
  have E1 : Hid ((⟨#[37, 97, 109, 101, 110, 100, 32]⟩ : ByteArray) ++ B (Lib.decDigits n) ++ ⟨#[32]⟩ ++ B f ++ ⟨#[10]⟩ = B (headR n f ++ [10])) := by
    show _ = _
    rw [show (⟨#[37, 97, 109, 101, 110, 100, 32]⟩ : ByteArray) = B AMD from rfl, show (⟨#[32]⟩ : ByteArray) = B [32] from rfl, show (⟨#[10]⟩ : ByteArray) = B [10] from rfl, B_append, B_append, B_append, B_append]
    unfold headR; simp
  have E2 : Hid ((⟨#[37, 101, 110, 100, 32]⟩ : ByteArray) ++ B (Lib.decDigits n) ++ ⟨#[10]⟩ = B (footR n)) := by
    show _ = _
    rw [show (⟨#[37, 101, 110, 100, 32]⟩ : ByteArray) = B END from rfl, show (⟨#[10]⟩ : ByteArray) = B [10] from rfl, B_append, B_append]
    unfold footR; simp
  have hs := dec_size n (by omega)
  have hfs : (B f).size ≤ 1000000 := by rw [B_size]; exact hf
  generalize B (Lib.decDigits n) = d at *
  generalize B f = g at *
  have s1 : ((⟨#[37, 97, 109, 101, 110, 100, 32]⟩ : ByteArray) ++ d).size ≤ 27 := by rw [ByteArray.size_append]; show 7 + _ ≤ _; omega
  have s2 : ((⟨#[37, 97, 109, 101, 110, 100, 32]⟩ : ByteArray) ++ d ++ ⟨#[32]⟩).size ≤ 28 := by rw [ByteArray.size_append]; show _ + 1 ≤ _; omega
  have s3 : ((⟨#[37, 97, 109, 101, 110, 100, 32]⟩ : ByteArray) ++ d ++ ⟨#[32]⟩ ++ g).size ≤ 1000028 := by rw [ByteArray.size_append]; omega
  have s4 : ((⟨#[37, 101, 110, 100, 32]⟩ : ByteArray) ++ d).size ≤ 25 := by rw [ByteArray.size_append]; show 5 + _ ≤ _; omega
  go_enter Tryd.func33, Tryd.ntmps33
  go_wp2_with fail
  refine (IT.out _).mono ?_
  rintro e w1 ⟨rfl, rfl⟩
  go_wp2_with fail
  refine (IT.out _).mono ?_
  rintro e w1 ⟨rfl, rfl⟩
  go_wp2_with fail
  go_ret2
  exact ⟨by rw [← E1.out, ← E2.out]; rfl, rfl⟩
set_option maxRecDepth 100000 in
set_option maxHeartbeats 2000000 in
theorem refRecord_any (l : List UInt8) (hl : l.length ≤ 50000) (w : World) :
    Calls Tryd.prog 13 #[.string (B l)] w fun e w' => e = .returned (.string (B (fullR l))) ∧ Below w.heap.size w w' := by
  have bl := B_size l
  have S1 := Lib.hid (fun w => Sm.refSum_any (B l) w (by rw [bl]; unfold maxLen; omega))
  simp only [B_data] at S1
  have F1 := Lib.hid (fun w => Sm.refFigures_any (Sm.M.crc l) (Sm.M.crc_lt l) w)
  have eF : Sm.figs (Sm.M.crc l) = B (figsB l) := (B_of _).symm
  simp only [eF] at F1
  have A1 := Lib.hid (fun w => around_any l.length hl (figsB l) (by rw [fig_len (figsB_ok l)]; omega) w)
  have hh : (headR l.length (figsB l)).length ≤ 30 := by
    have := fig_len (figsB_ok l)
    have := dec_len5 (show l.length ≤ 99999 by omega)
    unfold headR AMD; simp; omega
  have E1 : Hid (B (headR l.length (figsB l) ++ [10]) ++ B l ++ B (footR l.length) = B (fullR l)) := by
    show _ = _
    rw [B_append, B_append]
    congr 1
    unfold fullR; rw [rec_def]; simp
  have s1 : (B (headR l.length (figsB l) ++ [10])).size ≤ 31 := by rw [B_size]; simp; omega
  have s0 : (B l).size ≤ 50000 := by omega
  have s3 : (B (headR l.length (figsB l) ++ [10]) ++ B l).size ≤ 60000 := by rw [ByteArray.size_append]; omega
  have s4 : (B (footR l.length)).size ≤ 30 := by
    have := dec_len5 (show l.length ≤ 99999 by omega)
    rw [B_size]; unfold footR END; simp; omega
  generalize B (headR l.length (figsB l) ++ [10]) = X at *
  generalize B (footR l.length) = Y at *
  generalize B (figsB l) = Z at *
  rw [← bl] at A1
  generalize hL : B l = L at *
  clear hL bl hh
  go_enter Tryd.func13, Tryd.ntmps13
  go_wp2_with fail
  refine (S1.out _).mono ?_
  rintro e w2 ⟨rfl, rfl⟩
  go_wp2_with fail
  refine (F1.out _).mono ?_
  rintro e w3 ⟨rfl, rfl⟩
  go_wp2_with fail
  refine (A1.out _).mono ?_
  rintro e w4 ⟨rfl, rfl⟩
  go_wp2_with fail
  go_ret
  exact ⟨by rw [← E1.out]; rfl, Below.refl _ _⟩
set_option maxRecDepth 100000 in
set_option maxHeartbeats 2000000 in
theorem refLength_any (n : Int) (w : World) :
    Calls Tryd.prog 39 #[.int .i64 n] w fun e w' => e = .returned (.int .i64 (lenR n)) ∧ w' = w := by
  by_cases h2 : 2 ≤ n
  · have q2 : ¬ n < 2 := by omega
    by_cases h5 : n ≤ 50000
    · have q5 : ¬ 50000 < n := by omega
      obtain ⟨k, rfl⟩ : ∃ k : Nat, n = k := ⟨n.toNat, by omega⟩
      have e0 : lenR k = ((headR k zeros ++ [10]).length : Int) + k + ((footR k).length : Int) := by unfold lenR; rw [if_pos ⟨h2, h5⟩]; simp
      rw [e0]
      have A1 := Lib.hid (fun w => around_any k (by omega) zeros (by decide) w)
      have hl5 := dec_len5 (show k ≤ 99999 by omega)
      have hh2 : (B (headR k zeros ++ [10])).size ≤ 31 := by rw [B_size]; unfold headR AMD zeros; simp; omega
      have hf2 : (B (footR k)).size ≤ 30 := by rw [B_size]; unfold footR END; simp; omega
      rw [← B_size, ← B_size]
      have zs : (⟨#[48, 48, 48, 48, 48, 48, 48, 48]⟩ : ByteArray) = B zeros := rfl
      generalize B (headR k zeros ++ [10]) = X at *
      generalize B (footR k) = Y at *
      clear e0 hl5
      have w1 : IntKind.i64.wrap ((X.size : Int) + k) = (X.size : Int) + k := IntWalk.i64_in _ (by omega)
      have w2 : IntKind.i64.wrap ((X.size : Int) + k + (Y.size : Int)) = (X.size : Int) + k + (Y.size : Int) := IntWalk.i64_in _ (by omega)
      go_enter Tryd.func39, Tryd.ntmps39
      rw [zs]
      go_wp2_with fail
      refine (A1.out _).mono ?_
      rintro e w1 ⟨rfl, rfl⟩
      go_wp2_with fail
      go_ret
      exact ⟨rfl, rfl⟩
    · have q5 : 50000 < n := by omega
      have e0 : lenR n = 0 := by unfold lenR; rw [if_neg (by omega)]
      rw [e0]
      go_enter Tryd.func39, Tryd.ntmps39
      go_wp2_with fail
      go_ret
      exact ⟨rfl, rfl⟩
  · have q2 : n < 2 := by omega
    have e0 : lenR n = 0 := by unfold lenR; rw [if_neg (by omega)]
    rw [e0]
    go_enter Tryd.func39, Tryd.ntmps39
    go_wp2_with fail
    go_ret
    exact ⟨rfl, rfl⟩
end Go.Proofs.YtoadimagpibfoaaDoor.Fr
/- The laws' fixed fact; FrameRecords. -/
namespace Go.Proofs.YtoadimagpibfoaaDoor.Fr
open Go.RowKit Go.Shelf
attribute [local go_sem] Oper.semAt_some

theorem readWhole_any {l b : List UInt8} (h : WholeT l b) (hl : l.length ≤ 700000) (w : World) (ht : TabsN w) :
    Calls Tryd.prog 12 #[.string (B l)] w fun e w' => e = .returned (.tuple #[.int .i64 1, .string (B b), .int .i64 ((fullR b).length : Int)]) ∧ Below w.heap.size w w' :=
  (read_any l hl w ht).mono fun e w' ⟨k, b', n, hr, he, hb⟩ => by
    obtain ⟨rfl, rfl, rfl⟩ := read_one hr (.inl ⟨h, rfl, rfl⟩)
    exact ⟨he, hb⟩
theorem readPart_any {l : List UInt8} (h : PartT l) (hl : l.length ≤ 700000) (w : World) (ht : TabsN w) :
    Calls Tryd.prog 12 #[.string (B l)] w fun e w' => e = .returned (.tuple #[.int .i64 2, .string (B []), .int .i64 0]) ∧ Below w.heap.size w w' :=
  (read_any l hl w ht).mono fun e w' ⟨k, b', n, hr, he, hb⟩ => by
    obtain ⟨rfl, rfl, rfl⟩ := read_one hr (read_part h)
    exact ⟨he, hb⟩
theorem readOdd_any {l : List UInt8} (h : ReadIs l 3 [] 0) (hl : l.length ≤ 700000) (w : World) (ht : TabsN w) :
    Calls Tryd.prog 12 #[.string (B l)] w fun e w' => e = .returned (.tuple #[.int .i64 3, .string (B []), .int .i64 0]) ∧ Below w.heap.size w w' :=
  (read_any l hl w ht).mono fun e w' ⟨k, b', n, hr, he, hb⟩ => by
    obtain ⟨rfl, rfl, rfl⟩ := read_one hr h
    exact ⟨he, hb⟩
def b3 : List UInt8 := [32, 97, 10]
theorem b3_good : goodR b3 = true := by decide
theorem dec3 : Lib.decDigits b3.length = [51] := by rw [show b3.length = 3 from rfl, Lib.decDigits_one (by omega)]; rfl
theorem full3 : fullR b3 = [37, 97, 109, 101, 110, 100, 32, 51, 32] ++ figsB b3 ++ [10, 32, 97, 10, 37, 101, 110, 100, 32, 51, 10] := by
  unfold fullR recR headR footR
  rw [dec3]
  unfold AMD END b3
  simp
set_option maxRecDepth 100000 in
set_option maxHeartbeats 4000000 in
theorem alive_any (w : World) (ht : TabsN w) :
    Calls Tryd.prog 7 #[] w fun e w' => e = .returned (.bool true) ∧ Below w.heap.size w w' := by
  have z3 : (⟨#[32, 97, 10]⟩ : ByteArray) = B b3 := rfl
  have R1 := Lib.hid (record_yes b3 b3_good w ht)
  have W1 : WholeT (fullR b3 ++ [120]) b3 := ⟨b3_good, [120], rfl⟩
  have hl := full_le b3_good
  have D1 := Lib.hid (fun w ht => readWhole_any W1 (by simp; omega) w ht)
  have e1 : Hid (B (fullR b3) ++ (⟨#[120]⟩ : ByteArray) = B (fullR b3 ++ [120])) := by show _ = _; rw [show (⟨#[120]⟩ : ByteArray) = B [120] from rfl, B_append]
  have S1 := Lib.hid (fun w => Sm.refSum_any (B b3) w (by decide))
  have F1 := Lib.hid (fun w => Sm.refFigures_any (Sm.M.crc b3) (Sm.M.crc_lt b3) w)
  have eF : Sm.figs (Sm.M.crc b3) = B (figsB b3) := (B_of _).symm
  simp only [eF] at F1
  simp only [B_data] at S1
  have e2 : ((⟨#[37, 97, 109, 101, 110, 100, 32, 51, 32]⟩ : ByteArray) ++ B (figsB b3) ++ (⟨#[10, 32, 97, 10, 37, 101, 110, 100, 32, 51, 10]⟩ : ByteArray)) = B (fullR b3) := by
    rw [show (⟨#[37, 97, 109, 101, 110, 100, 32, 51, 32]⟩ : ByteArray) = B [37, 97, 109, 101, 110, 100, 32, 51, 32] from rfl, show (⟨#[10, 32, 97, 10, 37, 101, 110, 100, 32, 51, 10]⟩ : ByteArray) = B [10, 32, 97, 10, 37, 101, 110, 100, 32, 51, 10] from rfl, B_append, B_append, full3]
  have fs := B_size (fullR b3)
  have zs : (B (figsB b3)).size ≤ 8 := by rw [B_size, fig_len (figsB_ok b3)]; omega
  have s1 : ((⟨#[37, 97, 109, 101, 110, 100, 32, 51, 32]⟩ : ByteArray) ++ B (figsB b3)).size ≤ 17 := by rw [ByteArray.size_append]; show 9 + _ ≤ _; omega
  have hs : (B (fullR b3)).size ≤ 50100 := by omega
  rw [← fs] at D1
  generalize B (fullR b3) = X at *
  generalize B (fullR b3 ++ [120]) = Y at *
  generalize B (figsB b3) = Z at *
  clear fs hl W1
  go_enter Tryd.func7, Tryd.ntmps7
  rw [z3]
  go_wp2_with fail
  refine R1.out.mono ?_
  rintro e w1 ⟨rfl, hb1⟩
  go_wp2_with fail
  rw [e1.out]
  refine (D1.out _ (ht.below hb1 (Nat.le_refl _))).mono ?_
  rintro e w2 ⟨rfl, hb2⟩
  have hb12 := hb1.trans (hb2.mono hb1.size)
  go_wp2_with fail
  refine (S1.out _).mono ?_
  rintro e w3 ⟨rfl, rfl⟩
  go_wp2_with fail
  refine (F1.out _).mono ?_
  rintro e w3 ⟨rfl, rfl⟩
  go_wp2_with fail
  go_ret
  exact ⟨rfl, hb12⟩
theorem is_any (n k : Nat) (hn : n ≤ 1000) (w : World) : Calls Tryd.prog 11 #[errV n, .int .i64 (k : Int)] w fun e w' => e = .returned (.bool (decide (n = k))) ∧ w' = w := by
  have N1 := Lib.hid (num_any n hn w)
  go_enter Tryd.func11, Tryd.ntmps11
  go_wp2_with fail
  refine N1.out.mono ?_
  rintro e w1 ⟨rfl, rfl⟩
  go_wp2_with fail
  go_ret
  exact ⟨by rw [show ((n : Int) == (k : Int)) = decide (n = k) by rw [Bool.eq_iff_iff]; simp; omega]; rfl, rfl⟩
theorem len_full {b : List UInt8} (hg : goodR b = true) : lenR (b.length : Int) = ((fullR b).length : Int) := by
  obtain ⟨h2, h5, _, _⟩ := good_iff.1 hg
  have := fig_len (figsB_ok b)
  unfold lenR
  rw [if_pos (by omega)]
  unfold fullR; rw [rec_def]
  have z8 : zeros.length = 8 := rfl
  unfold headR
  simp only [List.length_append, List.length_cons, Int.toNat_natCast, z8, this]
  omega
theorem full_ne {b : List UInt8} (hg : goodR b = true) : 7 ≤ (fullR b).length := by unfold fullR recR headR AMD; simp
set_option maxRecDepth 100000 in
set_option maxHeartbeats 4000000 in
theorem recordsLaw (s m : ByteArray) (w : World) (ht : TabsN w) :
    Calls Tryd.prog 3 #[.string s, .string m] w fun e w' => e = .returned (.bool true) ∧ Below w.heap.size w w' := by
  have AL := Lib.hid (alive_any w ht)
  by_cases h1 : 5000 < s.size
  · have q1 : (5000 : Int) < s.size := by omega
    go_enter Tryd.func3, Tryd.ntmps3
    go_wp2_with fail
    refine AL.out.mono ?_
    rintro e w1 ⟨rfl, hb1⟩
    go_wp2_with fail
    go_ret
    exact ⟨rfl, hb1⟩
  · have q1 : ¬ (5000 : Int) < s.size := by omega
    by_cases h2 : 1000 < m.size
    · have q2 : (1000 : Int) < m.size := by omega
      go_enter Tryd.func3, Tryd.ntmps3
      go_wp2_with fail
      refine AL.out.mono ?_
      rintro e w1 ⟨rfl, hb1⟩
      go_wp2_with fail
      go_ret
      exact ⟨rfl, hb1⟩
    · have q2 : ¬ (1000 : Int) < m.size := by omega
      obtain ⟨l, rfl⟩ := of_B s
      obtain ⟨r, rfl⟩ := of_B m
      have bl := B_size l
      have br := B_size r
      have RG := Lib.hid (fun w => refGood_any (B l) (by omega) w)
      simp only [B_data] at RG
      have G1 := Lib.hid (fun w => good_any l (by omega) w)
      cases hg : goodR l with
      | false =>
        have R1 := Lib.hid (fun w => record_no l (by omega) hg w)
        have I1 := Lib.hid (fun w => is_any 2 2 (by omega) w)
        have zN : B ([] : List UInt8) = ⟨#[]⟩ := rfl
        rw [hg] at RG G1
        clear bl br hg h1 h2
        generalize B l = L at *
        generalize B r = M at *
        rw [zN] at R1
        go_enter Tryd.func3, Tryd.ntmps3
        go_wp2_with fail
        refine AL.out.mono ?_
        rintro e w1 ⟨rfl, hb1⟩
        go_wp2_with fail
        refine (R1.out _).mono ?_
        rintro e w2 ⟨rfl, hb2⟩
        have hb12 := hb1.trans (hb2.mono hb1.size)
        go_wp2_with fail
        refine (RG.out _).mono ?_
        rintro e w3 ⟨rfl, rfl⟩
        go_wp2_with fail
        refine (G1.out _).mono ?_
        rintro e w4 ⟨rfl, hb4⟩
        have hb14 := hb12.trans (hb4.mono hb12.size)
        go_wp2_with fail
        refine (I1.out _).mono ?_
        rintro e w5 ⟨rfl, rfl⟩
        go_wp2_with fail
        go_ret
        exact ⟨rfl, hb14⟩
      | true =>
        have hfl := full_le hg
        have hll : l.length ≤ 50000 := by omega
        have R1 := Lib.hid (fun w ht => record_yes l hg w ht)
        have W1 : WholeT (fullR l ++ r) l := ⟨hg, r, rfl⟩
        have D1 := Lib.hid (fun w ht => readWhole_any W1 (by simp; omega) w ht)
        have RR := Lib.hid (fun w => refRecord_any l hll w)
        have LN := Lib.hid (fun w ht => length_any (l.length : Int) w ht)
        have e1 : Hid (B (fullR l) ++ B r = B (fullR l ++ r)) := B_append _ _
        have fs := B_size (fullR l)
        rw [len_full hg] at LN
        rw [hg] at RG G1
        rw [← fs, ← bl] at LN
        rw [← fs] at D1
        have hfs : (B (fullR l)).size ≤ 50100 := by omega
        clear W1 hg
        generalize B (fullR l ++ r) = Y at *
        generalize B (fullR l) = X at *
        generalize B l = L at *
        generalize B r = M at *
        clear bl br fs hfl hll h1 h2
        go_enter Tryd.func3, Tryd.ntmps3
        go_wp2_with fail
        refine AL.out.mono ?_
        rintro e w1 ⟨rfl, hb1⟩
        go_wp2_with fail
        refine (R1.out _ (ht.below hb1 (Nat.le_refl _))).mono ?_
        rintro e w2 ⟨rfl, hb2⟩
        have hb12 := hb1.trans (hb2.mono hb1.size)
        go_wp2_with fail
        refine (RG.out _).mono ?_
        rintro e w3 ⟨rfl, rfl⟩
        go_wp2_with fail
        refine (G1.out _).mono ?_
        rintro e w4 ⟨rfl, hb4⟩
        have hb14 := hb12.trans (hb4.mono hb12.size)
        go_wp2_with fail
        rw [e1.out]
        refine (D1.out _ (ht.below hb14 (Nat.le_refl _))).mono ?_
        rintro e w5 ⟨rfl, hb5⟩
        have hb15 := hb14.trans (hb5.mono hb14.size)
        go_wp2_with fail
        refine (RR.out _).mono ?_
        rintro e w6 ⟨rfl, hb6⟩
        have hb16 := hb15.trans (hb6.mono hb15.size)
        go_wp2_with fail
        refine (LN.out _ (ht.below hb16 (Nat.le_refl _))).mono ?_
        rintro e w7 ⟨rfl, hb7⟩
        have hb17 := hb16.trans (hb7.mono hb16.size)
        go_wp2_with fail
        go_ret
        exact ⟨rfl, hb17⟩
end Go.Proofs.YtoadimagpibfoaaDoor.Fr
/- FrameParts. -/
namespace Go.Proofs.YtoadimagpibfoaaDoor.Fr
open Go.RowKit Go.Shelf
attribute [local go_sem] Oper.semAt_some

theorem cut_in (cut : Int) (L : Nat) (h : 0 < L) (hL : L ≤ 1000000) : ∃ k : Nat, k < L ∧ wrap64 ((IntKind.u64.wrap cut).tmod (L : Int)) = (k : Int) := by
  obtain ⟨m, hm⟩ : ∃ m : Nat, IntKind.u64.wrap cut = (m : Int) := ⟨(IntKind.u64.wrap cut).toNat, by rw [IntKind.wrap_u64]; omega⟩
  rw [hm]
  have h1 := Nat.mod_lt m h
  exact ⟨m % L, h1, by rw [show (m : Int).tmod (L : Int) = ((m % L : Nat) : Int) from rfl]; exact IntWalk.wrap64_in _ (by omega)⟩
set_option maxRecDepth 100000 in
set_option maxHeartbeats 4000000 in
theorem partsLaw (s m : ByteArray) (cut : Int) (w : World) (ht : TabsN w) :
    Calls Tryd.prog 5 #[.string s, .string m, .int .i64 cut] w fun e w' => e = .returned (.bool true) ∧ Below w.heap.size w w' := by
  have AL := Lib.hid (alive_any w ht)
  by_cases h1 : 2000 < s.size
  · have q1 : (2000 : Int) < s.size := by omega
    go_enter Tryd.func5, Tryd.ntmps5
    go_wp2_with fail
    refine AL.out.mono ?_
    rintro e w1 ⟨rfl, hb1⟩
    go_wp2_with fail
    go_ret
    exact ⟨rfl, hb1⟩
  · have q1 : ¬ (2000 : Int) < s.size := by omega
    by_cases h2 : 2000 < m.size
    · have q2 : (2000 : Int) < m.size := by omega
      go_enter Tryd.func5, Tryd.ntmps5
      go_wp2_with fail
      refine AL.out.mono ?_
      rintro e w1 ⟨rfl, hb1⟩
      go_wp2_with fail
      go_ret
      exact ⟨rfl, hb1⟩
    · have q2 : ¬ (2000 : Int) < m.size := by omega
      obtain ⟨l, rfl⟩ := of_B s
      obtain ⟨t, rfl⟩ := of_B m
      have bl := B_size l
      have bt := B_size t
      -- the second half: a record's true beginning
      have second : ∀ (W : World), TabsN W → Calls Tryd.prog 8 #[.string (B l)] W fun e w' => (goodR l = false ∧ e = .returned (.tuple #[.string (B []), errV 2]) ∨ goodR l = true ∧ e = .returned (.tuple #[.string (B (fullR l)), .nilIface])) ∧ Below W.heap.size W w' := by
        intro W hT
        cases hg : goodR l with
        | false => exact (record_no l (by omega) hg W).mono fun e w' ⟨he, hb⟩ => ⟨.inl ⟨rfl, he⟩, hb⟩
        | true => exact (record_yes l hg W hT).mono fun e w' ⟨he, hb⟩ => ⟨.inr ⟨rfl, he⟩, hb⟩
      have SC := Lib.hid second
      have FIN := Lib.hid (show goodR l = true → (0 < (B (fullR l)).size ∧ (B (fullR l)).size ≤ 50100 ∧ (B (fullR l)).size = (fullR l).length) ∧ ∃ j : Nat, j < (fullR l).length ∧ wrap64 ((IntKind.u64.wrap cut).tmod ((fullR l).length : Int)) = (j : Int) ∧ ∀ w, TabsN w → Calls Tryd.prog 12 #[.string (B ((fullR l).take j))] w fun e w' => e = .returned (.tuple #[.int .i64 2, .string (B []), .int .i64 0]) ∧ Below w.heap.size w w' from by
        intro hg
        have h7 := full_ne hg
        have hle := full_le hg
        have fs := B_size (fullR l)
        obtain ⟨j, hj, hc⟩ := cut_in cut (fullR l).length (by omega) (by omega)
        exact ⟨⟨by omega, by omega, fs⟩, j, hj, hc, fun w ht => readPart_any (full_begins hg hj) (by simp; omega) w ht⟩)
      clear second
      have RD := Lib.hid (fun w ht => read_any t (by omega) w ht)
      by_cases hp : PartT t ∧ t ≠ []
      · have hlt : 0 < t.length := List.length_pos_iff.2 hp.2
        obtain ⟨k, hk, hck⟩ := cut_in cut t.length hlt (by omega)
        have RP := Lib.hid (fun w ht => readPart_any (part_begins hp.1 k) (by simp; omega) w ht)
        have RT := Lib.hid (fun w ht => readPart_any hp.1 (by omega) w ht)
        have x1 : Hid ((B t).extract 0 k = B (t.take k)) := ext_take t k
        have hk2 : (k : Int) ≤ (B t).size := by rw [bt]; omega
        have q3 : 0 < (B t).size := by rw [bt]; omega
        rw [← bt] at hck
        clear bt
        generalize B t = X at *
        go_enter Tryd.func5, Tryd.ntmps5
        go_wp2_with fail
        refine AL.out.mono ?_
        rintro e w1 ⟨rfl, hb1⟩
        go_wp2_with fail
        refine (RT.out _ (ht.below hb1 (Nat.le_refl _))).mono ?_
        rintro e w2 ⟨rfl, hb2⟩
        have hb12 := hb1.trans (hb2.mono hb1.size)
        go_wp2_with fail
        rw [x1.out]
        refine (RP.out _ (ht.below hb12 (Nat.le_refl _))).mono ?_
        rintro e w3 ⟨rfl, hb3⟩
        have hb13 := hb12.trans (hb3.mono hb12.size)
        go_wp2_with fail
        refine (SC.out _ (ht.below hb13 (Nat.le_refl _))).mono ?_
        rintro e w4 ⟨⟨hg, rfl⟩ | ⟨hg, rfl⟩, hb4⟩
        · have hb14 := hb13.trans (hb4.mono hb13.size)
          clear hg
          rw [errV_2]
          go_wp2_with fail
          go_ret
          exact ⟨rfl, hb14⟩
        · have hb14 := hb13.trans (hb4.mono hb13.size)
          obtain ⟨⟨fz, fs, fe⟩, j, hj, hcj, RFX⟩ := FIN.out hg
          rw [← fe] at hcj
          clear hg
          have xj : Hid ((B (fullR l)).extract 0 j = B ((fullR l).take j)) := ext_take _ j
          have hj2 : (j : Int) ≤ (B (fullR l)).size := by omega
          clear fe hj
          generalize B (fullR l) = F at *
          go_wp2_with fail
          rw [xj.out]
          refine (RFX _ (ht.below hb14 (Nat.le_refl _))).mono ?_
          rintro e w5 ⟨rfl, hb5⟩
          have hb15 := hb14.trans (hb5.mono hb14.size)
          go_wp2_with fail
          go_ret
          exact ⟨rfl, hb15⟩
      · have RN := Lib.hid (show ∀ w, TabsN w → Calls Tryd.prog 12 #[.string (B t)] w fun e w' => ∃ (k : Int) (b : ByteArray) (n : Int), (k = 2 → t = []) ∧ e = .returned (.tuple #[.int .i64 k, .string b, .int .i64 n]) ∧ Below w.heap.size w w' from
          fun w ht => (RD.out w ht).mono fun e w' ⟨k, b, n, hr, he, hb⟩ => ⟨(k : Int), B b, (n : Int), fun hk => by
            obtain rfl : k = 2 := by omega
            rcases hr with ⟨_, h, _⟩ | ⟨h, _⟩ | ⟨_, _, h, _⟩
            · omega
            · exact Classical.byContradiction fun hne => hp ⟨h, hne⟩
            · omega, he, hb⟩)
        have hzero : t = [] → (B t).size = 0 := fun h => by rw [h]; rfl
        clear RD bt
        generalize B t = X at *
        go_enter Tryd.func5, Tryd.ntmps5
        go_wp2_with fail
        refine AL.out.mono ?_
        rintro e w1 ⟨rfl, hb1⟩
        go_wp2_with fail
        refine (RN.out _ (ht.below hb1 (Nat.le_refl _))).mono ?_
        rintro e w2 ⟨k, b, n, hk2, rfl, hb2⟩
        have hb12 := hb1.trans (hb2.mono hb1.size)
        by_cases hk : k = 2
        · have hx0 := hzero (hk2 hk)
          have q4 : ¬ 0 < X.size := by omega
          clear hk2 hx0
          subst hk
          go_wp2_with fail
          refine (SC.out _ (ht.below hb12 (Nat.le_refl _))).mono ?_
          rintro e w4 ⟨⟨hg, rfl⟩ | ⟨hg, rfl⟩, hb4⟩
          · have hb14 := hb12.trans (hb4.mono hb12.size)
            clear hg
            rw [errV_2]
            go_wp2_with fail
            go_ret
            exact ⟨rfl, hb14⟩
          · have hb14 := hb12.trans (hb4.mono hb12.size)
            obtain ⟨⟨fz, fs, fe⟩, j, hj, hcj, RFX⟩ := FIN.out hg
            rw [← fe] at hcj
            clear hg
            have xj : Hid ((B (fullR l)).extract 0 j = B ((fullR l).take j)) := ext_take _ j
            have hj2 : (j : Int) ≤ (B (fullR l)).size := by omega
            clear fe hj
            generalize B (fullR l) = F at *
            go_wp2_with fail
            rw [xj.out]
            refine (RFX _ (ht.below hb14 (Nat.le_refl _))).mono ?_
            rintro e w5 ⟨rfl, hb5⟩
            have hb15 := hb14.trans (hb5.mono hb14.size)
            go_wp2_with fail
            go_ret
            exact ⟨rfl, hb15⟩
        · have q4 : (k == 2) = false := by simpa using hk
          clear hk2 hk
          go_wp2_with fail
          refine (SC.out _ (ht.below hb12 (Nat.le_refl _))).mono ?_
          rintro e w4 ⟨⟨hg, rfl⟩ | ⟨hg, rfl⟩, hb4⟩
          · have hb14 := hb12.trans (hb4.mono hb12.size)
            clear hg
            rw [errV_2]
            go_wp2_with fail
            go_ret
            exact ⟨rfl, hb14⟩
          · have hb14 := hb12.trans (hb4.mono hb12.size)
            obtain ⟨⟨fz, fs, fe⟩, j, hj, hcj, RFX⟩ := FIN.out hg
            rw [← fe] at hcj
            clear hg
            have xj : Hid ((B (fullR l)).extract 0 j = B ((fullR l).take j)) := ext_take _ j
            have hj2 : (j : Int) ≤ (B (fullR l)).size := by omega
            clear fe hj
            generalize B (fullR l) = F at *
            go_wp2_with fail
            rw [xj.out]
            refine (RFX _ (ht.below hb14 (Nat.le_refl _))).mono ?_
            rintro e w5 ⟨rfl, hb5⟩
            have hb15 := hb14.trans (hb5.mono hb14.size)
            go_wp2_with fail
            go_ret
            exact ⟨rfl, hb15⟩
end Go.Proofs.YtoadimagpibfoaaDoor.Fr
/- FrameTurns: a record with one byte of its body changed. -/
namespace Go.Proofs.YtoadimagpibfoaaDoor.Fr
open Go.RowKit Go.Shelf
attribute [local go_sem] Oper.semAt_some

structure ByteRow (w : World) (L : Nat) (l : List UInt8) : Prop where
  lt : L < w.heap.size
  cell : ∀ j, j < l.length → w.cell? ⟨L, j, none⟩ = some (.int .u8 ((l.getD j 0).toNat : Int))
  free : ∀ j, j < l.length → w.frozen? ⟨L, j, none⟩ = false
theorem ByteRow.made (w : World) (t : ByteArray) : ByteRow (Lib.bytesWorld w 5 t) w.heap.size t.data.toList := by
  refine ⟨by rw [Lib.bytesWorld_size]; omega, fun j hj => Lib.bytesWorld_cell w 5 t j (by simpa using hj), fun j hj => ?_⟩
  have hs : j < (Lib.bytesCells w 5 t).size := by
    simp [Lib.bytesCells] at hj ⊢
    omega
  simp [World.frozen?, Lib.bytesWorld_at_new]
  intro h
  omega
theorem made_below (w : World) (t : ByteArray) : Below w.heap.size w (Lib.bytesWorld w 5 t) := by
  refine ⟨rfl, rfl, rfl, by rw [Lib.bytesWorld_size]; omega, fun j hj => Lib.bytesWorld_at_old w 5 t j hj⟩
theorem byte_xor (x : UInt8) (p : Nat) (hp : p < 256) : bits .xor .u8 (x.toNat : Int) (p : Int) = ((x ^^^ UInt8.ofNat p).toNat : Int) := by
  have h1 := x.toNat_lt
  rw [u8_xor_nat _ _ h1 hp, UInt8.toNat_xor, UInt8.toNat_ofNat_of_lt' hp]
theorem xor_ne (x : UInt8) {p : Nat} (hp : p < 256) (h0 : p ≠ 0) : x ≠ x ^^^ UInt8.ofNat p := by
  intro e
  have h1 := congrArg UInt8.toNat e
  rw [UInt8.toNat_xor, UInt8.toNat_ofNat_of_lt' hp] at h1
  have h2 : 0 ^^^ x.toNat = p ^^^ x.toNat := by rw [Nat.zero_xor, Nat.xor_comm p]; exact h1
  exact h0 (Sm.M.xor_right h2).symm
/-- A record with byte j of its body changed by v. -/
def turnR (b : List UInt8) (j : Nat) (v : UInt8) : List UInt8 := (fullR b).set ((headR b.length (figsB b)).length + 1 + j) ((fullR b).getD ((headR b.length (figsB b)).length + 1 + j) 0 ^^^ v)
theorem turn_odd {b : List UInt8} (hg : goodR b = true) {j : Nat} (hj : j < b.length) {p : Nat} (hp : p < 256) (h0 : p ≠ 0) : ReadIs (turnR b j (UInt8.ofNat p)) 3 [] 0 := by
  have hb : b = b.take j ++ b[j] :: b.drop (j + 1) := by rw [← List.drop_eq_getElem_cons hj, List.take_append_drop]
  have h1 : fullR b = headR b.length (figsB b) ++ 10 :: ((b.take j ++ b[j] :: b.drop (j + 1)) ++ footR b.length) := by rw [← hb]; rfl
  have hl : (b.take j).length = j := by simp; omega
  have e : turnR b j (UInt8.ofNat p) = headR b.length (figsB b) ++ 10 :: ((b.take j ++ (b[j] ^^^ UInt8.ofNat p) :: b.drop (j + 1)) ++ footR b.length) := by
    unfold turnR
    have h2 : (fullR b).getD ((headR b.length (figsB b)).length + 1 + j) 0 = b[j] := by
      rw [h1, List.getD_eq_getElem?_getD, List.getElem?_append_right (by omega), show (headR b.length (figsB b)).length + 1 + j - (headR b.length (figsB b)).length = j + 1 by omega, List.getElem?_cons_succ, List.append_assoc, List.getElem?_append_right (by omega), hl, Nat.sub_self]
      rfl
    rw [h2, h1, List.set_append_right _ _ (by omega), show (headR b.length (figsB b)).length + 1 + j - (headR b.length (figsB b)).length = j + 1 by omega, List.set_cons_succ, List.append_assoc, List.set_append_right _ _ (by omega), hl, Nat.sub_self, List.append_assoc]
    rfl
  rw [e]
  exact turned_odd hb hg (xor_ne _ hp h0)
theorem head_at {b : List UInt8} {k : Nat} (hk : k < (headR b.length (figsB b)).length) (h : k < (B (fullR b)).size) : ((B (fullR b))[k] == 10) = false := by
  have e : (B (fullR b))[k] = (headR b.length (figsB b))[k] := by
    have : (fullR b)[k]? = (headR b.length (figsB b))[k]? := by unfold fullR; rw [rec_def, List.getElem?_append_left hk]
    rw [B_size] at h
    rw [List.getElem?_eq_getElem h, List.getElem?_eq_getElem hk] at this
    exact Option.some.inj this
  rw [e]
  have := head_no10 (n := b.length) (figsB_ok b)
  have h2 : (headR b.length (figsB b))[k] ≠ 10 := fun q => this (by rw [← q]; exact List.getElem_mem hk)
  simpa using h2
theorem head_end {b : List UInt8} (h : (headR b.length (figsB b)).length < (B (fullR b)).size) : ((B (fullR b))[(headR b.length (figsB b)).length] == 10) = true := by
  have : (fullR b)[(headR b.length (figsB b)).length]? = some 10 := by unfold fullR; rw [rec_def, List.getElem?_append_right (Nat.le_refl _), Nat.sub_self]; rfl
  rw [B_size] at h
  rw [List.getElem?_eq_getElem h] at this
  have e := Option.some.inj this
  exact beq_iff_eq.2 e
set_option maxRecDepth 100000 in
set_option maxHeartbeats 4000000 in
theorem turnsLaw (s : ByteArray) (at_ : Int) (p : Nat) (hp : p < 256) (w : World) (ht : TabsN w) :
    Calls Tryd.prog 6 #[.string s, .int .i64 at_, .int .u8 (p : Int)] w fun e w' => e = .returned (.bool true) ∧ Below w.heap.size w w' := by
  have AL := Lib.hid (alive_any w ht)
  by_cases h1 : 3000 < s.size
  · have q1 : (3000 : Int) < s.size := by omega
    go_enter Tryd.func6, Tryd.ntmps6
    go_wp2_with fail
    refine AL.out.mono ?_
    rintro e w1 ⟨rfl, hb1⟩
    go_wp2_with fail
    go_ret
    exact ⟨rfl, hb1⟩
  · have q1 : ¬ (3000 : Int) < s.size := by omega
    by_cases h0 : p = 0
    · subst h0
      go_enter Tryd.func6, Tryd.ntmps6
      go_wp2_with fail
      refine AL.out.mono ?_
      rintro e w1 ⟨rfl, hb1⟩
      go_wp2_with fail
      go_ret
      exact ⟨rfl, hb1⟩
    · have q2 : ((p : Int) == 0) = false := by rw [beq_eq_false_iff_ne]; omega
      obtain ⟨l, rfl⟩ := of_B s
      have bl := B_size l
      cases hg : goodR l with
      | false =>
        have R1 := Lib.hid (fun w => record_no l (by omega) hg w)
        go_enter Tryd.func6, Tryd.ntmps6
        go_wp2_with fail
        refine AL.out.mono ?_
        rintro e w1 ⟨rfl, hb1⟩
        go_wp2_with fail
        refine (R1.out _).mono ?_
        rintro e w2 ⟨rfl, hb2⟩
        have hb12 := hb1.trans (hb2.mono hb1.size)
        rw [errV_2]
        go_wp2_with fail
        go_ret
        exact ⟨rfl, hb12⟩
      | true =>
        obtain ⟨hl2, _, _, _⟩ := good_iff.1 hg
        have hfl := full_le hg
        have R1 := Lib.hid (fun w ht => record_yes l hg w ht)
        obtain ⟨j, hj, hcj⟩ := cut_in at_ l.length (by omega) (by omega)
        have TO := Lib.hid (fun w ht => readOdd_any (turn_odd hg hj hp h0) (by unfold turnR; rw [List.length_set]; omega) w ht)
        have fs := B_size (fullR l)
        have hT : Hid (turnR l j (UInt8.ofNat p) = (fullR l).set ((headR l.length (figsB l)).length + 1 + j) ((fullR l).getD ((headR l.length (figsB l)).length + 1 + j) 0 ^^^ UInt8.ofNat p)) := rfl
        have hlen : (headR l.length (figsB l)).length + 1 + j < (fullR l).length := by unfold fullR; rw [rec_def]; simp; omega
        have hA := Lib.hid (fun k (hk : k < (headR l.length (figsB l)).length) h => head_at hk h)
        have hE := Lib.hid (fun h => head_end (b := l) h)
        generalize turnR l j (UInt8.ofNat p) = T at *
        generalize (headR l.length (figsB l)).length = H at *
        generalize hF : fullR l = F at *
        rw [← bl] at hcj
        have hX0 : 0 < (B l).size := by omega
        have hX1 : ¬ (B l).size = 0 := by omega
        clear bl hg hF h1 hl2
        generalize B l = X at *
        go_enter Tryd.func6, Tryd.ntmps6
        go_wp2_with fail
        refine AL.out.mono ?_
        rintro e w1 ⟨rfl, hb1⟩
        go_wp2_with fail
        refine (R1.out _ (ht.below hb1 (Nat.le_refl _))).mono ?_
        rintro e w2 ⟨rfl, hb2⟩
        have hb12 := hb1.trans (hb2.mono hb1.size)
        have hf0 : ((B F).size : Int) ≠ 0 := by omega
        have hf1 : (((B F).size : Int) == 0) = false := beq_eq_false_iff_ne.2 hf0
        have hHF : H < (B F).size := by omega
        go_wp2_with fail
        go_loop [9] (fun i => ∃ k : Nat, k ≤ H ∧ i = .int .i64 k) (fun i => H - (intOf i).toNat)
        case atStart => exact ⟨0, Nat.zero_le _, rfl⟩
        case round =>
          obtain ⟨k, hk, rfl⟩ := hrel
          by_cases hlt : k < H
          · have hk2 : k < (B F).size := by omega
            have c1 := byteT (c := (B F)[k]) 10 10 rfl
            rw [hA.out k hlt hk2] at c1
            go_wp2_with fail
            go_round
            case rel => exact ⟨k + 1, by omega, by go_num⟩
            case measure => simp [intOf]; omega
          · obtain rfl : k = H := by omega
            have c1 := byteT (c := (B F)[k]) 10 10 rfl
            rw [hE.out hHF] at c1
            have hcv := Lib.run_convert_string_bytes (P := Tryd.prog) w2 9 37 5 (B F) Tryd.underlying9 Tryd.underlying37 Tryd.underlying5
            have hge : ¬ F.length ≤ k + 1 + j := by omega
            have hge2 : ¬ (F.length : Int) ≤ (k : Int) + 1 + j := by omega
            have hrow : ByteRow (Lib.bytesWorld w2 5 (B F)) w2.heap.size F := by have := ByteRow.made w2 (B F); rwa [B_data] at this
            have hbw : Below w.heap.size w (Lib.bytesWorld w2 5 (B F)) := hb12.trans ((made_below w2 (B F)).mono hb12.size)
            have hL : w.heap.size ≤ w2.heap.size := hb12.size
            rw [fs] at hcv
            generalize grownCap w2 F.length 0 5 = cap at *
            generalize Lib.bytesWorld w2 5 (B F) = w3 at *
            have hc := hrow.cell _ hlen
            have hf := hrow.free _ hlen
            have hx := byte_xor (F.getD (k + 1 + j) 0) p hp
            have hy256 := (F.getD (k + 1 + j) 0 ^^^ UInt8.ofNat p).toNat_lt
            have hTl : T.length = F.length := by rw [hT.out, List.length_set]
            obtain ⟨w4, hw4⟩ : ∃ w4, w4 = w3.setCell ⟨w2.heap.size, k + 1 + j, none⟩ (.int .u8 (((F.getD (k + 1 + j) 0 ^^^ UInt8.ofNat p).toNat : Nat) : Int)) := ⟨_, rfl⟩
            have hback : (convert 37 9 (.slice (some ⟨w2.heap.size, 0, none⟩) F.length cap)).run Tryd.prog w4 = .ok (.string (B T)) w4 := by
              have := run_convert_bytes_back (P := Tryd.prog) w4 37 9 5 ⟨w2.heap.size, 0, none⟩ cap T Tryd.underlying37 Tryd.underlying5 Tryd.underlying9 (fun i hi => by
                rw [WideShapes.add_plain, Nat.zero_add, hw4]
                rw [hTl] at hi
                have hTi : T[i]? = some (if i = k + 1 + j then F.getD (k + 1 + j) 0 ^^^ UInt8.ofNat p else F.getD i 0) := by
                  rw [hT.out, List.getElem?_set]
                  by_cases e : k + 1 + j = i
                  · subst e; rw [if_pos rfl, if_pos hi, if_pos rfl]
                  · rw [if_neg e, if_neg (fun q => e q.symm), List.getD_eq_getElem?_getD, List.getElem?_eq_getElem hi]; rfl
                by_cases e : i = k + 1 + j
                · subst e
                  rw [if_pos rfl] at hTi
                  rw [World.cell?_setCell_same' w3 ⟨w2.heap.size, k + 1 + j, none⟩ _ (by rw [hc]; rfl)]
                  have := List.getElem?_eq_some_iff.1 hTi
                  rw [this.2]
                · rw [if_neg e] at hTi
                  rw [World.cell?_setCell_other w3 _ _ _ (fun he => e (by injection he with _ h2 _; exact h2.symm)), hrow.cell i hi]
                  have := List.getElem?_eq_some_iff.1 hTi
                  rw [this.2])
              rw [hTl] at this
              exact this
            have hb4 : Below w.heap.size w w4 := by rw [hw4]; exact hbw.setCell (p := ⟨w2.heap.size, k + 1 + j, none⟩) hL _
            rw [hw4] at hback
            have HB := Lib.hid hb4
            clear hb4 hrow hbw
            generalize hyy : F.getD (k + 1 + j) 0 ^^^ UInt8.ofNat p = yy at *
            generalize hy0 : F.getD (k + 1 + j) 0 = y0 at *
            clear hyy hy0
            go_wp2_with fail
            have hbf := HB.out
            rw [hw4] at hbf
            have HB2 := Lib.hid hbf
            clear hbf HB
            refine (TO.out _ (ht.below HB2.out (Nat.le_refl _))).mono ?_
            rintro e w5 ⟨rfl, hb5⟩
            have HB3 := Lib.hid (HB2.out.trans (hb5.mono HB2.out.size))
            go_wp2_with fail
            go_ret
            exact ⟨rfl, HB3.out⟩
end Go.Proofs.YtoadimagpibfoaaDoor.Fr
/- Stage 11's laws as their cards call them. -/
namespace Go.Proofs.YtoadimagpibfoaaDoor.Fr
open Go.RowKit Go.Shelf

theorem u8_of {a : Int} (h : (Lit.int .u8 a).wf = true) : ∃ n : Nat, a = (n : Int) ∧ n < 256 := by
  simp [Lit.wf, IntKind.min, IntKind.max, IntKind.bits, IntKind.signed] at h
  exact ⟨a.toNat, by omega, by omega⟩
theorem recordsCall (a b : ByteArray) (W : World) (_ : a.size ≤ maxLen) (_ : b.size ≤ maxLen) (ht : TabsN W) :
    Calls Tryd.prog 3 #[.string a, .string b] W fun e W' => e = .returned (.bool true) ∧ Below W.heap.size W W' := recordsLaw a b W ht
theorem partsCall (a b : ByteArray) (c : Int) (W : World) (_ : a.size ≤ maxLen) (_ : b.size ≤ maxLen) (_ : (Lit.int .i64 c).wf = true) (ht : TabsN W) :
    Calls Tryd.prog 5 #[.string a, .string b, .int .i64 c] W fun e W' => e = .returned (.bool true) ∧ Below W.heap.size W W' := partsLaw a b c W ht
theorem turnsCall (a : ByteArray) (c p : Int) (W : World) (_ : a.size ≤ maxLen) (_ : (Lit.int .i64 c).wf = true) (hp : (Lit.int .u8 p).wf = true) (ht : TabsN W) :
    Calls Tryd.prog 6 #[.string a, .int .i64 c, .int .u8 p] W fun e W' => e = .returned (.bool true) ∧ Below W.heap.size W W' := by
  obtain ⟨n, rfl, hn⟩ := u8_of hp
  exact turnsLaw a c n hn W ht
end Go.Proofs.YtoadimagpibfoaaDoor.Fr
