/- Texts put together: PZ, TF, FO, TB, TC, FP, FQ, FR, TD, TE, TL, UA, UK. -/
import Derived.Deep.DeepCutAuto
import Derived.Test.YtbkeoiefolkjfaaGreatDoorBxa5
import Derived.Test.YtbkeoiefolkjfaaGreatDoorBxa8
import Derived.Test.YtbkeoiefolkjfaaGreatDoorBxa9
import Derived.Test.YtbkeoiefolkjfaaGreatDoorBxa10
import Derived.Test.YtbkeoiefolkjfaaGreatDoorBxa13
set_option linter.unusedVariables false
set_option maxRecDepth 100000
set_option maxHeartbeats 16000000
namespace Go.Proofs.YtbkeoiefolkjfaaGreatDoor
open Go.RowKit Go.Shelf Go.Maps Go.ChangeShapes Go.Joins Go.WideShapes
theorem cells3 {cs : List Value} (h : cs.length = 3) : ∃ c0 c1 c2, cs = [c0, c1, c2] := by
 match cs, h with
 | [c0, c1, c2], _ => exact ⟨_, _, _, rfl⟩
theorem its_of_own {w : World} {base : Nat} {v : Value} {its : List It} {fvs : List Value} (h : w.ownsRow base 117 3 v its.length (itemsCells its fvs)) (hl : fvs.length = its.length) (he : ∀ (j : Nat) it x, its[j]? = some it -> fvs[j]? = some x -> Flds w x it.fields) : Its w v its := by
  rcases Joins.ownsRow_forms h with ⟨e, hn⟩ | ⟨g, cap, e⟩
  . have : its = [] := List.length_eq_zero_iff.1 hn
    rw [e, this]
    exact ⟨none, 0, rfl, Nat.le_refl _, fun i it hi => by simp at hi⟩
  refine ⟨some ⟨g, 0, none⟩, cap, e, (by rcases h.2 with ⟨q, _⟩ | ⟨g', cap', cur, q, _, _, q2, _⟩; · rw [e] at q; cases q
                                         rw [e] at q; cases q; exact q2), fun i it hi => ?_⟩
  have hlt : i < its.length := by
    rcases Nat.lt_or_ge i its.length with q | q
    . exact q
    rw [List.getElem?_eq_none q] at hi; cases hi
  obtain ⟨fv, hfv⟩ : ∃ fv, fvs[i]? = some fv := ⟨_, List.getElem?_eq_getElem (by rw [hl]; exact hlt)⟩
  obtain ⟨a0, a1, a2⟩ := itemsCells_at _ _ i it fv hi hfv
  rw [e] at h
  refine ⟨g, 0, fv, rfl, (World.ownsRow.lt h g rfl).2, ?_, ?_, ?_, he i it fv hi hfv⟩
  . rw [Nat.zero_add, World.ownsRow.cellAt h (i * 3) (by omega)]; exact a0
  . rw [Nat.zero_add, World.ownsRow.cellAt h (i * 3 + 1) (by omega)]; exact a1
  rw [Nat.zero_add, World.ownsRow.cellAt h (i * 3 + 1 + 1) (by omega)]; exact a2
theorem copies_own (fs : List Fld) (v : Value) (w : World) (hs : Flds w v fs) (hnil : ∀ n c, v = .slice none n c -> c = 0) (hn : fs.length <= 1000000) :
  Calls Tryz.prog 41 #[v] w fun e w' => ∃ v', e = .returned v' /\ w'.ownsRow w.heap.size 83 2 v' fs.length (cellsF fs) /\ Below w.heap.size w w' := by
 obtain ⟨A, cap, rfl, hle, hc⟩ := hs
 obtain ⟨i0, hi, hz0, hz1, hz2⟩ := info_parts infoFld
 have hoN : (w.alloc (.cells #[] 83)).ownsRow w.heap.size 83 2 (.slice (some ⟨w.heap.size, 0, none⟩) 0 0) 0 [] := World.ownsRow_lit w #[] 0 (Nat.le_refl _) (by decide) rfl
 have hba := (Below.refl w.heap.size w).alloc (Nat.le_refl _) (.cells #[] 83)
 cases A with
 | none =>
  have he : fs = [] := by
   cases fs with
   | nil => rfl
   | cons a r => obtain ⟨b, off, e, _⟩ := hc 0 a rfl; cases e
  have hc0 := hnil _ _ rfl
  subst hc0
  subst he
  simp only [List.length_nil]
  go_enter Tryz.func41, Tryz.ntmps41
  go_wp2_with (at_builtin; refine wpList_append_own_none rfl _ _ 38 rfl w.heap.size 83 i0 2 Tryz.underlying38 hi _ 0 [] rfl hoN rfl ?_)
  go_ret
  exact ⟨_, rfl, hoN, hba⟩
 | some ad =>
 have HC := Lib.hid (rcellsF_at (cap := cap) hc (.cells #[] 83))
 have hone : ∀ u ∈ cellsF fs, u.oneCell' = true := by
  intro u hu
  unfold cellsF at hu
  simp at hu
  obtain ⟨a, b, _, h | h⟩ := hu <;> subst h <;> rfl
 have HL := cellsF_len fs
 clear hc
 generalize cellsF fs = cf at *
 go_enter Tryz.func41, Tryz.ntmps41
 go_wp2_with (at_builtin; refine wpList_append_own _ rfl _ _ 38 rfl w.heap.size 83 i0 _ 2 32 Tryz.underlying38 hi hz0 hz1 hz2 rfl (by decide) _ 0 [] rfl hoN ad fs.length cap cf rfl HL HC.out hone ?c3 ?c4 ?c5 ?_)
 case c3 => unfold maxLen; omega
 case c4 => omega
 case c5 => simp
 intro v' w3 hown' hgrow _
 have hb3 : Below w.heap.size w w3 := hba.grown hgrow (by simp) (fun j ej => (World.ownsRow.lt hoN j ej).1)
 go_wp2_with fail
 go_ret
 exact ⟨_, rfl, hown', hb3⟩
structure AccM (w wr : World) (v : Value) (fvs : List Value) (its : List It) : Prop where
 row : wr.ownsRow w.heap.size 117 3 v its.length (itemsCells its fvs)
 len : fvs.length = its.length
 each : ∀ (j : Nat) it x, its[j]? = some it -> fvs[j]? = some x -> wr.ownsRow w.heap.size 83 2 x it.fields.length (cellsF it.fields)
 below : Below w.heap.size w wr
theorem AccM.its {w wr : World} {v : Value} {fvs : List Value} {its : List It} (h : AccM w wr v fvs its) : Its wr v its :=
 its_of_own h.row h.len fun j it x h1 h2 => flds_of_own (h.each j it x h1 h2)
theorem AccM.kept {w wr w2 : World} {v : Value} {fvs : List Value} {its : List It} (h : AccM w wr v fvs its) (hb : Below wr.heap.size wr w2) : AccM w w2 v fvs its :=
 ⟨own_kept h.row hb (Nat.le_refl _), h.len, fun j it x h1 h2 => own_kept (h.each j it x h1 h2) hb (Nat.le_refl _), h.below.trans (hb.mono h.below.size)⟩
theorem row42 {W w3 : World} {lo : Nat} {v x : Value} {n m : Nat} {xs ys : List Value} (hv : W.ownsRow lo 117 3 v n xs) (hx : W.ownsRow lo 83 2 x m ys) (hg : W.grownBy w3 v.ownBlock) : w3.ownsRow lo 83 2 x m ys := by
 refine row_same hx fun b hb => hg.block b (hx.lt b hb).2 (fun e => ?_)
 rcases hx.2 with ⟨rfl, _⟩ | ⟨g, cap, cur, rfl, _, hc, _⟩
 ·cases hb
 cases hb
 rcases hv.2 with ⟨rfl, _⟩ | ⟨g', cap', cur', rfl, _, hc', _⟩
 ·cases e
 have : g = g' := Option.some.inj e
 subst this
 rw [hc] at hc'
 injection hc' with hc'
 injection hc' with _ h2 _
 exact absurd h2 (by decide)
theorem AccM.snoc {w W w3 : World} {v v' x : Value} {fvs : List Value} {its : List It} {it : It} (h : AccM w W v fvs its) (hx : W.ownsRow w.heap.size 83 2 x it.fields.length (cellsF it.fields)) (ho : w3.ownsRow w.heap.size 117 3 v' (its.length + 1) (itemsCells its fvs ++ [.int .i64 it.kind, .string (B it.raw), x])) (o : Obj) (hg : (W.alloc o).grownBy w3 v.ownBlock) : AccM w w3 v' (fvs ++ [x]) (its ++ [it]) := by
 have h' := h.kept ((Below.refl W.heap.size W).alloc (Nat.le_refl _) o)
 have hx' := own_kept hx ((Below.refl W.heap.size W).alloc (Nat.le_refl _) o) (Nat.le_refl _)
 refine ⟨by rw [List.length_append, itemsCells_snoc _ _ _ _ h.len]; exact ho, by simp [h.len], fun j y s hy hs => ?_, h'.below.grown hg h'.below.size (fun k e => (h.row.lt k e).1)⟩
 rcases snoc_at hy with ⟨q, hy⟩ | ⟨q, rfl⟩
 ·rw [List.getElem?_append_left (by rw [h.len]; exact q)] at hs
  exact row42 h'.row (h'.each j y s hy hs) hg
 rw [q, <- h.len, List.getElem?_append_right (Nat.le_refl _)] at hs
 simp at hs
 subst hs; exact row42 h'.row hx' hg
end Go.Proofs.YtbkeoiefolkjfaaGreatDoor
namespace Go.Proofs.YtbkeoiefolkjfaaGreatDoor
open Go.RowKit Go.Shelf
end Go.Proofs.YtbkeoiefolkjfaaGreatDoor
namespace Go.Proofs.YtbkeoiefolkjfaaGreatDoor
open Go.RowKit Go.Shelf
attribute [local go_sem] errV_0
theorem fold_any (fs : List (List UInt8 × List UInt8)) (v : Value) (w : World) (hs : Flds w v fs) (hn : fs.length <= 1000) (hl : ∀ f ∈ fs, f.1.length <= 100000 /\ f.2.length <= 100000) :
  Calls Tryz.prog 86 #[v] w fun e w' => e = .returned (.tuple #[.string (B (foldT fs)), errV (foldN fs)]) /\ Below w.heap.size w w' := by
 obtain ⟨A, cap, rfl, hle, hc⟩ := hs
 have PC := Lib.hid hc
 clear hc
 have B0 := Bld.new w (w.heap.size + 1)
 go_enter Tryz.func86, Tryz.ntmps86
 go_wp2_with fail
 go_loopw [13] (fun i wr => ∃ k : Nat, k <= fs.length /\ i = .int .i64 k /\ foldN fs = foldN (fs.drop k) /\ Bld w.heap.size (w.heap.size + 1) (foldG (fs.take k)) wr /\ (foldG (fs.take k)).length <= 4000 * k /\ Below w.heap.size w wr) (fun i _ => fs.length - (intOf i).toNat)
 case atStart => exact ⟨0, Nat.zero_le _, rfl, rfl, B0, Nat.le_refl _, (Below.refl _ _).alloc (Nat.le_refl _) _⟩
 case round =>
 obtain ⟨k, hk, rfl, hN, hbl, hle4, hb⟩ := hrel
 by_cases hlt : k < fs.length
 ·obtain ⟨f, hf⟩ : ∃ f, fs[k]? = some f := ⟨_, List.getElem?_eq_getElem hlt⟩
  obtain ⟨b, off, rfl, hbb, c0, c1⟩ := PC.out k f hf
  replace c0 := (hb.cell (p := ⟨b, off + k * 2, none⟩) hbb).trans c0
  replace c1 := (hb.cell (p := ⟨b, off + k * 2 + 1, none⟩) hbb).trans c1
  obtain ⟨hl1, hl2⟩ := hl f (List.mem_of_getElem? hf)
  have hdrop : fs.drop k = f :: fs.drop (k + 1) := by
   rw [List.drop_eq_getElem_cons hlt]
   rw [List.getElem?_eq_getElem hlt] at hf
   rw [Option.some.inj hf]
  have htake : fs.take (k + 1) = fs.take k ++ [f] := by rw [List.take_add_one, hf]; rfl
  rw [hdrop] at hN
  have NH := Lib.hid hN
  have TH := Lib.hid htake
  have hs1 := hb.size
  have hbs := hbl.lt
  have HB := Lib.hid (hbl.alloc (.cells #[.string (B f.1), .string (B f.2)] 83))
  have hba := hb.alloc hs1 (.cells #[.string (B f.1), .string (B f.2)] 83)
  by_cases hck : checkN f.1 f.2 = 0
  ·have LG := fun w => lines_own f.1 f.2 hl1 hl2 w hck
   clear hdrop htake hN hf
   unfold fieldV at LG
   go_wp2_with fail
   refine (LG _).mono ?_
   rintro e w2 ⟨sv, base, rfl, hown, b2⟩
   have hb2 := hba.trans (b2.mono (by simp; omega))
   have hbl2 := HB.out.kept b2 (Nat.le_refl _)
   have htl := text_le hck
   have hm1 : 1 <= (linesL f.1 f.2).length := by rw [linesL_len]; omega
   have hm2 : (linesL f.1 f.2).length <= 4000 := by rw [textL_len] at htl; omega
   have G1 : Hid (foldG (fs.take (k + 1)) = foldG (fs.take k) ++ textL (linesL f.1 f.2)) := by
    show _ = _
    rw [TH.out, foldG_snoc]
   have G2 : Hid (foldN fs = foldN (fs.drop (k + 1))) := by
    show _ = _
    rw [NH.out]; show (if checkN f.1 f.2 = 0 then foldN (fs.drop (k + 1)) else _) = _; rw [if_pos hck]
   clear HB b2 hba LG hbl hb c0 c1 TH NH hck
   obtain ⟨g, cap', rfl⟩ := Joins.ownsRow_form hown (by simp; omega)
   rw [List.length_map] at hown ⊢
   generalize linesL f.1 f.2 = ls at *
   generalize foldG (fs.take k) = pre at *
   go_wp2_with fail
   go_loopw [27] (fun i wq => ∃ j : Nat, j <= ls.length /\ i = .int .i64 j /\ Bld w.heap.size (w.heap.size + 1) (pre ++ textL (ls.take j)) wq /\ wq.ownsRow base 9 1 (.slice (some ⟨g, 0, none⟩) ls.length cap') ls.length ((ls.map B).map Value.string) /\ Below w.heap.size w wq) (fun i _ => ls.length - (intOf i).toNat)
   case atStart => exact ⟨0, Nat.zero_le _, rfl, by simpa [textL] using hbl2, by simpa [OwnS] using hown, hb2⟩
   case round =>
   obtain ⟨j, hj, rfl, hblj, hownj, hbj⟩ := hrel
   have hsj := hbj.size
   by_cases hjl : j < ls.length
   ·obtain ⟨x, hx⟩ : ∃ x, ls[j]? = some x := ⟨_, List.getElem?_eq_getElem hjl⟩
    have hcx := hownj.cellAt j (by omega)
    rw [List.getElem?_map, List.getElem?_map, hx] at hcx
    simp only [Option.map_some] at hcx
    have T1 : Hid (textL (ls.take (j + 1)) = (textL (ls.take j) ++ x) ++ [10]) := by
     show _ = _
     rw [List.take_add_one, hx]; exact textL_snoc _ _
    have t1 := textL_take ls (j + 1)
    rw [T1.out, List.length_append, List.length_append] at t1
    simp only [List.length_singleton] at t1
    have hlj := hblj.lt
    clear hx
    go_wp2_with fail
    refine (writes w.heap.size (w.heap.size + 1) _ (B x) wr hblj (by omega) (by omega) (by rw [B_size, List.length_append]; omega)).mono ?_
    rintro e w5 ⟨rfl, hbl5, hw5⟩
    obtain ⟨cs, hcs⟩ := hblj.cells
    have hownS : OwnS wr base (.slice (some ⟨g, 0, none⟩) ls.length cap') (ls.map B) := by unfold OwnS; rw [List.length_map]; exact hownj
    have hown5 := hownS.wrote hw5 hcs
    have hb5 := hbj.trans (hw5.below (Nat.le_refl _) (by omega) hsj)
    rw [B_data] at hbl5
    have hs5 := hb5.size
    have hl5 := hbl5.lt
    clear hw5 hownS hownj hblj hcs hbj hcx
    go_wp2_with fail
    refine (writes w.heap.size (w.heap.size + 1) _ ⟨#[10]⟩ w5 hbl5 (by omega) (by omega) (by simp only [List.length_append]; show _ + 1 <= _; omega)).mono ?_
    rintro e w6 ⟨rfl, hbl6, hw6⟩
    obtain ⟨cs, hcs⟩ := hbl5.cells
    have hown6 := hown5.wrote hw6 hcs
    have hb6 := hb5.trans (hw6.below (Nat.le_refl _) (by omega) hs5)
    clear hw6 hown5 hbl5 hcs hb5
    go_wp2_with fail
    go_roundw
    case rel =>
     refine ⟨j + 1, hjl, by go_num, ?_, ?_, hb6⟩
     ·rw [T1.out, <- List.append_assoc, <- List.append_assoc]; exact hbl6
     unfold OwnS at hown6; rw [List.length_map] at hown6; exact hown6
    case measure => simp [intOf]; omega
   obtain rfl : j = ls.length := by omega
   rw [List.take_length] at hblj
   go_wp2_with fail
   go_roundw
   case rel =>
    refine ⟨k + 1, hlt, by go_num, G2.out, by rw [G1.out]; exact hblj, ?_, hbj⟩
    rw [G1.out, List.length_append]; omega
   case measure => simp [intOf]; omega
  have LB := fun w => lines_bad f.1 f.2 hl1 hl2 w hck
  have hfn : foldN fs = checkN f.1 f.2 := by rw [NH.out]; unfold foldN; rw [if_neg hck]
  have hft : foldT fs = [] := by unfold foldT; rw [hfn, if_neg hck]
  rw [errV_pos _ (Nat.pos_of_ne_zero hck)] at LB
  have hev : errV (foldN fs) = .iface 57 (.int .i64 (checkN f.1 f.2 : Int)) := by rw [hfn, errV_pos _ (Nat.pos_of_ne_zero hck)]
  have FTH := Lib.hid hft
  have FNH := Lib.hid hev
  clear hdrop htake hN hf hfn hft NH hck hev
  generalize checkN f.1 f.2 = cn at *
  unfold fieldV at LB
  go_wp2_with fail
  refine (LB _).mono ?_
  rintro e w2 ⟨rfl, b2⟩
  have hb2 := hba.trans (b2.mono (by simp; omega))
  clear b2 LB
  go_wp2_with fail
  go_ret2
  exact ⟨by rw [FNH.out, FTH.out]; rfl, hb2⟩
 obtain rfl : k = fs.length := by omega
 rw [List.take_length] at hbl
 rw [List.drop_length] at hN
 have h0 : foldN fs = 0 := hN
 have hft : foldT fs = foldG fs := by unfold foldT; rw [if_pos h0]
 have FTH := Lib.hid hft
 have FNH := Lib.hid h0
 have hbs := hbl.lt
 clear hN h0 hft PC hle4
 go_wp2_with fail
 refine (Tryz.Builder_String_any_k w.heap.size w.heap.size _ wr (hbl.library (Nat.le_refl _) (by omega)) (by omega)).mono ?_
 rintro e w5 ⟨rfl, _, b5, _⟩
 go_wp2_with fail
 go_ret2
 exact ⟨by rw [FTH.out, FNH.out]; rfl, hb.trans b5⟩
end Go.Proofs.YtbkeoiefolkjfaaGreatDoor
namespace Go.Proofs.YtbkeoiefolkjfaaGreatDoor
open Go.RowKit Go.Shelf
def badAt : List Fld -> Nat
 | [] => 0
 | f :: r => if checkN f.1 f.2 = 0 then badAt r + 1 else 0
def chkN (fs : List Fld) : Nat := if fs.length = 0 then 2 else if 40 < fs.length then 11 else foldN fs
def bare (fs : List Fld) : Prop := fs.length = 0 \/ 40 < fs.length \/ foldN fs = 0
instance (fs : List Fld) : Decidable (bare fs) := by unfold bare; infer_instance
def chkAt (fs : List Fld) : Int := if bare fs then -9 else (badAt fs : Nat)
def ChkV (lo : Nat) (w : World) (u : Value) (fs : List Fld) : Prop := if bare fs then u = errV (chkN fs) else FaultAt lo w u (badAt fs) (foldN fs)
theorem chkN_le (fs : List Fld) : chkN fs <= 11 := by
 unfold chkN
 have := foldN_le fs
 split
 ·decide
 split
 ·decide
 omega
theorem chkN_zero {fs : List Fld} (h : chkN fs = 0) : fs.length ≠ 0 /\ fs.length <= 40 /\ foldN fs = 0 := by
 unfold chkN at h
 split at h
 ·cases h
 split at h
 ·cases h
 exact ⟨by assumption, by omega, h⟩
attribute [local go_sem] errV_0
theorem chk_any (fs : List Fld) (v : Value) (w : World) (hs : Flds w v fs) (hn : fs.length <= 1000000) (hl : ∀ f ∈ fs, f.1.length <= 1000000 /\ f.2.length <= 1000000) :
  Calls Tryz.prog 150 #[v] w fun e w' => ∃ u, e = .returned u /\ Below w.heap.size w w' /\ ChkV w.heap.size w' u fs := by
 obtain ⟨A, cap, rfl, hle, hc⟩ := hs
 have PC := Lib.hid hc
 have HL := Lib.hid hl
 clear hc hl
 by_cases h0 : fs.length = 0
 ·have FIN : Hid (∀ W, ChkV w.heap.size W (.iface 57 (.int .i64 2)) fs) := by
   intro W
   unfold ChkV; rw [if_pos (.inl h0)]; unfold chkN; rw [if_pos h0]; rfl
  rw [h0]
  go_enter Tryz.func150, Tryz.ntmps150
  go_wp2_with fail
  go_ret
  exact ⟨_, rfl, Below.refl _ _, FIN.out _⟩
 by_cases h40 : 40 < fs.length
 ·have FIN : Hid (∀ W, ChkV w.heap.size W (.iface 57 (.int .i64 11)) fs) := by
   intro W
   unfold ChkV; rw [if_pos (.inr (.inl h40))]; unfold chkN; rw [if_neg h0, if_pos h40]; rfl
  have c0 : ((fs.length : Int) == 0) = false := by simp; intro h; exact h0 (by rw [h]; rfl)
  go_enter Tryz.func150, Tryz.ntmps150
  go_wp2_with fail
  go_ret
  exact ⟨_, rfl, Below.refl _ _, FIN.out _⟩
 have FINZ : Hid (∀ W, foldN fs = 0 -> ChkV w.heap.size W .nilIface fs) := by
  intro W hz
  unfold ChkV; rw [if_pos (.inr (.inr hz))]; unfold chkN; rw [if_neg h0, if_neg h40, hz]; rfl
 have FINB : Hid (∀ (W : World) (k n : Nat), w.heap.size <= W.heap.size -> foldN fs = n -> n ≠ 0 -> badAt fs = k -> ChkV w.heap.size (W.alloc (.cells #[.int .i64 (k : Nat), .iface 57 (.int .i64 (n : Nat))] 70)) (.iface 68 (.pointer (some ⟨W.heap.size, 0, none⟩))) fs) := by
  intro W k n hW hf hnz hk
  unfold ChkV
  rw [if_neg (by unfold bare; rintro (h | h | h) <;> omega), hf, hk, <- errV_pos n (by omega)]
  exact FaultAt.new W k n _ _ rfl hW
 have c0 : ((fs.length : Int) == 0) = false := by simp; intro h; exact h0 (by rw [h]; rfl)
 go_enter Tryz.func150, Tryz.ntmps150
 go_wp2_with fail
 go_loopw [18] (fun i wr => ∃ k : Nat, k <= fs.length /\ i = .int .i64 k /\ foldN fs = foldN (fs.drop k) /\ badAt fs = badAt (fs.drop k) + k /\ Below w.heap.size w wr) (fun i _ => fs.length - (intOf i).toNat)
 case atStart => exact ⟨0, Nat.zero_le _, rfl, rfl, rfl, Below.refl _ _⟩
 case round =>
 obtain ⟨k, hk, rfl, hN, hA, hb⟩ := hrel
 by_cases hlt : k < fs.length
 ·obtain ⟨f, hf⟩ : ∃ f, fs[k]? = some f := ⟨_, List.getElem?_eq_getElem hlt⟩
  obtain ⟨b, off, rfl, hbb, c0', c1⟩ := PC.out k f hf
  replace c0' := (hb.cell (p := ⟨b, off + k * 2, none⟩) hbb).trans c0'
  replace c1 := (hb.cell (p := ⟨b, off + k * 2 + 1, none⟩) hbb).trans c1
  obtain ⟨hl1, hl2⟩ := HL.out f (List.mem_of_getElem? hf)
  have hdrop : fs.drop k = f :: fs.drop (k + 1) := by
   rw [List.drop_eq_getElem_cons hlt]
   rw [List.getElem?_eq_getElem hlt] at hf
   rw [Option.some.inj hf]
  have hs1 := hb.size
  have hba := hb.alloc hs1 (.cells #[.string (B f.1), .string (B f.2)] 83)
  have hza : (wr.alloc (.cells #[.string (B f.1), .string (B f.2)] 83)).heap.size = wr.heap.size + 1 := by simp
  have CK := fun W => check_any f.1 f.2 hl1 hl2 W
  unfold fieldV at CK
  rw [hdrop] at hN hA
  by_cases hck : checkN f.1 f.2 = 0
  ·have G1 : Hid (foldN fs = foldN (fs.drop (k + 1))) := by
    show _ = _
    rw [hN]; show (if checkN f.1 f.2 = 0 then foldN (fs.drop (k + 1)) else _) = _; rw [if_pos hck]
   have G2 : Hid (badAt fs = badAt (fs.drop (k + 1)) + (k + 1)) := by
    show _ = _
    rw [hA]; show (if checkN f.1 f.2 = 0 then badAt (fs.drop (k + 1)) + 1 else _) + k = _; rw [if_pos hck]; omega
   rw [hck] at CK
   clear hdrop hN hA hf hck FINB FINZ PC HL
   go_wp2_with fail
   refine (CK _).mono ?_
   rintro e w2 ⟨rfl, b2⟩
   have hb2 := hba.trans (b2.mono (by omega))
   clear b2 CK
   go_wp2_with fail
   go_roundw
   case rel => exact ⟨k + 1, hlt, by go_num, G1.out, G2.out, hb2⟩
   case measure => simp [intOf]; omega
  have hfn : foldN fs = checkN f.1 f.2 := by rw [hN]; unfold foldN; rw [if_neg hck]
  have hbn : badAt fs = k := by rw [hA]; unfold badAt; rw [if_neg hck]; omega
  have FIN := Lib.hid (fun W hW => FINB.out W k (checkN f.1 f.2) hW hfn hck hbn)
  rw [errV_pos _ (Nat.pos_of_ne_zero hck)] at CK
  clear hdrop hN hA hf hck FINB FINZ PC HL hfn hbn
  generalize checkN f.1 f.2 = cn at *
  go_wp2_with fail
  refine (CK _).mono ?_
  rintro e w2 ⟨rfl, b2⟩
  have hb2 := hba.trans (b2.mono (by omega))
  have hz2 := hb2.size
  clear b2 CK
  go_wp2_with fail
  go_ret
  exact ⟨_, rfl, hb2.alloc hz2 _, FIN.out w2 hz2⟩
 obtain rfl : k = fs.length := by omega
 rw [List.drop_length] at hN
 have F0 := Lib.hid (fun W => FINZ.out W hN)
 clear hN hA FINB FINZ PC HL
 go_wp2_with fail
 go_ret
 exact ⟨_, rfl, hb, F0.out _⟩
end Go.Proofs.YtbkeoiefolkjfaaGreatDoor
namespace Go.Proofs.YtbkeoiefolkjfaaGreatDoor
open Go.RowKit Go.Shelf
attribute [local go_sem] errV_0
end Go.Proofs.YtbkeoiefolkjfaaGreatDoor
namespace Go.Proofs.YtbkeoiefolkjfaaGreatDoor
open Go.RowKit Go.Shelf
theorem OwnS.grow {w5 : World} {base g' cap' : Nat} {ls : List ByteArray} {y : ByteArray} {n : Nat} (h : w5.ownsRow base 9 1 (.slice (some ⟨g', 0, none⟩) (n + 1) cap') (n + 1) (ls.map Value.string ++ [Value.string y])) (hl : ls.length = n) : OwnS w5 base (.slice (some ⟨g', 0, none⟩) (n + 1) cap') (ls ++ [y]) := by
 unfold OwnS
 rw [List.length_append, List.map_append, hl]; exact h
theorem OwnS.form {w : World} {base : Nat} {v : Value} {ls : List ByteArray} (h : OwnS w base v ls) (hn : 0 < ls.length) : ∃ g cap, v = .slice (some ⟨g, 0, none⟩) ls.length cap /\ base <= g /\ g < w.heap.size := by
 obtain ⟨g, cap, e⟩ := Joins.ownsRow_form h hn
 have := World.ownsRow.lt h g (by rw [e]; rfl)
 exact ⟨g, cap, e, this⟩
theorem OwnS.cell {w : World} {base g cap n : Nat} {ls : List ByteArray} (h : OwnS w base (.slice (some ⟨g, 0, none⟩) n cap) ls) (hn : ls.length = n) (j : Nat) (x : ByteArray) (hx : ls[j]? = some x) : w.cell? ⟨g, j, none⟩ = some (.string x) := by
 subst hn
 have hj : j < ls.length := by
  rcases Nat.lt_or_ge j ls.length with q | q
  ·exact q
  rw [List.getElem?_eq_none q] at hx; cases hx
 rw [World.ownsRow.cellAt h j (by omega), List.getElem?_map, hx]; rfl
theorem refParts_any (l : List UInt8) (hl : l.length <= 1000000) (w : World) :
  Calls Tryz.prog 157 #[.string (B l)] w fun e w' => ∃ v, e = .returned v /\ OwnS w' w.heap.size v ((partsL l).map B) /\ Below w.heap.size w w' := by
 obtain ⟨i0, hi, hz0, hz1, hz2⟩ := info_parts infoStr
 have hsz := B_size l
 have hd := B_data l
 generalize B l = s at *
 have HD := Lib.hid hd
 go_enter Tryz.func157, Tryz.ntmps157
 go_wp2_with fail
 go_loopw [3, 4] (fun v i wr => ∃ k : Nat, k <= s.size /\ i = .int .i64 k /\ OwnS wr w.heap.size v ((partsL (l.take k)).map B) /\ (partsL (l.take k)).length <= k + 1 /\ Below w.heap.size w wr) (fun _ i _ => s.size - (intOf i).toNat)
 case atStart => exact ⟨0, Nat.zero_le _, rfl, OwnS.one w _ (Nat.le_refl _) _, by simp [partsL], (Below.refl _ _).alloc (Nat.le_refl _) _⟩
 case round =>
 obtain ⟨k, hk, rfl, hown, hlen, hb⟩ := hrel
 by_cases hlt : k < s.size
 ·have e : l[k]? = some s[k] := by
   rw [<- HD.out, List.getElem?_eq_getElem (by rw [<- Lib.size_eq]; exact hlt)]; rfl
  have htk : l.take (k + 1) = l.take k ++ [s[k]] := by rw [List.take_add_one, e]; rfl
  have hex : s.extract k (k + 1) = B [s[k]] := by
   rw [<- B_of (s.extract k (k + 1)), Lib.extract_data, HD.out]
   congr 1
   rw [show k + 1 - k = 1 by omega]
   have : (l.drop k)[0]? = some s[k] := by rw [List.getElem?_drop]; exact e
   cases hdl : l.drop k with
   | nil => rw [hdl] at this; simp at this
   | cons a b => rw [hdl] at this; simp at this; subst this; rfl
  have q2 := byte_eq (c := s[k]) (d := 10) 10 rfl
  have hs3 := hb.size
  have hn0 : 0 < ((partsL (l.take k)).map B).length := by rw [List.length_map]; exact List.length_pos_iff.2 (partsL_ne _)
  cases h5 : (s[k] == 10) with
  | true =>
   rw [h5] at q2
   have h10 : s[k] = 10 := by simpa using h5
   have T1 : Hid ((partsL (l.take (k + 1))).map B = (partsL (l.take k)).map B ++ [⟨#[]⟩]) := by
    show _ = _
    rw [htk, h10, partsL_snoc_nl, List.map_append]; rfl
   have T2 : Hid ((partsL (l.take (k + 1))).length = ((partsL (l.take k)).map B).length + 1) := by
    show _ = _
    rw [htk, h10, partsL_snoc_nl, List.length_append, List.length_map]; rfl
   rw [<- List.length_map (f := B)] at hlen
   clear htk hex h10 e h5 hd
   generalize (partsL (l.take k)).map B = ls at *
   obtain ⟨g, cap, rfl, hg1, hg2⟩ := hown.form hn0
   have HC := Lib.hid (strCell wr ⟨#[]⟩ 9)
   have hown4 : wr.ownsRow w.heap.size 9 1 (.slice (some ⟨g, 0, none⟩) ls.length cap) ls.length (ls.map Value.string) := hown
   obtain ⟨n, hn⟩ : ∃ n, ls.length = n := ⟨_, rfl⟩
   rw [hn] at hown4 hlen hn0
   have HN := Lib.hid hn
   simp only [hn]
   clear hown hn
   go_wp2_with (at_builtin; refine wpList_append_own _ rfl _ _ 100 rfl w.heap.size 9 i0 _ 1 16 Tryz.underlying100 hi hz0 hz1 hz2 rfl (by decide) _ _ _ rfl (hown4.alloc _) ⟨wr.heap.size, 0, none⟩ 1 1 _ rfl rfl HC.out ?c2 ?c3 ?c4 ?c5 ?_)
   case c2 => intro u hu; simp at hu; subst hu; rfl
   case c3 => unfold maxLen; omega
   case c4 => omega
   case c5 => simp; omega
   intro v' w5 hown' hgrow _
   obtain ⟨g', cap', rfl⟩ := ownsRow_succ hown'
   have hb5 : Below w.heap.size w w5 := (hb.alloc (by omega) _).grown hgrow (by simp; omega) (fun j ej => (hown4.lt j ej).1)
   have hown6 := OwnS.grow (ls := ls) (y := ⟨#[]⟩) hown' HN.out
   rw [<- T1.out] at hown6
   go_wp2_with fail
   go_roundw
   case rel => exact ⟨k + 1, hlt, by go_num, hown6, by rw [T2.out, HN.out]; omega, hb5⟩
   case measure => simp [intOf]; omega
  | false =>
  rw [h5] at q2
  have h10 : s[k] ≠ 10 := by simpa using h5
  obtain ⟨pre, p, p1, p2⟩ := partsL_snoc (l.take k) s[k] h10
  have hm : ((partsL (l.take k)).map B).length = pre.length + 1 := by rw [p1]; simp
  rw [p1, List.length_append] at hlen
  simp only [List.length_singleton] at hlen
  obtain ⟨g, cap, rfl, hg1, hg2⟩ := hown.form hn0
  rw [hm] at hown ⊢
  have hcell := hown.cell hm pre.length (B p) (by rw [p1, List.map_append, List.getElem?_append_right (by simp)]; simp)
  have hown4 : wr.ownsRow w.heap.size 9 1 (.slice (some ⟨g, 0, none⟩) (pre.length + 1) cap) (pre.length + 1) ((pre.map B).map Value.string ++ [.string (B p)]) := by
   have := hown
   unfold OwnS at this
   rw [hm, p1] at this
   simpa using this
  have hfz := hown4.frozenAt pre.length
  have hst := hown4.stored pre.length (.string (B p ++ B [s[k]]))
  rw [List.set_append_right _ _ (by simp)] at hst
  simp only [List.length_map, Nat.sub_self, List.set_cons_zero, B_append] at hst
  have T1 : Hid ((partsL (l.take (k + 1))).map B = pre.map B ++ [B (p ++ [s[k]])]) := by
   show _ = _
   rw [htk, p2, List.map_append]; rfl
  have T2 : Hid ((partsL (l.take (k + 1))).length = pre.length + 1) := by
   show _ = _
   rw [htk, p2, List.length_append]; rfl
  obtain ⟨hst1, hst2⟩ := hst
  have hown6 := OwnS.grow (ls := pre.map B) (y := B (p ++ [s[k]])) hst1 (by simp)
  rw [<- T1.out] at hown6
  have hb6 := hb.setCell (p := ⟨g, pre.length, none⟩) hg1 (.string (B (p ++ [s[k]])))
  have HB1 := Lib.hid hown6
  have HB2 := Lib.hid hb6
  have hpre : pre.length <= 1000000 := by omega
  have hwr : IntKind.i64.wrap (pre.length : Int) = pre.length := IntWalk.i64_in _ (by omega)
  have hlt2 : (pre.length : Int) < (pre.length : Int) + 1 := by omega
  have hwk : IntKind.i64.wrap ((k : Int) + 1) = (k : Int) + 1 := IntWalk.i64_in _ (by omega)
  have hk1 : (k : Int) + 1 <= (l.length : Int) := by omega
  have hk2 : (k : Int) <= (k : Int) + 1 := by omega
  have hk3 : (k : Int) + 1 <= (s.size : Int) := by omega
  have hba := B_append p [s[k]]
  have z1 := B_size p
  have z2 := B_size [s[k]]
  have hpl : p.length <= 1000000 := by
   have := (parts_le (l.take k)); rw [p1] at this; simp at this; omega
  simp only [List.length_singleton] at z2
  rw [<- hex] at hba z2
  clear hown hown4 hst1 hst2 hown6 hb6 p1 p2 htk e hd hm h10 hex
  have hcat : ¬ 9223372036854775807 < p.length + 1 := by omega
  generalize B (p ++ [s[k]]) = np at *
  generalize B p = bp at *
  go_wp2_with fail
  refine wp_region_still_tail 17 (by kernel_rfl) (by kernel_rfl) ?_
  simp only [List.take_succ_cons, List.take_zero, List.drop_succ_cons, List.drop_zero]
  repeat still_step
  refine wpStill_nil ?_
  change wpList _ _ _ _ _ wr.drew
  go_wp2_with fail
  go_roundw
  case rel => exact ⟨k + 1, hlt, by go_num, HB1.out, by rw [T2.out]; omega, HB2.out.drew⟩
  case measure => simp [intOf]; omega
 obtain rfl : k = s.size := by omega
 rw [List.take_of_length_le (by omega)] at hown
 go_wp2_with fail
 go_ret
 exact ⟨_, rfl, hown, hb⟩
end Go.Proofs.YtbkeoiefolkjfaaGreatDoor
namespace Go.Proofs.YtbkeoiefolkjfaaGreatDoor
open Go.RowKit Go.Shelf
theorem kind_clean {l : List UInt8} (h : (10 : UInt8) ∉ l) : (kindL l = 1 ↔ blankAll l = true) := by
 unfold kindL
 rw [hasB_not h, if_neg (by decide)]
 cases hb : blankAll l with
 | true => simp
 | false =>
 rw [if_neg (by decide)]
 constructor
 ·intro h
  split at h
  ·cases h
  split at h
  ·cases h
  split at h <;> cases h
 intro h; cases h
theorem refLines_any (k v : List UInt8) (hk : k.length <= 100000) (hv : v.length <= 100000) (w : World) :
  Calls Tryz.prog 129 #[fieldV k v] w fun e w' => ∃ sv base, e = .returned sv /\ OwnS w' base sv ((linesL k v).map B) /\ Below w.heap.size w w' := by
 obtain ⟨i0, hi, hz0, hz1, hz2⟩ := info_parts infoStr
 have PA := fun w => refParts_any v (by omega) w
 obtain ⟨p, r, hp⟩ : ∃ p r, partsL v = p :: r := ⟨_, _, partsL_cons v⟩
 rw [hp] at PA
 obtain ⟨z1, z2, z3⟩ := piece_le hp
 have hcl : ∀ q ∈ p :: r, (10 : UInt8) ∉ q := by rw [<- hp]; exact partsL_clean v
 have HL := Lib.hid (linesLen (k := k) hp)
 clear hp
 unfold fieldV
 have hzk := B_size k
 have h1 : (B k ++ ⟨#[58]⟩) = B (k ++ [58]) := B_append k [58]
 have h2 : (B (k ++ [58]) ++ ⟨#[32]⟩) = B ((k ++ [58]) ++ [32]) := B_append _ [32]
 have h3 : (B ((k ++ [58]) ++ [32]) ++ B p) = B (((k ++ [58]) ++ [32]) ++ p) := B_append _ p
 have y1 : (B (k ++ [58])).size = k.length + 1 := by rw [B_size]; simp
 have y2 : (B ((k ++ [58]) ++ [32])).size = k.length + 2 := by rw [B_size]; simp
 have hzp := B_size p
 have hfl1 : p = [] -> B (firstL k p) = B (k ++ [58]) := fun h => by unfold firstL; rw [if_pos h]
 have hfl2 : p ≠ [] -> B (firstL k p) = B (((k ++ [58]) ++ [32]) ++ p) := fun h => by unfold firstL; rw [if_neg h]; simp
 go_enter Tryz.func129, Tryz.ntmps129
 go_wp2_with fail
 refine (PA _).mono ?_
 rintro e w1 ⟨v1, rfl, hown, b1⟩
 obtain ⟨g, cap, rfl, hg1, hg2⟩ := hown.form (by simp)
 have c0 := b1.cell (p := ⟨w.heap.size, 0, none⟩) (by simp)
 have hb1 : Below w.heap.size w w1 := ((Below.refl _ _).alloc (Nat.le_refl _) _).trans (b1.mono (by simp))
 have PC : ∀ (j : Nat) x, (p :: r)[j]? = some x -> w1.cell? ⟨g, j, none⟩ = some (.string (B x)) := fun j x hx => hown.cell rfl j (B x) (by rw [List.getElem?_map, hx]; rfl)
 have e0 := PC 0 p rfl
 simp only [List.length_map, List.length_cons]
 simp only [World.cell?_alloc_at _ _ _ _ rfl] at c0
 have PCH := Lib.hid (fun (j : Nat) x (hx : r[j]? = some x) => PC (j + 1) x (by simpa using hx))
 have hcl2 := Lib.hid (fun q hq => hcl q (List.mem_cons_of_mem _ hq))
 have BW := Lib.hid hb1
 replace c0 : w1.cell? ⟨w.heap.size, 0, none⟩ = some (.string (B k)) := c0
 have hw1 := hb1.size
 clear PC PA b1 hown hg1 hcl hb1
 generalize hfl : B (firstL k p) = FL at *
 have HFL : Hid (((linesL k v).map B) = FL :: (r.map furtherL).map B) := by
  show _ = _
  rw [HL.out, List.map_cons, hfl]
 clear hfl HL
 have hpp : (p = [] /\ FL = B (k ++ [58])) \/ (p ≠ [] /\ FL = B (((k ++ [58]) ++ [32]) ++ p)) := by
  by_cases hpe : p = []
  ·exact .inl ⟨hpe, hfl1 hpe⟩
  exact .inr ⟨hpe, hfl2 hpe⟩
 clear hfl1 hfl2
 rcases hpp with ⟨hpe, hf⟩ | ⟨hpe, hf⟩
 ·subst hpe
  rw [show B [] = ⟨#[]⟩ from rfl] at *
  rw [<- hf] at h1
  clear hf h2 h3 y1 y2 hzp z1
  generalize B k = K at *
  go_wp2_with fail
  go_loopw [5, 6] (fun v5 i wr => ∃ n : Nat, n <= r.length /\ i = .int .i64 ((n : Int) + 1) /\ OwnS wr w1.heap.size v5 (FL :: ((r.take n).map furtherL).map B) /\ Below w1.heap.size w1 wr) (fun _ i _ => r.length + 1 - (intOf i).toNat)
  case atStart => exact ⟨0, Nat.zero_le _, rfl, OwnS.one w1 _ (Nat.le_refl _) _, (Below.refl _ _).alloc (Nat.le_refl _) _⟩
  case round =>
  obtain ⟨n, hn, rfl, hown, hb⟩ := hrel
  by_cases hlt : n < r.length
  ·obtain ⟨x, hx⟩ : ∃ x, r[n]? = some x := ⟨_, List.getElem?_eq_getElem hlt⟩
   have hcx := (hb.cell (p := ⟨g, n + 1, none⟩) hg2).trans (PCH.out n x hx)
   have hxm := List.mem_of_getElem? hx
   have hxl := z2 x hxm
   have hxc := hcl2.out x hxm
   have hxz := B_size x
   have RK := fun w => refKind_any (B x) (by omega) w
   rw [B_data] at RK
   have TK : Hid (FL :: ((r.take (n + 1)).map furtherL).map B = (FL :: ((r.take n).map furtherL).map B) ++ [B (furtherL x)]) := by
    show _ = _
    rw [List.take_add_one, hx]; simp
   have HLL : Hid ((FL :: ((r.take n).map furtherL).map B).length = n + 1) := by
    show _ = _
    simp; omega
   have hs3 := hb.size
   have kc := kind_clean hxc
   cases hbl : blankAll x with
   | true =>
    have hk1 := kc.2 hbl
    have hfx : ⟨#[32, 46]⟩ ++ B x = B (furtherL x) := by unfold furtherL dotted; rw [hbl]; exact B_append [32, 46] x
    rw [hk1] at RK
    clear hx hk1 kc hbl hxc hxm
    generalize (FL :: ((r.take n).map furtherL).map B) = ls at *
    generalize B (furtherL x) = Y at *
    generalize B x = X at *
    go_wp2_with fail
    refine (RK _).mono ?_
    rintro e w4 ⟨rfl, b4⟩
    have hcx4 := (b4.cell (p := ⟨g, n + 1, none⟩) (Nat.lt_of_lt_of_le hg2 hs3)).trans hcx
    have hown4 : w4.ownsRow w1.heap.size 9 1 u5 (n + 1) (ls.map Value.string) := by rw [<- HLL.out]; exact hown.kept b4 (Nat.le_refl _)
    have hs4 := b4.size
    have HC := Lib.hid (strCell w4 Y 9)
    have hb4 : Below w1.heap.size w1 w4 := hb.trans (b4.mono hs3)
    clear hown b4 hcx
    go_wp2_with (at_builtin; refine wpList_append_own _ rfl _ _ 100 rfl w1.heap.size 9 i0 _ 1 16 Tryz.underlying100 hi hz0 hz1 hz2 rfl (by decide) _ _ _ rfl (hown4.alloc _) ⟨w4.heap.size, 0, none⟩ 1 1 _ rfl rfl HC.out ?c2 ?c3 ?c4 ?c5 ?_)
    case c2 => intro u hu; simp at hu; subst hu; rfl
    case c3 => unfold maxLen; omega
    case c4 => omega
    case c5 => simp; omega
    intro v' w5 hown' hgrow _
    obtain ⟨g', cap', rfl⟩ := ownsRow_succ hown'
    have hb5 : Below w1.heap.size w1 w5 := (hb4.alloc (by omega) _).grown hgrow (by simp; omega) (fun j ej => (hown4.lt j ej).1)
    have hown6 := OwnS.grow (ls := ls) (y := Y) hown' HLL.out
    rw [<- TK.out] at hown6
    go_wp2_with fail
    go_roundw
    case rel => exact ⟨n + 1, hlt, by go_num, hown6, hb5⟩
    case measure => simp [intOf]; omega
   | false =>
   have hk1 : kindL x ≠ 1 := fun e => by rw [kc.1 e] at hbl; cases hbl
   obtain ⟨c, t, rfl⟩ := all_blank_cons hbl
   have hki : ((kindL (c :: t) : Int) == 1) = false := by rw [beq_eq_false_iff_ne]; omega
   have q2 := byte_eq (c := c) (d := 46) 46 rfl
   have hXc : ∀ h : 0 < (B (c :: t)).size, (B (c :: t))[0]'h = c := fun _ => rfl
   have hxz2 : (B (c :: t)).size = t.length + 1 := hxz
   have htl : t.length <= 1000000 := by simp only [List.length_cons] at hxl; omega
   have hxp : 0 < (B (c :: t)).size := by omega
   clear hxz
   by_cases hc : c = 46
   ·have hfx : ⟨#[32, 46]⟩ ++ B (c :: t) = B (furtherL (c :: t)) := by unfold furtherL dotted; rw [hc]; simp; exact B_append [32, 46] (46 :: t)
    have hcb : (c == 46) = true := by simp [hc]
    rw [hcb] at q2
    clear hx hk1 kc hbl hxc hxm hc
    generalize (FL :: ((r.take n).map furtherL).map B) = ls at *
    generalize kindL (c :: t) = kx at *
    generalize B (furtherL (c :: t)) = Y at *
    generalize B (c :: t) = X at *
    go_wp2_with fail
    refine (RK _).mono ?_
    rintro e w4 ⟨rfl, b4⟩
    have hcx4 := (b4.cell (p := ⟨g, n + 1, none⟩) (Nat.lt_of_lt_of_le hg2 hs3)).trans hcx
    have hown4 : w4.ownsRow w1.heap.size 9 1 u5 (n + 1) (ls.map Value.string) := by rw [<- HLL.out]; exact hown.kept b4 (Nat.le_refl _)
    have hs4 := b4.size
    have HC := Lib.hid (strCell w4 Y 9)
    have hb4 : Below w1.heap.size w1 w4 := hb.trans (b4.mono hs3)
    clear hown b4 hcx
    go_wp2_with (at_builtin; refine wpList_append_own _ rfl _ _ 100 rfl w1.heap.size 9 i0 _ 1 16 Tryz.underlying100 hi hz0 hz1 hz2 rfl (by decide) _ _ _ rfl (hown4.alloc _) ⟨w4.heap.size, 0, none⟩ 1 1 _ rfl rfl HC.out ?c2 ?c3 ?c4 ?c5 ?_)
    case c2 => intro u hu; simp at hu; subst hu; rfl
    case c3 => unfold maxLen; omega
    case c4 => omega
    case c5 => simp; omega
    intro v' w5 hown' hgrow _
    obtain ⟨g', cap', rfl⟩ := ownsRow_succ hown'
    have hb5 : Below w1.heap.size w1 w5 := (hb4.alloc (by omega) _).grown hgrow (by simp; omega) (fun j ej => (hown4.lt j ej).1)
    have hown6 := OwnS.grow (ls := ls) (y := Y) hown' HLL.out
    rw [<- TK.out] at hown6
    go_wp2_with fail
    go_roundw
    case rel => exact ⟨n + 1, hlt, by go_num, hown6, hb5⟩
    case measure => simp [intOf]; omega
   have hfx : ⟨#[32]⟩ ++ B (c :: t) = B (furtherL (c :: t)) := by unfold furtherL dotted; rw [hbl]; simp [hc]; exact B_append [32] (c :: t)
   have hcb : (c == 46) = false := by simp [hc]
   rw [hcb] at q2
   clear hx hk1 kc hbl hxc hxm hc
   generalize (FL :: ((r.take n).map furtherL).map B) = ls at *
   generalize kindL (c :: t) = kx at *
   generalize B (furtherL (c :: t)) = Y at *
   generalize B (c :: t) = X at *
   go_wp2_with fail
   refine (RK _).mono ?_
   rintro e w4 ⟨rfl, b4⟩
   have hcx4 := (b4.cell (p := ⟨g, n + 1, none⟩) (Nat.lt_of_lt_of_le hg2 hs3)).trans hcx
   have hown4 : w4.ownsRow w1.heap.size 9 1 u5 (n + 1) (ls.map Value.string) := by rw [<- HLL.out]; exact hown.kept b4 (Nat.le_refl _)
   have hs4 := b4.size
   have HC := Lib.hid (strCell w4 Y 9)
   have hb4 : Below w1.heap.size w1 w4 := hb.trans (b4.mono hs3)
   clear hown b4 hcx
   go_wp2_with (at_builtin; refine wpList_append_own _ rfl _ _ 100 rfl w1.heap.size 9 i0 _ 1 16 Tryz.underlying100 hi hz0 hz1 hz2 rfl (by decide) _ _ _ rfl (hown4.alloc _) ⟨w4.heap.size, 0, none⟩ 1 1 _ rfl rfl HC.out ?c2 ?c3 ?c4 ?c5 ?_)
   case c2 => intro u hu; simp at hu; subst hu; rfl
   case c3 => unfold maxLen; omega
   case c4 => omega
   case c5 => simp; omega
   intro v' w5 hown' hgrow _
   obtain ⟨g', cap', rfl⟩ := ownsRow_succ hown'
   have hb5 : Below w1.heap.size w1 w5 := (hb4.alloc (by omega) _).grown hgrow (by simp; omega) (fun j ej => (hown4.lt j ej).1)
   have hown6 := OwnS.grow (ls := ls) (y := Y) hown' HLL.out
   rw [<- TK.out] at hown6
   go_wp2_with fail
   go_roundw
   case rel => exact ⟨n + 1, hlt, by go_num, hown6, hb5⟩
   case measure => simp [intOf]; omega
  obtain rfl : n = r.length := by omega
  rw [List.take_length] at hown
  go_wp2_with fail
  go_ret
  exact ⟨_, _, rfl, by rw [HFL.out]; exact hown, BW.out.trans (hb.mono hw1)⟩
 obtain ⟨n1, n2⟩ := B_empty hpe
 rw [<- hf] at h3
 clear hf hpe
 generalize B k = K at *
 generalize B (k ++ [58]) = K1 at *
 generalize B ((k ++ [58]) ++ [32]) = K2 at *
 generalize B p = P at *
 go_wp2_with fail
 clear h1 h2 h3 y1 y2 hzp n1 n2
 go_loopw [5, 6] (fun v5 i wr => ∃ n : Nat, n <= r.length /\ i = .int .i64 ((n : Int) + 1) /\ OwnS wr w1.heap.size v5 (FL :: ((r.take n).map furtherL).map B) /\ Below w1.heap.size w1 wr) (fun _ i _ => r.length + 1 - (intOf i).toNat)
 case atStart => exact ⟨0, Nat.zero_le _, rfl, OwnS.one w1 _ (Nat.le_refl _) _, (Below.refl _ _).alloc (Nat.le_refl _) _⟩
 case round =>
 obtain ⟨n, hn, rfl, hown, hb⟩ := hrel
 by_cases hlt : n < r.length
 ·obtain ⟨x, hx⟩ : ∃ x, r[n]? = some x := ⟨_, List.getElem?_eq_getElem hlt⟩
  have hcx := (hb.cell (p := ⟨g, n + 1, none⟩) hg2).trans (PCH.out n x hx)
  have hxm := List.mem_of_getElem? hx
  have hxl := z2 x hxm
  have hxc := hcl2.out x hxm
  have hxz := B_size x
  have RK := fun w => refKind_any (B x) (by omega) w
  rw [B_data] at RK
  have TK : Hid (FL :: ((r.take (n + 1)).map furtherL).map B = (FL :: ((r.take n).map furtherL).map B) ++ [B (furtherL x)]) := by
   show _ = _
   rw [List.take_add_one, hx]; simp
  have HLL : Hid ((FL :: ((r.take n).map furtherL).map B).length = n + 1) := by
   show _ = _
   simp; omega
  have hs3 := hb.size
  have kc := kind_clean hxc
  cases hbl : blankAll x with
  | true =>
   have hk1 := kc.2 hbl
   have hfx : ⟨#[32, 46]⟩ ++ B x = B (furtherL x) := by unfold furtherL dotted; rw [hbl]; exact B_append [32, 46] x
   rw [hk1] at RK
   clear hx hk1 kc hbl hxc hxm
   generalize (FL :: ((r.take n).map furtherL).map B) = ls at *
   generalize B (furtherL x) = Y at *
   generalize B x = X at *
   go_wp2_with fail
   refine (RK _).mono ?_
   rintro e w4 ⟨rfl, b4⟩
   have hcx4 := (b4.cell (p := ⟨g, n + 1, none⟩) (Nat.lt_of_lt_of_le hg2 hs3)).trans hcx
   have hown4 : w4.ownsRow w1.heap.size 9 1 u5 (n + 1) (ls.map Value.string) := by rw [<- HLL.out]; exact hown.kept b4 (Nat.le_refl _)
   have hs4 := b4.size
   have HC := Lib.hid (strCell w4 Y 9)
   have hb4 : Below w1.heap.size w1 w4 := hb.trans (b4.mono hs3)
   clear hown b4 hcx
   go_wp2_with (at_builtin; refine wpList_append_own _ rfl _ _ 100 rfl w1.heap.size 9 i0 _ 1 16 Tryz.underlying100 hi hz0 hz1 hz2 rfl (by decide) _ _ _ rfl (hown4.alloc _) ⟨w4.heap.size, 0, none⟩ 1 1 _ rfl rfl HC.out ?c2 ?c3 ?c4 ?c5 ?_)
   case c2 => intro u hu; simp at hu; subst hu; rfl
   case c3 => unfold maxLen; omega
   case c4 => omega
   case c5 => simp; omega
   intro v' w5 hown' hgrow _
   obtain ⟨g', cap', rfl⟩ := ownsRow_succ hown'
   have hb5 : Below w1.heap.size w1 w5 := (hb4.alloc (by omega) _).grown hgrow (by simp; omega) (fun j ej => (hown4.lt j ej).1)
   have hown6 := OwnS.grow (ls := ls) (y := Y) hown' HLL.out
   rw [<- TK.out] at hown6
   go_wp2_with fail
   go_roundw
   case rel => exact ⟨n + 1, hlt, by go_num, hown6, hb5⟩
   case measure => simp [intOf]; omega
  | false =>
  have hk1 : kindL x ≠ 1 := fun e => by rw [kc.1 e] at hbl; cases hbl
  obtain ⟨c, t, rfl⟩ := all_blank_cons hbl
  have hki : ((kindL (c :: t) : Int) == 1) = false := by rw [beq_eq_false_iff_ne]; omega
  have q2 := byte_eq (c := c) (d := 46) 46 rfl
  have hXc : ∀ h : 0 < (B (c :: t)).size, (B (c :: t))[0]'h = c := fun _ => rfl
  have hxz2 : (B (c :: t)).size = t.length + 1 := hxz
  have htl : t.length <= 1000000 := by simp only [List.length_cons] at hxl; omega
  have hxp : 0 < (B (c :: t)).size := by omega
  clear hxz
  by_cases hc : c = 46
  ·have hfx : ⟨#[32, 46]⟩ ++ B (c :: t) = B (furtherL (c :: t)) := by unfold furtherL dotted; rw [hc]; simp; exact B_append [32, 46] (46 :: t)
   have hcb : (c == 46) = true := by simp [hc]
   rw [hcb] at q2
   clear hx hk1 kc hbl hxc hxm hc
   generalize (FL :: ((r.take n).map furtherL).map B) = ls at *
   generalize kindL (c :: t) = kx at *
   generalize B (furtherL (c :: t)) = Y at *
   generalize B (c :: t) = X at *
   go_wp2_with fail
   refine (RK _).mono ?_
   rintro e w4 ⟨rfl, b4⟩
   have hcx4 := (b4.cell (p := ⟨g, n + 1, none⟩) (Nat.lt_of_lt_of_le hg2 hs3)).trans hcx
   have hown4 : w4.ownsRow w1.heap.size 9 1 u5 (n + 1) (ls.map Value.string) := by rw [<- HLL.out]; exact hown.kept b4 (Nat.le_refl _)
   have hs4 := b4.size
   have HC := Lib.hid (strCell w4 Y 9)
   have hb4 : Below w1.heap.size w1 w4 := hb.trans (b4.mono hs3)
   clear hown b4 hcx
   go_wp2_with (at_builtin; refine wpList_append_own _ rfl _ _ 100 rfl w1.heap.size 9 i0 _ 1 16 Tryz.underlying100 hi hz0 hz1 hz2 rfl (by decide) _ _ _ rfl (hown4.alloc _) ⟨w4.heap.size, 0, none⟩ 1 1 _ rfl rfl HC.out ?c2 ?c3 ?c4 ?c5 ?_)
   case c2 => intro u hu; simp at hu; subst hu; rfl
   case c3 => unfold maxLen; omega
   case c4 => omega
   case c5 => simp; omega
   intro v' w5 hown' hgrow _
   obtain ⟨g', cap', rfl⟩ := ownsRow_succ hown'
   have hb5 : Below w1.heap.size w1 w5 := (hb4.alloc (by omega) _).grown hgrow (by simp; omega) (fun j ej => (hown4.lt j ej).1)
   have hown6 := OwnS.grow (ls := ls) (y := Y) hown' HLL.out
   rw [<- TK.out] at hown6
   go_wp2_with fail
   go_roundw
   case rel => exact ⟨n + 1, hlt, by go_num, hown6, hb5⟩
   case measure => simp [intOf]; omega
  have hfx : ⟨#[32]⟩ ++ B (c :: t) = B (furtherL (c :: t)) := by unfold furtherL dotted; rw [hbl]; simp [hc]; exact B_append [32] (c :: t)
  have hcb : (c == 46) = false := by simp [hc]
  rw [hcb] at q2
  clear hx hk1 kc hbl hxc hxm hc
  generalize (FL :: ((r.take n).map furtherL).map B) = ls at *
  generalize kindL (c :: t) = kx at *
  generalize B (furtherL (c :: t)) = Y at *
  generalize B (c :: t) = X at *
  go_wp2_with fail
  refine (RK _).mono ?_
  rintro e w4 ⟨rfl, b4⟩
  have hcx4 := (b4.cell (p := ⟨g, n + 1, none⟩) (Nat.lt_of_lt_of_le hg2 hs3)).trans hcx
  have hown4 : w4.ownsRow w1.heap.size 9 1 u5 (n + 1) (ls.map Value.string) := by rw [<- HLL.out]; exact hown.kept b4 (Nat.le_refl _)
  have hs4 := b4.size
  have HC := Lib.hid (strCell w4 Y 9)
  have hb4 : Below w1.heap.size w1 w4 := hb.trans (b4.mono hs3)
  clear hown b4 hcx
  go_wp2_with (at_builtin; refine wpList_append_own _ rfl _ _ 100 rfl w1.heap.size 9 i0 _ 1 16 Tryz.underlying100 hi hz0 hz1 hz2 rfl (by decide) _ _ _ rfl (hown4.alloc _) ⟨w4.heap.size, 0, none⟩ 1 1 _ rfl rfl HC.out ?c2 ?c3 ?c4 ?c5 ?_)
  case c2 => intro u hu; simp at hu; subst hu; rfl
  case c3 => unfold maxLen; omega
  case c4 => omega
  case c5 => simp; omega
  intro v' w5 hown' hgrow _
  obtain ⟨g', cap', rfl⟩ := ownsRow_succ hown'
  have hb5 : Below w1.heap.size w1 w5 := (hb4.alloc (by omega) _).grown hgrow (by simp; omega) (fun j ej => (hown4.lt j ej).1)
  have hown6 := OwnS.grow (ls := ls) (y := Y) hown' HLL.out
  rw [<- TK.out] at hown6
  go_wp2_with fail
  go_roundw
  case rel => exact ⟨n + 1, hlt, by go_num, hown6, hb5⟩
  case measure => simp [intOf]; omega
 obtain rfl : n = r.length := by omega
 rw [List.take_length] at hown
 go_wp2_with fail
 go_ret
 exact ⟨_, _, rfl, by rw [HFL.out]; exact hown, BW.out.trans (hb.mono hw1)⟩
end Go.Proofs.YtbkeoiefolkjfaaGreatDoor
namespace Go.Proofs.YtbkeoiefolkjfaaGreatDoor
open Go.RowKit Go.Shelf
theorem text_any_le (k v : List UInt8) (hk : k.length <= 100000) (hv : v.length <= 100000) : (textL (linesL k v)).length <= 500000 := by
 rw [textL_len]
 have := lines_sum k v
 omega
theorem refFold_any (fs : List (List UInt8 × List UInt8)) (v : Value) (w : World) (hs : Flds w v fs) (hn : fs.length <= 1000) (hl : ∀ f ∈ fs, f.1.length <= 100000 /\ f.2.length <= 100000) :
  Calls Tryz.prog 95 #[v] w fun e w' => e = .returned (.string (B (foldG fs))) /\ Below w.heap.size w w' := by
 obtain ⟨A, cap, rfl, hle, hc⟩ := hs
 have PC := Lib.hid hc
 clear hc
 go_enter Tryz.func95, Tryz.ntmps95
 go_wp2_with fail
 go_loopw [3, 4] (fun s i wr => ∃ k : Nat, k <= fs.length /\ i = .int .i64 k /\ s = .string (B (foldG (fs.take k))) /\ (foldG (fs.take k)).length <= 500000 * k /\ Below w.heap.size w wr) (fun _ i _ => fs.length - (intOf i).toNat)
 case atStart => exact ⟨0, Nat.zero_le _, rfl, rfl, Nat.le_refl _, Below.refl _ _⟩
 case round =>
 obtain ⟨k, hk, rfl, rfl, hlen, hb⟩ := hrel
 by_cases hlt : k < fs.length
 ·obtain ⟨f, hf⟩ : ∃ f, fs[k]? = some f := ⟨_, List.getElem?_eq_getElem hlt⟩
  obtain ⟨b, off, rfl, hbb, c0, c1⟩ := PC.out k f hf
  replace c0 := (hb.cell (p := ⟨b, off + k * 2, none⟩) hbb).trans c0
  replace c1 := (hb.cell (p := ⟨b, off + k * 2 + 1, none⟩) hbb).trans c1
  obtain ⟨hl1, hl2⟩ := hl f (List.mem_of_getElem? hf)
  have htake : fs.take (k + 1) = fs.take k ++ [f] := by rw [List.take_add_one, hf]; rfl
  have G1 : Hid (foldG (fs.take (k + 1)) = foldG (fs.take k) ++ textL (linesL f.1 f.2)) := by
   show _ = _
   rw [htake, foldG_snoc]
  have RL := fun w => refLines_any f.1 f.2 hl1 hl2 w
  have htl := text_any_le f.1 f.2 hl1 hl2
  have hm1 : 1 <= (linesL f.1 f.2).length := by rw [linesL_len]; omega
  have hm2 : (linesL f.1 f.2).length <= 500000 := by rw [textL_len] at htl; omega
  unfold fieldV at RL
  clear htake hf
  generalize foldG (fs.take k) = pre at *
  go_wp2_with fail
  refine (RL _).mono ?_
  rintro e w2 ⟨sv, base, rfl, hown, b2⟩
  have hb2 := hb.trans (b2.mono hb.size)
  obtain ⟨g, cap', rfl, _, _⟩ := hown.form (by simp; omega)
  have CL := Lib.hid (fun (j : Nat) x (hx : (linesL f.1 f.2)[j]? = some x) => hown.cell rfl j (B x) (by rw [List.getElem?_map, hx]; rfl))
  rw [List.length_map] at *
  clear hown b2 RL
  generalize linesL f.1 f.2 = ls at *
  go_wp2_with fail
  go_loopw [3, 19] (fun s i wq => ∃ j : Nat, j <= ls.length /\ i = .int .i64 j /\ s = .string (B (pre ++ textL (ls.take j))) /\ w2 = wq) (fun _ i _ => ls.length - (intOf i).toNat)
  case atStart => exact ⟨0, Nat.zero_le _, rfl, by simp [textL], rfl⟩
  case round =>
  obtain ⟨j, hj, rfl, rfl, rfl⟩ := hrel
  by_cases hjl : j < ls.length
  ·obtain ⟨x, hx⟩ : ∃ x, ls[j]? = some x := ⟨_, List.getElem?_eq_getElem hjl⟩
   have hcx := CL.out j x hx
   have T1 : Hid (B (pre ++ textL (ls.take (j + 1))) = (B (pre ++ textL (ls.take j)) ++ B x) ++ ⟨#[10]⟩) := by
    show _ = _
    rw [List.take_add_one, hx, show (some x).toList = [x] from rfl, textL_snoc, show (⟨#[10]⟩ : ByteArray) = B [10] from rfl, B_append, B_append]; simp
   have t1 := textL_take ls (j + 1)
   rw [List.take_add_one, hx, show (some x).toList = [x] from rfl, textL_snoc, List.length_append, List.length_append] at t1
   simp only [List.length_singleton] at t1
   have y1 := B_size (pre ++ textL (ls.take j))
   rw [List.length_append] at y1
   have y2 := B_size x
   have y3 : (B (pre ++ textL (ls.take j)) ++ B x).size = pre.length + (textL (ls.take j)).length + x.length := by
    rw [B_append, B_size, List.length_append, List.length_append]
   clear hx
   generalize B (pre ++ textL (ls.take j)) = acc at *
   generalize B x = X at *
   go_wp2_with fail
   go_roundw
   case rel => exact ⟨j + 1, hjl, by go_num, by rw [T1.out], trivial⟩
   case measure => simp [intOf]; omega
  obtain rfl : j = ls.length := by omega
  rw [List.take_length]
  go_wp2_with fail
  go_roundw
  case rel =>
   refine ⟨k + 1, hlt, by go_num, by rw [G1.out], ?_, hb2⟩
   rw [G1.out, List.length_append]; omega
  case measure => simp [intOf]; omega
 obtain rfl : k = fs.length := by omega
 rw [List.take_length]
 go_wp2_with fail
 go_ret
 exact ⟨rfl, hb⟩
end Go.Proofs.YtbkeoiefolkjfaaGreatDoor
namespace Go.Proofs.YtbkeoiefolkjfaaGreatDoor
open Go.RowKit Go.Shelf
attribute [local go_sem] errV_0
theorem refChk_any (fs : List Fld) (v : Value) (w : World) (hs : Flds w v fs) (hn : fs.length <= 1000000) (hl : ∀ f ∈ fs, f.1.length <= 1000000 /\ f.2.length <= 1000000) :
  Calls Tryz.prog 128 #[v] w fun e w' => e = .returned (.tuple #[.int .i64 (chkAt fs), .int .i64 (chkN fs : Nat)]) /\ Below w.heap.size w w' := by
 obtain ⟨A, cap, rfl, hle, hc⟩ := hs
 have PC := Lib.hid hc
 have HL := Lib.hid hl
 clear hc hl
 by_cases h0 : fs.length = 0
 ·have e1 : chkAt fs = -9 := by unfold chkAt; rw [if_pos (.inl h0)]
  have e2 : chkN fs = 2 := by unfold chkN; rw [if_pos h0]
  rw [e1, e2, h0]
  go_enter Tryz.func128, Tryz.ntmps128
  go_wp2_with fail
  go_ret2
  exact ⟨rfl, Below.refl _ _⟩
 have c0 : ((fs.length : Int) == 0) = false := by simp; intro h; exact h0 (by rw [h]; rfl)
 by_cases h40 : 40 < fs.length
 ·have e1 : chkAt fs = -9 := by unfold chkAt; rw [if_pos (.inr (.inl h40))]
  have e2 : chkN fs = 11 := by unfold chkN; rw [if_neg h0, if_pos h40]
  rw [e1, e2]
  go_enter Tryz.func128, Tryz.ntmps128
  go_wp2_with fail
  go_ret2
  exact ⟨rfl, Below.refl _ _⟩
 have e2 : chkN fs = foldN fs := by unfold chkN; rw [if_neg h0, if_neg h40]
 have FINZ : Hid (foldN fs = 0 -> chkAt fs = -9 /\ chkN fs = 0) := by
  intro hz
  exact ⟨by unfold chkAt; rw [if_pos (.inr (.inr hz))], by rw [e2, hz]⟩
 have FINB : Hid (∀ (k n : Nat), foldN fs = n -> n ≠ 0 -> badAt fs = k -> chkAt fs = (k : Nat) /\ chkN fs = n) := by
  intro k n hf hnz hk
  refine ⟨?_, by rw [e2, hf]⟩
  unfold chkAt
  rw [if_neg (by unfold bare; rintro (h | h | h) <;> omega), hk]
 clear e2
 go_enter Tryz.func128, Tryz.ntmps128
 go_wp2_with fail
 go_loopw [4] (fun i wr => ∃ k : Nat, k <= fs.length /\ i = .int .i64 k /\ foldN fs = foldN (fs.drop k) /\ badAt fs = badAt (fs.drop k) + k /\ Below w.heap.size w wr) (fun i _ => fs.length - (intOf i).toNat)
 case atStart => exact ⟨0, Nat.zero_le _, rfl, rfl, rfl, Below.refl _ _⟩
 case round =>
 obtain ⟨k, hk, rfl, hN, hA, hb⟩ := hrel
 by_cases hlt : k < fs.length
 ·obtain ⟨f, hf⟩ : ∃ f, fs[k]? = some f := ⟨_, List.getElem?_eq_getElem hlt⟩
  obtain ⟨b, off, rfl, hbb, c0', c1⟩ := PC.out k f hf
  replace c0' := (hb.cell (p := ⟨b, off + k * 2, none⟩) hbb).trans c0'
  replace c1 := (hb.cell (p := ⟨b, off + k * 2 + 1, none⟩) hbb).trans c1
  obtain ⟨hl1, hl2⟩ := HL.out f (List.mem_of_getElem? hf)
  have hdrop : fs.drop k = f :: fs.drop (k + 1) := by
   rw [List.drop_eq_getElem_cons hlt]
   rw [List.getElem?_eq_getElem hlt] at hf
   rw [Option.some.inj hf]
  have hs1 := hb.size
  have CK := fun W => refCheck_any f.1 f.2 hl1 hl2 W
  unfold fieldV at CK
  rw [hdrop] at hN hA
  by_cases hck : checkN f.1 f.2 = 0
  ·have G1 : Hid (foldN fs = foldN (fs.drop (k + 1))) := by
    show _ = _
    rw [hN]; show (if checkN f.1 f.2 = 0 then foldN (fs.drop (k + 1)) else _) = _; rw [if_pos hck]
   have G2 : Hid (badAt fs = badAt (fs.drop (k + 1)) + (k + 1)) := by
    show _ = _
    rw [hA]; show (if checkN f.1 f.2 = 0 then badAt (fs.drop (k + 1)) + 1 else _) + k = _; rw [if_pos hck]; omega
   rw [hck] at CK
   clear hdrop hN hA hf hck FINB FINZ PC HL
   go_wp2_with fail
   refine (CK _).mono ?_
   rintro e w2 ⟨rfl, b2⟩
   have hb2 := hb.trans (b2.mono hs1)
   clear b2 CK
   go_wp2_with fail
   go_roundw
   case rel => exact ⟨k + 1, hlt, by go_num, G1.out, G2.out, hb2⟩
   case measure => simp [intOf]; omega
  have hfn : foldN fs = checkN f.1 f.2 := by rw [hN]; unfold foldN; rw [if_neg hck]
  have hbn : badAt fs = k := by rw [hA]; unfold badAt; rw [if_neg hck]; omega
  obtain ⟨F1, F2⟩ := FINB.out k (checkN f.1 f.2) hfn hck hbn
  have hcn : ((checkN f.1 f.2 : Int) != 0) = true := by simp; omega
  have FH1 := Lib.hid F1
  have FH2 := Lib.hid F2
  clear hdrop hN hA hf FINB FINZ PC HL hfn hbn F1 F2
  generalize checkN f.1 f.2 = cn at *
  go_wp2_with fail
  refine (CK _).mono ?_
  rintro e w2 ⟨rfl, b2⟩
  have hb2 := hb.trans (b2.mono hs1)
  clear b2 CK
  go_wp2_with fail
  go_ret2
  exact ⟨by rw [FH1.out, FH2.out]; rfl, hb2⟩
 obtain rfl : k = fs.length := by omega
 rw [List.drop_length] at hN
 obtain ⟨F1, F2⟩ := FINZ.out hN
 have FH1 := Lib.hid F1
 have FH2 := Lib.hid F2
 clear hN hA FINB FINZ PC HL F1 F2
 go_wp2_with fail
 go_ret2
 exact ⟨by rw [FH1.out, FH2.out]; rfl, hb⟩
end Go.Proofs.YtbkeoiefolkjfaaGreatDoor
namespace Go.Proofs.YtbkeoiefolkjfaaGreatDoor
open Go.RowKit Go.Shelf
attribute [local go_sem] errV_0
end Go.Proofs.YtbkeoiefolkjfaaGreatDoor
namespace Go.Proofs.YtbkeoiefolkjfaaGreatDoor
end Go.Proofs.YtbkeoiefolkjfaaGreatDoor
namespace Go.Proofs.YtbkeoiefolkjfaaGreatDoor
abbrev En := It × Int
section
variable {α : Type} {κ : α -> Int}
end
def lenR (es : List En) : Nat := (es.filter fun e => decide (0 < e.2)).length
end Go.Proofs.YtbkeoiefolkjfaaGreatDoor
namespace Go.Proofs.YtbkeoiefolkjfaaGreatDoor
open Go.RowKit Go.Shelf
variable {P : Program}
end Go.Proofs.YtbkeoiefolkjfaaGreatDoor
