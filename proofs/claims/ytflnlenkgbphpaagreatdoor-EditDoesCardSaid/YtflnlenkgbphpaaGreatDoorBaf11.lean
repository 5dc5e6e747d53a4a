/- Texts put together: TB, TC, FP, FQ, FR, TD, TE, TL, UA, UK. -/
import Derived.Test.YtflnlenkgbphpaaGreatDoorBaf3
import Derived.Test.YtflnlenkgbphpaaGreatDoorBaf7
import Derived.Test.YtflnlenkgbphpaaGreatDoorBaf8
import Derived.Test.YtflnlenkgbphpaaGreatDoorBaf9
import Derived.Test.YtflnlenkgbphpaaGreatDoorBaf10
set_option linter.unusedVariables false
namespace Go.Proofs.YtflnlenkgbphpaaGreatDoor
open Go.RowKit Go.Shelf

/-- The first field that isn't good. -/
def badAt : List Fld → Nat
  | [] => 0
  | f :: r => if checkN f.1 f.2 = 0 then badAt r + 1 else 0
def chkN (fs : List Fld) : Nat := if fs.length = 0 then 2 else if 40 < fs.length then 11 else foldN fs
def bare (fs : List Fld) : Prop := fs.length = 0 ∨ 40 < fs.length ∨ foldN fs = 0
instance (fs : List Fld) : Decidable (bare fs) := by unfold bare; infer_instance
def chkAt (fs : List Fld) : Int := if bare fs then -9 else (badAt fs : Nat)
/-- Check's answer, in memory. -/
def ChkV (lo : Nat) (w : World) (u : Value) (fs : List Fld) : Prop := if bare fs then u = errV (chkN fs) else FaultAt lo w u (badAt fs) (foldN fs)
theorem chkN_le (fs : List Fld) : chkN fs ≤ 11 := by
  unfold chkN
  have := foldN_le fs
  split
  · decide
  · split
    · decide
    · omega
theorem chkN_zero {fs : List Fld} (h : chkN fs = 0) : fs.length ≠ 0 ∧ fs.length ≤ 40 ∧ foldN fs = 0 := by
  unfold chkN at h
  split at h
  · cases h
  · split at h
    · cases h
    · exact ⟨by assumption, by omega, h⟩
theorem ChkV.zero {lo : Nat} {w : World} {u : Value} {fs : List Fld} (h : ChkV lo w u fs) (h0 : chkN fs = 0) : u = .nilIface := by
  obtain ⟨_, _, c⟩ := chkN_zero h0
  unfold ChkV at h
  rw [if_pos (.inr (.inr c)), h0] at h
  exact h
theorem ChkV.pos {lo : Nat} {w : World} {u : Value} {fs : List Fld} (h : ChkV lo w u fs) (h0 : chkN fs ≠ 0) : u = .iface 70 (.int .i64 (chkN fs : Nat)) ∨ ∃ q, u = .iface 77 (.pointer q) := by
  unfold ChkV at h
  split at h
  · rw [errV_pos _ (by omega)] at h; exact .inl h
  · obtain ⟨q, _, e, _⟩ := h; exact .inr ⟨_, e⟩
theorem ChkV.below {lo : Nat} {w w' : World} {u : Value} {fs : List Fld} {N : Nat} (h : ChkV lo w u fs) (hb : Below N w w') (hN : w.heap.size ≤ N) : ChkV lo w' u fs := by
  unfold ChkV at h ⊢
  split
  · rename_i hx; rw [if_pos hx] at h; exact h
  · rename_i hx; rw [if_neg hx] at h; exact h.below hb hN
theorem ChkV.mono {lo lo' : Nat} {w : World} {u : Value} {fs : List Fld} (h : ChkV lo w u fs) (hl : lo' ≤ lo) : ChkV lo' w u fs := by
  unfold ChkV at h ⊢
  split
  · rename_i hx; rw [if_pos hx] at h; exact h
  · rename_i hx; rw [if_neg hx] at h; exact h.mono hl
theorem ChkV.set {lo : Nat} {w : World} {u : Value} {fs : List Fld} (h : ChkV lo w u fs) (p : Addr) (hp : p.block < lo) (x : Value) : ChkV lo (w.setCell p x) u fs := by
  unfold ChkV at h ⊢
  split
  · rename_i hx; rw [if_pos hx] at h; exact h
  · rename_i hx
    rw [if_neg hx] at h
    obtain ⟨q, hq, e, hc⟩ := h
    exact ⟨q, hq, e, Cells.other hc (by omega) _⟩
attribute [local go_sem] errV_0
set_option maxRecDepth 100000 in
set_option maxHeartbeats 4000000 in
theorem chk_any (fs : List Fld) (v : Value) (w : World) (hs : Flds w v fs) (hn : fs.length ≤ 1000000) (hl : ∀ f ∈ fs, f.1.length ≤ 1000000 ∧ f.2.length ≤ 1000000) :
    Calls Tryz.prog 65 #[v] w fun e w' => ∃ u, e = .returned u ∧ Below w.heap.size w w' ∧ ChkV w.heap.size w' u fs := by
  obtain ⟨A, cap, rfl, hle, hc⟩ := hs
  have PC := Lib.hid hc
  have HL := Lib.hid hl
  clear hc hl
  by_cases h0 : fs.length = 0
  · have FIN : Hid (∀ W, ChkV w.heap.size W (.iface 70 (.int .i64 2)) fs) := by
      intro W
      unfold ChkV; rw [if_pos (.inl h0)]; unfold chkN; rw [if_pos h0]; rfl
    rw [h0]
    go_enter Tryz.func65, Tryz.ntmps65
    go_wp2_with fail
    go_ret
    exact ⟨_, rfl, Below.refl _ _, FIN.out _⟩
  by_cases h40 : 40 < fs.length
  · have FIN : Hid (∀ W, ChkV w.heap.size W (.iface 70 (.int .i64 11)) fs) := by
      intro W
      unfold ChkV; rw [if_pos (.inr (.inl h40))]; unfold chkN; rw [if_neg h0, if_pos h40]; rfl
    have c0 : ((fs.length : Int) == 0) = false := by simp; intro h; exact h0 (by rw [h]; rfl)
    go_enter Tryz.func65, Tryz.ntmps65
    go_wp2_with fail
    go_ret
    exact ⟨_, rfl, Below.refl _ _, FIN.out _⟩
  have FINZ : Hid (∀ W, foldN fs = 0 → ChkV w.heap.size W .nilIface fs) := by
    intro W hz
    unfold ChkV; rw [if_pos (.inr (.inr hz))]; unfold chkN; rw [if_neg h0, if_neg h40, hz]; rfl
  have FINB : Hid (∀ (W : World) (k n : Nat), w.heap.size ≤ W.heap.size → foldN fs = n → n ≠ 0 → badAt fs = k → ChkV w.heap.size (W.alloc (.cells #[.int .i64 (k : Nat), .iface 70 (.int .i64 (n : Nat))] 80)) (.iface 77 (.pointer (some ⟨W.heap.size, 0, none⟩))) fs) := by
    intro W k n hW hf hnz hk
    unfold ChkV
    rw [if_neg (by unfold bare; rintro (h | h | h) <;> omega), hf, hk, ← errV_pos n (by omega)]
    exact FaultAt.new W k n _ _ rfl hW
  have c0 : ((fs.length : Int) == 0) = false := by simp; intro h; exact h0 (by rw [h]; rfl)
  go_enter Tryz.func65, Tryz.ntmps65
  go_wp2_with fail
  go_loopw [18] (fun i wr => ∃ k : Nat, k ≤ fs.length ∧ i = .int .i64 k ∧ foldN fs = foldN (fs.drop k) ∧ badAt fs = badAt (fs.drop k) + k ∧ Below w.heap.size w wr) (fun i _ => fs.length - (intOf i).toNat)
  case atStart => exact ⟨0, Nat.zero_le _, rfl, rfl, rfl, Below.refl _ _⟩
  case round =>
    obtain ⟨k, hk, rfl, hN, hA, hb⟩ := hrel
    by_cases hlt : k < fs.length
    · obtain ⟨f, hf⟩ : ∃ f, fs[k]? = some f := ⟨_, List.getElem?_eq_getElem hlt⟩
      obtain ⟨b, off, rfl, hbb, c0', c1⟩ := PC.out k f hf
      replace c0' := (hb.cell (p := ⟨b, off + k * 2, none⟩) hbb).trans c0'
      replace c1 := (hb.cell (p := ⟨b, off + k * 2 + 1, none⟩) hbb).trans c1
      obtain ⟨hl1, hl2⟩ := HL.out f (List.mem_of_getElem? hf)
      have hdrop : fs.drop k = f :: fs.drop (k + 1) := by
        rw [List.drop_eq_getElem_cons hlt]
        rw [List.getElem?_eq_getElem hlt] at hf
        rw [Option.some.inj hf]
      have hs1 := hb.size
      have hba := hb.alloc hs1 (.cells #[.string (B f.1), .string (B f.2)] 35)
      have hza : (wr.alloc (.cells #[.string (B f.1), .string (B f.2)] 35)).heap.size = wr.heap.size + 1 := by simp
      have CK := fun W => check_any f.1 f.2 hl1 hl2 W
      unfold fieldV at CK
      rw [hdrop] at hN hA
      by_cases hck : checkN f.1 f.2 = 0
      · have G1 : Hid (foldN fs = foldN (fs.drop (k + 1))) := by
          show _ = _
          rw [hN]; show (if checkN f.1 f.2 = 0 then foldN (fs.drop (k + 1)) else _) = _; rw [if_pos hck]
        have G2 : Hid (badAt fs = badAt (fs.drop (k + 1)) + (k + 1)) := by
          show _ = _
          rw [hA]; show (if checkN f.1 f.2 = 0 then badAt (fs.drop (k + 1)) + 1 else _) + k = _; rw [if_pos hck]; omega
        rw [hck] at CK
        clear hdrop hN hA hf hck FINB FINZ PC HL
        go_wp2_with fail
        refine (CK _).mono ?_
        rintro e w2 ⟨rfl, b2⟩
        have hb2 := hba.trans (b2.mono (by omega))
        clear b2 CK
        go_wp2_with fail
        go_roundw
        case rel => exact ⟨k + 1, hlt, by go_num, G1.out, G2.out, hb2⟩
        case measure => simp [intOf]; omega
      · have hfn : foldN fs = checkN f.1 f.2 := by rw [hN]; unfold foldN; rw [if_neg hck]
        have hbn : badAt fs = k := by rw [hA]; unfold badAt; rw [if_neg hck]; omega
        have FIN := Lib.hid (fun W hW => FINB.out W k (checkN f.1 f.2) hW hfn hck hbn)
        rw [errV_pos _ (Nat.pos_of_ne_zero hck)] at CK
        clear hdrop hN hA hf hck FINB FINZ PC HL hfn hbn
        generalize checkN f.1 f.2 = cn at *
        go_wp2_with fail
        refine (CK _).mono ?_
        rintro e w2 ⟨rfl, b2⟩
        have hb2 := hba.trans (b2.mono (by omega))
        have hz2 := hb2.size
        clear b2 CK
        go_wp2_with fail
        go_ret
        exact ⟨_, rfl, hb2.alloc hz2 _, FIN.out w2 hz2⟩
    · obtain rfl : k = fs.length := by omega
      rw [List.drop_length] at hN
      have F0 := Lib.hid (fun W => FINZ.out W hN)
      clear hN hA FINB FINZ PC HL
      go_wp2_with fail
      go_ret
      exact ⟨_, rfl, hb, F0.out _⟩
/-- A stanza's text. -/
def stzT (fs : List Fld) : List UInt8 := if chkN fs = 0 then foldG fs else []
set_option maxRecDepth 100000 in
set_option maxHeartbeats 4000000 in
theorem stanza_any (fs : List Fld) (v : Value) (w : World) (hs : Flds w v fs) (hn : fs.length ≤ 1000000) (hl : ∀ f ∈ fs, f.1.length ≤ 100000 ∧ f.2.length ≤ 100000) :
    Calls Tryz.prog 146 #[v] w fun e w' => ∃ u, e = .returned (.tuple #[.string (B (stzT fs)), u]) ∧ Below w.heap.size w w' ∧ ChkV w.heap.size w' u fs := by
  have CK := Lib.hid (chk_any fs v w hs hn (fun f hf => by have := hl f hf; omega))
  by_cases h0 : chkN fs = 0
  · obtain ⟨a1, a2, a3⟩ := chkN_zero h0
    have FO := Lib.hid (fun w' (h : Flds w' v fs) => fold_any fs v w' h (by omega) hl)
    rw [a3] at FO
    have T1 : Hid (stzT fs = foldT fs) := by
      show _ = _
      unfold stzT foldT; rw [if_pos h0, if_pos a3]
    have HS := Lib.hid hs
    obtain ⟨A, cap, rfl, hle, _⟩ := id hs
    have H0 := Lib.hid h0
    clear hs hl h0 a3
    go_enter Tryz.func146, Tryz.ntmps146
    go_wp2_with fail
    refine CK.out.mono ?_
    rintro e w1 ⟨u, rfl, b1, hu⟩
    obtain rfl := hu.zero H0.out
    have HU := Lib.hid hu
    have hz1 := b1.size
    have F2 := Lib.hid (FO.out w1 (HS.out.below b1 (Nat.le_refl _)))
    clear hu CK FO
    go_wp2_with fail
    refine F2.out.mono ?_
    rintro e w2 ⟨rfl, b2⟩
    have hb2 := b1.trans (b2.mono hz1)
    have HU2 := Lib.hid (HU.out.below b2 (Nat.le_refl _))
    clear F2
    go_wp2_with fail
    go_ret2
    exact ⟨_, by rw [T1.out]; rfl, hb2, HU2.out⟩
  · have T1 : Hid (stzT fs = []) := by
      show _ = _
      unfold stzT; rw [if_neg h0]
    obtain ⟨A, cap, rfl, hle, _⟩ := id hs
    have H0 := Lib.hid h0
    clear hs hl h0
    go_enter Tryz.func146, Tryz.ntmps146
    go_wp2_with fail
    refine CK.out.mono ?_
    rintro e w1 ⟨u, rfl, b1, hu⟩
    have hz1 := b1.size
    have hp := hu.pos H0.out
    have HU := Lib.hid hu
    clear hu CK
    rcases hp with rfl | ⟨q, rfl⟩
    all_goals
      go_wp2_with fail
      go_ret2
      exact ⟨_, by rw [T1.out]; rfl, b1, HU.out⟩
end Go.Proofs.YtflnlenkgbphpaaGreatDoor

namespace Go.Proofs.YtflnlenkgbphpaaGreatDoor
open Go.RowKit Go.Shelf

set_option maxRecDepth 100000 in
theorem ret_i2 {fn : Func} {p u : Tmp} (h : fn.results = #[.cell p 99, .tmp u]) (tmps : Array Value) (w : World) (b : Nat) (cur : Array Value) (hp : tmps.getD p undef = .pointer (some ⟨b, 0, none⟩))
    (hc : Cells w b 99 cur) (hz : cur.size = 3) : (results fn tmps).run Tryz.prog w = .ok (.tuple #[.agg cur, tmps.getD u undef]) w := by
  have L := run_loadVar_row (P := Tryz.prog) w b 99 99 cur (0, 0) _ hc Tryz.underlying99 rfl (by rw [hz]; kernel_rfl)
  rw [results_cell_tmp h, hp]
  show ((loadVar _ _).run _ _).andThen _ = _
  rw [L]; rfl
theorem set3 (c0 c1 c2 v0 v1 v2 : Value) : (((#[c0, c1, c2].setIfInBounds 0 v0).setIfInBounds 1 v1).setIfInBounds 2 v2) = #[v0, v1, v2] := by
  simp [List.setIfInBounds_toArray, List.set]
def kindI (fs : List Fld) : Int := if chkN fs = 0 then 3 else 0
/-- Item's answer, in memory. -/
structure ItemR (w : World) (fs : List Fld) (e : Ending) (w' : World) (u x : Value) : Prop where
  ret : e = .returned (.tuple #[.agg #[.int .i64 (kindI fs), .string (B (stzT fs)), x], u])
  below : Below w.heap.size w w'
  chk : ChkV w.heap.size w' u fs
  own : chkN fs = 0 → w'.ownsRow w.heap.size 35 2 x fs.length (cellsF fs)
  none_ : chkN fs ≠ 0 → x = .slice none 0 0
attribute [local go_sem] errV_0
set_option maxRecDepth 100000 in
set_option maxHeartbeats 4000000 in
theorem item_any (fs : List Fld) (v : Value) (w : World) (hs : Flds w v fs) (hnil : ∀ n c, v = .slice none n c → c = 0) (hn : fs.length ≤ 1000000) (hl : ∀ f ∈ fs, f.1.length ≤ 100000 ∧ f.2.length ≤ 100000) :
    Calls Tryz.prog 131 #[v] w fun e w' => ∃ u x, ItemR w fs e w' u x := by
  have ST := Lib.hid (fun w' (h : Flds w' v fs) => stanza_any fs v w' h hn hl)
  have CL := Lib.hid (fun w' (h : Flds w' v fs) => clone_any fs v w' h hnil hn)
  have HS := Lib.hid hs
  obtain ⟨A, cap, rfl, hle, _⟩ := id hs
  have hba : Below w.heap.size w (w.alloc (.cells #[.int .i64 0, .string ⟨#[]⟩, .slice none 0 0] 99)) := (Below.refl _ _).alloc (Nat.le_refl _) _
  have hza : (w.alloc (.cells #[.int .i64 0, .string ⟨#[]⟩, .slice none 0 0] 99)).heap.size = w.heap.size + 1 := by simp
  have ST1 := Lib.hid (ST.out _ (HS.out.below hba (Nat.le_refl _)))
  have BX := Lib.hid (Cells.new w 99 #[.int .i64 0, .string ⟨#[]⟩, .slice none 0 0])
  clear hs hl hnil ST
  go_enter Tryz.func131, Tryz.ntmps131
  go_wp2_with fail
  refine ST1.out.mono ?_
  rintro e w1 ⟨u, rfl, b1, hu⟩
  have R1 := cells_kept BX.out b1 (by omega)
  have hb1 : Below w.heap.size w w1 := hba.trans (b1.mono (by omega))
  have hz1 := b1.size
  by_cases h0 : chkN fs = 0
  · obtain rfl := hu.zero h0
    have HU := Lib.hid hu
    have CL1 := Lib.hid (CL.out w1 (HS.out.below hb1 (Nat.le_refl _)))
    have KI : Hid (kindI fs = 3) := by show _ = _; unfold kindI; rw [if_pos h0]
    have H0 := Lib.hid h0
    have hzw := hb1.size
    clear hu h0 CL ST1 b1 BX HS
    generalize hT : stzT fs = T at *
    replace hT := Lib.hid hT
    go_wp2_with fail
    refine CL1.out.mono ?_
    rintro e w2 ⟨x, rfl, hx, b2⟩
    obtain ⟨xa, xc, hxe, _⟩ := own_slice hx
    subst hxe
    have R2 := cells_kept R1 b2 (by omega)
    have hb2 := hb1.trans (b2.mono hzw)
    have hz2 := b2.size
    have c0 := R2.cell 0
    have c1 := R2.cell 1
    have c2 := R2.cell 2
    have f0 := R2.frozen 0
    have f1 := R2.frozen 1
    have f2 := R2.frozen 2
    simp only [List.getElem?_toArray, List.getElem?_cons_zero, List.getElem?_cons_succ] at c0 c1 c2
    have RE := ((R2.set 0 (.int .i64 3)).set 1 (.string (B T))).set 2 (.slice xa fs.length xc)
    rw [set3] at RE
    have HB : Below w.heap.size w (((w2.setCell ⟨w.heap.size, 0, none⟩ (.int .i64 3)).setCell ⟨w.heap.size, 1, none⟩ (.string (B T))).setCell ⟨w.heap.size, 2, none⟩ (.slice xa fs.length xc)) :=
      ((hb2.setCell (p := ⟨w.heap.size, 0, none⟩) (Nat.le_refl _) _).setCell (p := ⟨w.heap.size, 1, none⟩) (Nat.le_refl _) _).setCell (p := ⟨w.heap.size, 2, none⟩) (Nat.le_refl _) _
    have HX := Lib.hid hx
    have HBH := Lib.hid HB
    have U2 := Lib.hid (HU.out.below b2 (Nat.le_refl _))
    clear HU hb2 b2 hb1 CL1 hx HB
    go_wp2_with fail
    refine bodyPost_ret (ret_i2 rfl _ _ w.heap.size _ rfl RE rfl) rfl ?_
    refine ⟨_, .slice xa fs.length xc, by rw [KI.out, hT.out], HBH.out, ?_, fun _ => ?_, fun h => absurd H0.out h⟩
    · have h := U2.out
      unfold ChkV at h ⊢
      have hb : bare fs := .inr (.inr (chkN_zero H0.out).2.2)
      rw [if_pos hb] at h ⊢
      exact h
    · have hne : ∀ k, Value.ownBlock (.slice xa fs.length xc) = some k → k ≠ w.heap.size := fun k e => by have := (HX.out.lt k e).1; omega
      exact row_cell (p := ⟨w.heap.size, 2, none⟩) (row_cell (p := ⟨w.heap.size, 1, none⟩) (row_cell (p := ⟨w.heap.size, 0, none⟩) (rowBase HX.out (by omega)) (fun e => hne _ e rfl) _) (fun e => hne _ e rfl) _) (fun e => hne _ e rfl) _
  · have hp := hu.pos h0
    have HU := Lib.hid hu
    have KI : Hid (kindI fs = 0) := by show _ = _; unfold kindI; rw [if_neg h0]
    have TI : Hid (stzT fs = []) := by show _ = _; unfold stzT; rw [if_neg h0]
    have H0 := Lib.hid h0
    have c0 := R1.cell 0
    have c1 := R1.cell 1
    have c2 := R1.cell 2
    have f0 := R1.frozen 0
    have f1 := R1.frozen 1
    have f2 := R1.frozen 2
    simp only [List.getElem?_toArray, List.getElem?_cons_zero, List.getElem?_cons_succ] at c0 c1 c2
    have RE := ((R1.set 0 (.int .i64 0)).set 1 (.string ⟨#[]⟩)).set 2 (.slice none 0 0)
    rw [set3] at RE
    have HB : Below w.heap.size w (((w1.setCell ⟨w.heap.size, 0, none⟩ (.int .i64 0)).setCell ⟨w.heap.size, 1, none⟩ (.string ⟨#[]⟩)).setCell ⟨w.heap.size, 2, none⟩ (.slice none 0 0)) :=
      ((hb1.setCell (p := ⟨w.heap.size, 0, none⟩) (Nat.le_refl _) _).setCell (p := ⟨w.heap.size, 1, none⟩) (Nat.le_refl _) _).setCell (p := ⟨w.heap.size, 2, none⟩) (Nat.le_refl _) _
    have HBH := Lib.hid HB
    clear hu h0 CL ST1 b1 BX HS hb1 HB
    have FIN : Hid (ChkV w.heap.size (((w1.setCell ⟨w.heap.size, 0, none⟩ (.int .i64 0)).setCell ⟨w.heap.size, 1, none⟩ (.string ⟨#[]⟩)).setCell ⟨w.heap.size, 2, none⟩ (.slice none 0 0)) u fs) :=
      (((HU.out.set ⟨w.heap.size, 0, none⟩ (by show w.heap.size < _; omega) _).set ⟨w.heap.size, 1, none⟩ (by show w.heap.size < _; omega) _).set ⟨w.heap.size, 2, none⟩ (by show w.heap.size < _; omega) _).mono (by omega)
    rcases hp with rfl | ⟨q, rfl⟩
    all_goals
      go_wp2_with fail
      refine bodyPost_ret (ret_i2 rfl _ _ w.heap.size _ rfl RE rfl) rfl ?_
      exact ⟨_, .slice none 0 0, by rw [KI.out, TI.out]; rfl, HBH.out, FIN.out, fun h => absurd h H0.out, fun _ => rfl⟩
end Go.Proofs.YtflnlenkgbphpaaGreatDoor

namespace Go.Proofs.YtflnlenkgbphpaaGreatDoor
open Go.RowKit Go.Shelf

theorem OwnS.grow {w5 : World} {base g' cap' : Nat} {ls : List ByteArray} {y : ByteArray} {n : Nat} (h : w5.ownsRow base 9 1 (.slice (some ⟨g', 0, none⟩) (n + 1) cap') (n + 1) (ls.map Value.string ++ [Value.string y])) (hl : ls.length = n) : OwnS w5 base (.slice (some ⟨g', 0, none⟩) (n + 1) cap') (ls ++ [y]) := by
  unfold OwnS
  rw [List.length_append, List.map_append, hl]; exact h
theorem OwnS.form {w : World} {base : Nat} {v : Value} {ls : List ByteArray} (h : OwnS w base v ls) (hn : 0 < ls.length) : ∃ g cap, v = .slice (some ⟨g, 0, none⟩) ls.length cap ∧ base ≤ g ∧ g < w.heap.size := by
  obtain ⟨g, cap, e⟩ := Joins.ownsRow_form h hn
  have := World.ownsRow.lt h g (by rw [e]; rfl)
  exact ⟨g, cap, e, this⟩
theorem OwnS.cell {w : World} {base g cap n : Nat} {ls : List ByteArray} (h : OwnS w base (.slice (some ⟨g, 0, none⟩) n cap) ls) (hn : ls.length = n) (j : Nat) (x : ByteArray) (hx : ls[j]? = some x) : w.cell? ⟨g, j, none⟩ = some (.string x) := by
  subst hn
  have hj : j < ls.length := by
    rcases Nat.lt_or_ge j ls.length with q | q
    · exact q
    · rw [List.getElem?_eq_none q] at hx; cases hx
  rw [World.ownsRow.cellAt h j (by omega), List.getElem?_map, hx]; rfl

end Go.Proofs.YtflnlenkgbphpaaGreatDoor

namespace Go.Proofs.YtflnlenkgbphpaaGreatDoor
open Go.RowKit Go.Shelf

end Go.Proofs.YtflnlenkgbphpaaGreatDoor

namespace Go.Proofs.YtflnlenkgbphpaaGreatDoor
open Go.RowKit Go.Shelf

end Go.Proofs.YtflnlenkgbphpaaGreatDoor

namespace Go.Proofs.YtflnlenkgbphpaaGreatDoor
open Go.RowKit Go.Shelf

attribute [local go_sem] errV_0
set_option maxRecDepth 100000 in
set_option maxHeartbeats 4000000 in
theorem refChk_any (fs : List Fld) (v : Value) (w : World) (hs : Flds w v fs) (hn : fs.length ≤ 1000000) (hl : ∀ f ∈ fs, f.1.length ≤ 1000000 ∧ f.2.length ≤ 1000000) :
    Calls Tryz.prog 67 #[v] w fun e w' => e = .returned (.tuple #[.int .i64 (chkAt fs), .int .i64 (chkN fs : Nat)]) ∧ Below w.heap.size w w' := by
  obtain ⟨A, cap, rfl, hle, hc⟩ := hs
  have PC := Lib.hid hc
  have HL := Lib.hid hl
  clear hc hl
  by_cases h0 : fs.length = 0
  · have e1 : chkAt fs = -9 := by unfold chkAt; rw [if_pos (.inl h0)]
    have e2 : chkN fs = 2 := by unfold chkN; rw [if_pos h0]
    rw [e1, e2, h0]
    go_enter Tryz.func67, Tryz.ntmps67
    go_wp2_with fail
    go_ret2
    exact ⟨rfl, Below.refl _ _⟩
  have c0 : ((fs.length : Int) == 0) = false := by simp; intro h; exact h0 (by rw [h]; rfl)
  by_cases h40 : 40 < fs.length
  · have e1 : chkAt fs = -9 := by unfold chkAt; rw [if_pos (.inr (.inl h40))]
    have e2 : chkN fs = 11 := by unfold chkN; rw [if_neg h0, if_pos h40]
    rw [e1, e2]
    go_enter Tryz.func67, Tryz.ntmps67
    go_wp2_with fail
    go_ret2
    exact ⟨rfl, Below.refl _ _⟩
  have e2 : chkN fs = foldN fs := by unfold chkN; rw [if_neg h0, if_neg h40]
  have FINZ : Hid (foldN fs = 0 → chkAt fs = -9 ∧ chkN fs = 0) := by
    intro hz
    exact ⟨by unfold chkAt; rw [if_pos (.inr (.inr hz))], by rw [e2, hz]⟩
  have FINB : Hid (∀ (k n : Nat), foldN fs = n → n ≠ 0 → badAt fs = k → chkAt fs = (k : Nat) ∧ chkN fs = n) := by
    intro k n hf hnz hk
    refine ⟨?_, by rw [e2, hf]⟩
    unfold chkAt
    rw [if_neg (by unfold bare; rintro (h | h | h) <;> omega), hk]
  clear e2
  go_enter Tryz.func67, Tryz.ntmps67
  go_wp2_with fail
  go_loopw [4] (fun i wr => ∃ k : Nat, k ≤ fs.length ∧ i = .int .i64 k ∧ foldN fs = foldN (fs.drop k) ∧ badAt fs = badAt (fs.drop k) + k ∧ Below w.heap.size w wr) (fun i _ => fs.length - (intOf i).toNat)
  case atStart => exact ⟨0, Nat.zero_le _, rfl, rfl, rfl, Below.refl _ _⟩
  case round =>
    obtain ⟨k, hk, rfl, hN, hA, hb⟩ := hrel
    by_cases hlt : k < fs.length
    · obtain ⟨f, hf⟩ : ∃ f, fs[k]? = some f := ⟨_, List.getElem?_eq_getElem hlt⟩
      obtain ⟨b, off, rfl, hbb, c0', c1⟩ := PC.out k f hf
      replace c0' := (hb.cell (p := ⟨b, off + k * 2, none⟩) hbb).trans c0'
      replace c1 := (hb.cell (p := ⟨b, off + k * 2 + 1, none⟩) hbb).trans c1
      obtain ⟨hl1, hl2⟩ := HL.out f (List.mem_of_getElem? hf)
      have hdrop : fs.drop k = f :: fs.drop (k + 1) := by
        rw [List.drop_eq_getElem_cons hlt]
        rw [List.getElem?_eq_getElem hlt] at hf
        rw [Option.some.inj hf]
      have hs1 := hb.size
      have CK := fun W => refCheck_any f.1 f.2 hl1 hl2 W
      unfold fieldV at CK
      rw [hdrop] at hN hA
      by_cases hck : checkN f.1 f.2 = 0
      · have G1 : Hid (foldN fs = foldN (fs.drop (k + 1))) := by
          show _ = _
          rw [hN]; show (if checkN f.1 f.2 = 0 then foldN (fs.drop (k + 1)) else _) = _; rw [if_pos hck]
        have G2 : Hid (badAt fs = badAt (fs.drop (k + 1)) + (k + 1)) := by
          show _ = _
          rw [hA]; show (if checkN f.1 f.2 = 0 then badAt (fs.drop (k + 1)) + 1 else _) + k = _; rw [if_pos hck]; omega
        rw [hck] at CK
        clear hdrop hN hA hf hck FINB FINZ PC HL
        go_wp2_with fail
        refine (CK _).mono ?_
        rintro e w2 ⟨rfl, b2⟩
        have hb2 := hb.trans (b2.mono hs1)
        clear b2 CK
        go_wp2_with fail
        go_roundw
        case rel => exact ⟨k + 1, hlt, by go_num, G1.out, G2.out, hb2⟩
        case measure => simp [intOf]; omega
      · have hfn : foldN fs = checkN f.1 f.2 := by rw [hN]; unfold foldN; rw [if_neg hck]
        have hbn : badAt fs = k := by rw [hA]; unfold badAt; rw [if_neg hck]; omega
        obtain ⟨F1, F2⟩ := FINB.out k (checkN f.1 f.2) hfn hck hbn
        have hcn : ((checkN f.1 f.2 : Int) != 0) = true := by simp; omega
        have FH1 := Lib.hid F1
        have FH2 := Lib.hid F2
        clear hdrop hN hA hf FINB FINZ PC HL hfn hbn F1 F2
        generalize checkN f.1 f.2 = cn at *
        go_wp2_with fail
        refine (CK _).mono ?_
        rintro e w2 ⟨rfl, b2⟩
        have hb2 := hb.trans (b2.mono hs1)
        clear b2 CK
        go_wp2_with fail
        go_ret2
        exact ⟨by rw [FH1.out, FH2.out]; rfl, hb2⟩
    · obtain rfl : k = fs.length := by omega
      rw [List.drop_length] at hN
      obtain ⟨F1, F2⟩ := FINZ.out hN
      have FH1 := Lib.hid F1
      have FH2 := Lib.hid F2
      clear hN hA FINB FINZ PC HL F1 F2
      go_wp2_with fail
      go_ret2
      exact ⟨by rw [FH1.out, FH2.out]; rfl, hb⟩
end Go.Proofs.YtflnlenkgbphpaaGreatDoor

namespace Go.Proofs.YtflnlenkgbphpaaGreatDoor
open Go.RowKit Go.Shelf

def joinT (rs : List (List Fld)) : List UInt8 := joinNl (rs.map foldG)
/-- The first stanza that is wrong. -/
def badR (rs : List (List Fld)) : Option (List Fld) := rs.find? fun r => chkN r != 0
theorem badR_none {rs : List (List Fld)} (h : ∀ r ∈ rs, chkN r = 0) : badR rs = none := by
  unfold badR
  rw [List.find?_eq_none]
  intro r hr
  simp [h r hr]
/-- Text's answer. -/
def TextR (w : World) (rs : List (List Fld)) (e : Ending) (w' : World) : Prop :=
  Below w.heap.size w w' ∧ match badR rs with
    | some r => ∃ u, e = .returned (.tuple #[.string (B []), u]) ∧ ChkV w.heap.size w' u r ∧ chkN r ≠ 0
    | none => e = .returned (.tuple #[.string (B (joinT rs)), .nilIface]) ∧ ∀ r ∈ rs, chkN r = 0
theorem TextR.no {w w' : World} {rs : List (List Fld)} {u : Value} {r : List Fld} (h : badR rs = some r) (hb : Below w.heap.size w w') (hu : ChkV w.heap.size w' u r) (h0 : chkN r ≠ 0) : TextR w rs (.returned (.tuple #[.string (B []), u])) w' :=
  ⟨hb, by rw [h]; exact ⟨u, rfl, hu, h0⟩⟩
theorem TextR.yes {w w' : World} {rs : List (List Fld)} (h : ∀ r ∈ rs, chkN r = 0) (hb : Below w.heap.size w w') : TextR w rs (.returned (.tuple #[.string (B (joinT rs)), .nilIface])) w' :=
  ⟨hb, by rw [badR_none h]; exact ⟨rfl, h⟩⟩
attribute [local go_sem] errV_0
end Go.Proofs.YtflnlenkgbphpaaGreatDoor

namespace Go.Proofs.YtflnlenkgbphpaaGreatDoor

theorem allGood : ∀ (fs : List Fld), foldN fs = 0 → ∀ f ∈ fs, goodKey f.1 = true ∧ f.2.length ≤ 1000
  | [], _, f, hf => by cases hf
  | g :: r, h, f, hf => by
    unfold foldN at h
    split at h
    · rename_i h0
      rcases List.mem_cons.1 hf with rfl | hf
      · exact checkN_zero h0
      · exact allGood r h f hf
    · rename_i h0; exact absurd h h0
theorem textL_len6 (k v : List UInt8) : (textL (linesL k v)).length ≤ k.length + 3 * v.length + 8 := by
  rw [textL_len]; have := lines_sum k v; omega
theorem foldT_len6 : ∀ (fs : List Fld), minF fs ≤ 6000 → (textL (linesFs fs)).length ≤ 3 * minF fs + 8 * fs.length
  | [], _ => by simp [linesFs, textL]
  | f :: r, h => by
    have e : minF (f :: r) = (min f.1.length 10000 + min f.2.length 10000) + minF r := rfl
    rw [e] at h ⊢
    have ih := foldT_len6 r (by omega)
    have h1 := textL_len6 f.1 f.2
    have e2 : textL (linesFs (f :: r)) = textL (linesL f.1 f.2) ++ textL (linesFs r) := by unfold linesFs; rw [List.flatMap_cons, textL_append]
    rw [e2, List.length_append, List.length_cons]
    omega

/-- What stanzas of good fields are, as items. -/
def itemOf (fs : List Fld) : It := ⟨3, foldG fs, fs⟩
theorem foldG_lines (fs : List Fld) : foldG fs = textL (linesFs fs) := by
  unfold foldG linesFs textL
  rw [List.flatMap_assoc]
theorem blk_item {fs : List Fld} (h : chkN fs = 0) : Blk (itemOf fs) := by
  obtain ⟨h1, h2, h3⟩ := chkN_zero h
  unfold itemOf
  rw [foldG_lines]
  exact blk_fields fs (allGood fs h3) (fun e => h1 (by rw [e]; rfl)) h2
end Go.Proofs.YtflnlenkgbphpaaGreatDoor

namespace Go.Proofs.YtflnlenkgbphpaaGreatDoor

/-- An entry: an item and its number. -/
abbrev En := It × Int
/-- A list: its entries, the next number. -/
structure LS where
  es : List En
  next : Int
/-- The stanzas among entries of whatever kind (κ tells an entry's kind), each with its place among these, from k on. -/
def stzG {α : Type} (κ : α → Int) : Nat → List α → List (Nat × α)
  | _, [] => []
  | k, e :: r => if κ e = 3 then (k, e) :: stzG κ (k + 1) r else stzG κ (k + 1) r
section
variable {α : Type} {κ : α → Int}
theorem stzG_len : ∀ (k : Nat) (es : List α), (stzG κ k es).length ≤ es.length
  | k, [] => Nat.le_refl _
  | k, e :: r => by
    have ih := stzG_len (k + 1) r
    show (if κ e = 3 then (k, e) :: stzG κ (k + 1) r else stzG κ (k + 1) r).length ≤ _
    split
    · simp only [List.length_cons]; omega
    · simp only [List.length_cons]; omega
theorem stzG_mem : ∀ (k : Nat) (es : List α) (x : Nat × α), x ∈ stzG κ k es → k ≤ x.1 ∧ es[x.1 - k]? = some x.2 ∧ κ x.2 = 3
  | k, [], x, h => by cases h
  | k, e :: r, x, h => by
    have ih := stzG_mem (k + 1) r x
    have go : x ∈ stzG κ (k + 1) r → k ≤ x.1 ∧ (e :: r)[x.1 - k]? = some x.2 ∧ κ x.2 = 3 := fun q => by
      obtain ⟨a, b, c⟩ := ih q
      refine ⟨by omega, ?_, c⟩
      rw [show x.1 - k = (x.1 - (k + 1)) + 1 by omega, List.getElem?_cons_succ]; exact b
    unfold stzG at h
    split at h
    · rename_i hk
      rcases List.mem_cons.1 h with rfl | h
      · exact ⟨Nat.le_refl _, by simp, hk⟩
      · exact go h
    · exact go h
theorem stzG_drop : ∀ (es : List α) (k j : Nat) (e : α), es[j]? = some e → stzG κ (k + j) (es.drop j) = if κ e = 3 then (k + j, e) :: stzG κ (k + (j + 1)) (es.drop (j + 1)) else stzG κ (k + (j + 1)) (es.drop (j + 1))
  | [], k, j, e, h => by simp at h
  | a :: r, k, 0, e, h => by simp at h; subst h; rfl
  | a :: r, k, j + 1, e, h => by
    have ih := stzG_drop r (k + 1) j e (by simpa using h)
    rw [show k + 1 + j = k + (j + 1) by omega, show k + 1 + (j + 1) = k + (j + 1 + 1) by omega] at ih
    exact ih
theorem stzG_map {β : Type} (f : β → α) : ∀ (k : Nat) (es : List β), (stzG (fun b => κ (f b)) k es).map (fun x => (x.1, f x.2)) = stzG κ k (es.map f)
  | k, [] => rfl
  | k, e :: r => by
    have ih := stzG_map f (k + 1) r
    show ((if κ (f e) = 3 then (k, e) :: stzG _ (k + 1) r else stzG _ (k + 1) r).map _) = if κ (f e) = 3 then (k, f e) :: stzG κ (k + 1) (r.map f) else stzG κ (k + 1) (r.map f)
    split
    · rw [List.map_cons, ih]
    · exact ih
end
abbrev stzOn : Nat → List En → List (Nat × En) := stzG fun e => e.1.kind
abbrev stzs (es : List En) : List (Nat × En) := stzOn 0 es
/-- Where the stanza of a number stands. -/
def findE (es : List En) (id : Int) : Option Nat := ((stzs es).find? fun x => x.2.2 == id).map Prod.fst
/-- .. by definition. -/
def findR (es : List En) (id : Int) : Option Nat := if 0 < id then es.findIdx? fun e => e.2 == id else none
/-- Stanzas have numbers, other items 0. -/
def WF (es : List En) : Prop := ∀ e ∈ es, (e.1.kind = 3 ∧ 0 < e.2) ∨ (e.1.kind ≠ 3 ∧ e.2 = 0)
theorem find_on : ∀ (k : Nat) (es : List En) (id : Int), WF es → 0 < id → ((stzOn k es).find? fun x => x.2.2 == id).map Prod.fst = (es.findIdx? fun e => e.2 == id).map (· + k)
  | k, [], id, _, _ => rfl
  | k, e :: r, id, h, hid => by
    have ih := find_on (k + 1) r id (fun y hy => h y (List.mem_cons_of_mem _ hy)) hid
    have he := h e List.mem_cons_self
    unfold stzG
    rw [List.findIdx?_cons]
    by_cases hk : e.1.kind = 3
    · rw [if_pos hk, List.find?_cons]
      cases hq : e.2 == id with
      | true => simp
      | false =>
        simp only
        rw [ih]
        cases List.findIdx? (fun e => e.2 == id) r with
        | none => rfl
        | some q => simp; omega
    · rw [if_neg hk]
      have h0 : e.2 = 0 := by
        rcases he with he | he
        · exact absurd he.1 hk
        · exact he.2
      have hq : (e.2 == id) = false := by rw [h0]; exact beq_eq_false_iff_ne.2 (by omega)
      rw [ih, hq]
      cases List.findIdx? (fun e => e.2 == id) r with
      | none => rfl
      | some q => simp; omega
theorem find_on_neg : ∀ (k : Nat) (es : List En) (id : Int), WF es → id ≤ 0 → ((stzOn k es).find? fun x => x.2.2 == id) = none
  | k, [], id, _, _ => rfl
  | k, e :: r, id, h, hid => by
    have ih := find_on_neg (k + 1) r id (fun y hy => h y (List.mem_cons_of_mem _ hy)) hid
    have he := h e List.mem_cons_self
    unfold stzG
    split
    · rename_i hk
      have h0 : 0 < e.2 := by
        rcases he with he | he
        · exact he.2
        · exact absurd hk he.1
      have hq : (e.2 == id) = false := beq_eq_false_iff_ne.2 (by omega)
      rw [List.find?_cons]
      simp only [hq]
      exact ih
    · exact ih
theorem find_both {es : List En} (h : WF es) (id : Int) : findE es id = findR es id := by
  unfold findE findR
  split
  · rename_i hid
    have := find_on 0 es id h hid
    rw [this]
    cases List.findIdx? (fun e => e.2 == id) es with
    | none => rfl
    | some q => rfl
  · rename_i hid
    show Option.map _ ((stzOn 0 es).find? _) = none
    rw [find_on_neg 0 es id h (by omega)]; rfl
/-- How many stanzas there are. -/
def lenR (es : List En) : Nat := (es.filter fun e => decide (0 < e.2)).length
theorem stz_filter : ∀ (k : Nat) (es : List En), WF es → (stzOn k es).map Prod.snd = es.filter fun e => decide (0 < e.2)
  | k, [], _ => rfl
  | k, e :: r, h => by
    have ih := stz_filter (k + 1) r (fun y hy => h y (List.mem_cons_of_mem _ hy))
    unfold stzG
    rw [List.filter_cons]
    rcases h e List.mem_cons_self with ⟨a, b⟩ | ⟨a, b⟩
    · rw [if_pos a, if_pos (by simpa using b), List.map_cons, ih]
    · rw [if_neg a, if_neg (by simp; omega), ih]
theorem len_both {es : List En} (h : WF es) : (stzs es).length = lenR es := by
  have := congrArg List.length (stz_filter 0 es h)
  rw [List.length_map] at this
  exact this
def setE (es : List En) (k : Nat) (it : It) : List En := es.modify k fun e => (it, e.2)
def cutE (es : List En) (k : Nat) : List En := es.take k ++ es.drop (k + 1)
def putE (es : List En) (k : Nat) (e : En) : List En := es.take k ++ e :: es.drop k
theorem WF.set {es : List En} (h : WF es) (k : Nat) (it : It) (hk : it.kind = 3) (e : En) (he : es[k]? = some e) (hn : e.1.kind = 3) : WF (setE es k it) := by
  intro x hx
  obtain ⟨j, hj⟩ := List.mem_iff_getElem?.1 hx
  unfold setE at hj
  rw [List.getElem?_modify] at hj
  rcases hjj : es[j]? with _ | y
  · rw [hjj] at hj; simp at hj
  · rw [hjj] at hj
    simp only [Option.map_eq_map, Option.map_some, Option.some.injEq] at hj
    have hy := h y (List.mem_of_getElem? hjj)
    by_cases e1 : k = j
    · rw [if_pos e1] at hj
      subst hj
      subst e1
      rw [he] at hjj
      cases hjj
      rcases h e (List.mem_of_getElem? he) with q | q
      · exact .inl ⟨hk, q.2⟩
      · exact absurd hn q.1
    · rw [if_neg e1] at hj
      subst hj; exact hy
theorem WF.cut {es : List En} (h : WF es) (k : Nat) : WF (cutE es k) := by
  intro x hx
  rcases List.mem_append.1 hx with q | q
  · exact h x (List.mem_of_mem_take q)
  · exact h x (List.mem_of_mem_drop q)
theorem WF.put {es : List En} (h : WF es) (k : Nat) {e : En} (he : (e.1.kind = 3 ∧ 0 < e.2)) : WF (putE es k e) := by
  intro x hx
  rcases List.mem_append.1 hx with q | q
  · exact h x (List.mem_of_mem_take q)
  · rcases List.mem_cons.1 q with rfl | q
    · exact .inl he
    · exact h x (List.mem_of_mem_drop q)
theorem setE_len (es : List En) (k : Nat) (it : It) : (setE es k it).length = es.length := by unfold setE; simp
/-- What an edit comes to: the list then, the field at which it is refused, an error's number, the new number. -/
structure Did where
  ls : LS
  at_ : Int
  bad : Nat
  id : Int
def replaceR (l : LS) (id : Int) (fs : List Fld) : Did :=
  match findR l.es id with
  | none => ⟨l, -9, 7, 0⟩
  | some k => if chkN fs = 0 then ⟨⟨setE l.es k (itemOf fs), l.next⟩, -9, 0, 0⟩ else ⟨l, chkAt fs, chkN fs, 0⟩
def deleteR (l : LS) (id : Int) : Did :=
  match findR l.es id with
  | none => ⟨l, -9, 7, 0⟩
  | some k => ⟨⟨cutE l.es k, l.next⟩, -9, 0, 0⟩
/-- Where one is inserted behind a number. -/
def gapR (es : List En) (behind : Int) : Option Nat := if behind = 0 then some 0 else (findR es behind).map (· + 1)
def insertR (l : LS) (behind : Int) (fs : List Fld) : Did :=
  match gapR l.es behind with
  | none => ⟨l, -9, 7, 0⟩
  | some k => if chkN fs = 0 then (if 400 ≤ lenR l.es then ⟨l, -9, 11, 0⟩ else ⟨⟨putE l.es k (itemOf fs, l.next), l.next + 1⟩, -9, 0, l.next⟩) else ⟨l, chkAt fs, chkN fs, 0⟩
def editR (l : LS) (kind id : Int) (fs : List Fld) : Did :=
  if kind = 1 then replaceR l id fs else if kind = 2 then deleteR l id else insertR l id fs
theorem findR_lt {es : List En} {id : Int} {k : Nat} (h : findR es id = some k) : k < es.length ∧ ∃ e, es[k]? = some e ∧ e.2 = id ∧ 0 < id := by
  unfold findR at h
  split at h
  · rename_i hid
    obtain ⟨a, b, _⟩ := List.findIdx?_eq_some_iff_getElem.1 h
    exact ⟨a, _, List.getElem?_eq_getElem a, by simpa using b, hid⟩
  · cases h
/-- A list as it comes of a text. -/
def fromOn : Int → List It → List En
  | _, [] => []
  | n, it :: r => if it.kind = 3 then (it, n) :: fromOn (n + 1) r else (it, 0) :: fromOn n r
def fromNext : Int → List It → Int
  | n, [] => n
  | n, it :: r => if it.kind = 3 then fromNext (n + 1) r else fromNext n r
def fromL (its : List It) : LS := ⟨fromOn 1 its, fromNext 1 its⟩
theorem from_snoc : ∀ (n : Int) (l : List It) (it : It), fromOn n (l ++ [it]) = fromOn n l ++ [(it, if it.kind = 3 then fromNext n l else 0)] ∧ fromNext n (l ++ [it]) = if it.kind = 3 then fromNext n l + 1 else fromNext n l
  | n, [], it => by
    simp only [List.nil_append, fromOn, fromNext]
    split <;> simp
  | n, a :: l, it => by
    obtain ⟨h1, h2⟩ := from_snoc (n + 1) l it
    obtain ⟨g1, g2⟩ := from_snoc n l it
    simp only [List.cons_append, fromOn, fromNext]
    split
    · rw [h1, h2]; exact ⟨rfl, rfl⟩
    · rw [g1, g2]; exact ⟨rfl, rfl⟩
theorem from_len : ∀ (n : Int) (l : List It), (fromOn n l).length = l.length
  | n, [] => rfl
  | n, a :: l => by
    unfold fromOn
    split
    · rw [List.length_cons, from_len]; rfl
    · rw [List.length_cons, from_len]; rfl
theorem from_items : ∀ (n : Int) (l : List It), (fromOn n l).map Prod.fst = l
  | n, [] => rfl
  | n, a :: l => by
    unfold fromOn
    split
    · rw [List.map_cons, from_items]
    · rw [List.map_cons, from_items]
theorem from_next : ∀ (n : Int) (l : List It), n ≤ fromNext n l ∧ fromNext n l ≤ n + l.length
  | n, [] => by simp [fromNext]
  | n, a :: l => by
    have h1 := from_next (n + 1) l
    have h2 := from_next n l
    unfold fromNext
    rw [List.length_cons]
    split <;> omega
theorem from_wf : ∀ (n : Int) (l : List It), 0 < n → WF (fromOn n l)
  | n, [], _ => fun e h => by cases h
  | n, a :: l, hn => by
    unfold fromOn
    split
    · rename_i hk
      intro e he
      rcases List.mem_cons.1 he with rfl | he
      · exact .inl ⟨hk, hn⟩
      · exact from_wf (n + 1) l (by omega) e he
    · rename_i hk
      intro e he
      rcases List.mem_cons.1 he with rfl | he
      · exact .inr ⟨hk, rfl⟩
      · exact from_wf n l hn e he
end Go.Proofs.YtflnlenkgbphpaaGreatDoor

namespace Go.Proofs.YtflnlenkgbphpaaGreatDoor
open Go.RowKit Go.Shelf

/-- THE ITERATOR's CONTRACT: as Hands, where K holds in every world of the caller's rounds. -/
def HandsK {α : Type} (P : Program) (g : Nat) (lb : Array Value) (encs : α → Array Value) (k : Nat) (xs : List α) (K : World → Prop) (w : World) : Prop :=
  ∀ (l : Nat) (J Jx : List α → World → Prop) (W : World), Below w.heap.size w W → Abide W.heap.size k J → (∀ pre W, J pre W → K W) →
    (∀ pre x post W1, xs = pre ++ x :: post → W.heap.size + k ≤ W1.heap.size → J pre W1 → YieldAt Fence.wide 7 P l (encs x) W1 fun e W' =>
      (e = .returned (.bool true) ∧ J (pre ++ [x]) W' ∧ Stay W.heap.size k W1 W') ∨ (e = .returned (.bool false) ∧ Jx (pre ++ [x]) W')) →
    J [] W →
    CallsIn Fence.wide 8 P g (#[.func (.yield l) #[] #[]] ++ lb) W fun e W' => (∃ v, e = .returned v) ∧ (J xs W' ∨ ∃ pre, pre <+: xs ∧ Jx pre W')
variable {P : Program}

theorem wp_rangedK {α : Type} {g : Operand} {ps : Array Tmp} {assign body : Code} {Q : Exit → Act → World → Prop} {a : Act} {w : World}
    {gf : Nat} {lb : Array Value} (hg : a.eval g = .func (.func gf) #[] lb) (eg : ∀ args w, (callFunc gf args).run P w = .ok (.enter gf args) w)
    {encs : α → Array Value} {k : Nat} {xs : List α} {K : World → Prop} (hseq : HandsK P gf lb encs k xs K w) (hps : ∀ x, (encs x).size = ps.size)
    (I : List α → World → Prop) (Ix : Code → List α → World → Prop) (hI : Abide w.heap.size (k + 2) I) (hIx : ∀ c, Abide w.heap.size 2 (Ix c)) (h0 : I [] w) (hK : ∀ pre W, I pre W → K W)
    (M : List α → α → Act → World → Prop) (hM : ∀ pre x a', Abide w.heap.size 2 (fun (_ : Unit) W => M pre x a' W))
    (hassign : ∀ (l : Nat) (pre : List α) (x : α) (post : List α) (W : World), xs = pre ++ x :: post → w.heap.size + (k + 2) ≤ W.heap.size → I pre W →
      assign.wpIn (Fence.wide.inRound l) 7 P (assigned w.heap.size (k + 2) (M pre x) W) { tmps := (ps.zip (encs x)).foldl (fun t (p, v) => t.setIfInBounds p v) a.tmps, defers := [] } W)
    (hbody : ∀ (l : Nat) (pre : List α) (x : α) (post : List α) (a' : Act) (W : World), xs = pre ++ x :: post → w.heap.size + (k + 2) ≤ W.heap.size → M pre x a' W →
      body.wpIn (Fence.wide.inRound l) 7 P (left w.heap.size (k + 2) I Ix (pre ++ [x]) W) a' W)
    (hdone : ∀ (W : World), I xs W → W.heap[w.heap.size]? = some (.deferred (some [])) → Q .normal { a with defers := { target := .collected w.heap.size, args := #[] } :: a.defers } W)
    (hstop : ∀ (c : Code) (pre : List α) (W : World), pre <+: xs → Ix c pre W → W.heap[w.heap.size]? = some (.deferred (some [])) → c.wpIn Fence.wide 9 P Q { a with defers := { target := .collected w.heap.size, args := #[] } :: a.defers } W) :
    (Code.rangeFunc g ps assign body).wpIn Fence.wide 9 P Q a w := by
  refine wpIn_rangeFunc fun fn _ => ?_
  show ∃ l mark w₁ d w₁' f args w₂, (Instr.enterLoop fn a.tmps ps assign body none).run P w = .ok (l, mark) w₁ ∧ _
  obtain ⟨rec, hrec⟩ : ∃ rec : LoopState → Option Code → Loop, rec = fun st pe => { state := st, pending := pe, fn, tmps := a.tmps, params := ps, assign, body, defers := w.heap.size } := ⟨_, rfl⟩
  obtain ⟨W1, hW1⟩ : ∃ W1, (w.alloc (.deferred (some []))).alloc (.loop (rec .ready none)) = W1 := ⟨_, rfl⟩
  have hz1 : W1.heap.size = w.heap.size + 2 := by rw [← hW1]; simp
  have hL1 : W1.heap[w.heap.size + 1]? = some (.loop (rec .ready none)) := by
    rw [← hW1]; have := World.alloc_heap_new (w.alloc (.deferred (some []))) (.loop (rec .ready none)); rwa [World.size_alloc] at this
  have hK1 : W1.heap[w.heap.size]? = some (.deferred (some [])) := by
    rw [← hW1]; exact (Below.heap_alloc _ _ _ (by simp)).trans (World.alloc_heap_new w _)
  have hI1 : I [] W1 := by rw [← hW1]; exact hI.alloc _ (hI.alloc _ h0)
  have hb1 : Below w.heap.size w W1 := by rw [← hW1]; exact ((Below.refl _ w).alloc (Nat.le_refl _) _).alloc (by simp) _
  -- a turn of one of the iterator's own boxes leaves the two blocks of the statement as they were
  have two : ∀ {A B : World}, Turned W1.heap.size k A B → ∀ q o, q < w.heap.size + 2 → A.heap[q]? = some o → B.heap[q]? = some o :=
    fun ht q o hq ho => (ht.same q (Array.getElem?_eq_some_iff.1 ho).1 (by omega)).trans ho
  refine ⟨w.heap.size + 1, [{ target := .collected w.heap.size, args := #[] }], W1, { target := .fn (.func gf) lb, args := #[.func (.yield (w.heap.size + 1)) #[] #[]] }, W1, gf,
    #[.func (.yield (w.heap.size + 1)) #[] #[]] ++ lb, W1, ?_, ?_, fun _ _ => trivial, ?_, (fun h => by cases h), ?_⟩
  · rw [← hW1, hrec]; exact run_enterLoop_outer _ _ _ _ _
  · simp only [resolve, hg]
    simp [go_sem]
  · simp [invoke, go_sem, eg]
  refine (hseq (w.heap.size + 1)
    (fun pre W => I pre W ∧ W.heap[w.heap.size + 1]? = some (.loop (rec .ready none)) ∧ W.heap[w.heap.size]? = some (.deferred (some [])))
    (fun pre W => ∃ c, Ix c pre W ∧ W.heap[w.heap.size + 1]? = some (.loop (rec .done (some c))) ∧ W.heap[w.heap.size]? = some (.deferred (some [])))
    W1 hb1
    (fun s A B hs ht => ⟨hI s A B hs.1 (ht.sub (by omega) (by omega)), two ht _ _ (by omega) hs.2.1, two ht _ _ (by omega) hs.2.2⟩)
    (fun s A hs => hK s A hs.1)
    ?_ ⟨hI1, hL1, hK1⟩).mono ?_
  · -- one round
    rintro pre x post W hx hsz ⟨hi, hl, hk⟩
    rw [hz1] at hsz
    have hy := run_yield (P := P) (args := encs x) hl (by rw [hrec]; exact hps x)
    rw [hrec] at hy
    refine ⟨fn, _, assign, body, hy, roundIn_of_wpIn trivial (wpIn_mono (hassign _ pre x post W hx (by omega) hi) ?_)⟩
    intro e a' Wa hp
    cases e with
    | normal =>
      obtain ⟨hs1, hm⟩ := hp
      have hla := (hs1.same (w.heap.size + 1) (by omega) (by omega)).trans hl
      have hka := (hs1.same w.heap.size (by omega) (by omega)).trans hk
      have hlt := (Array.getElem?_eq_some_iff.1 hla).1
      refine ⟨_, run_beginRound hla (by rw [hrec]), ?_⟩
      have hl2 : (Wa.putObj (w.heap.size + 1) (.loop { rec .ready none with state := .busy })).heap[w.heap.size + 1]? = some (.loop { rec .ready none with state := .busy }) := World.putObj_heap_same hlt
      have hk2 : (Wa.putObj (w.heap.size + 1) (.loop { rec .ready none with state := .busy })).heap[w.heap.size]? = some (.deferred (some [])) := (World.putObj_heap_other (by omega)).trans hka
      have hn2 : ∀ r, w.heap.size + 2 ≤ r → (Wa.putObj (w.heap.size + 1) (.loop { rec .ready none with state := .busy })).heap[r]? = Wa.heap[r]? := fun r hr => World.putObj_heap_other (by omega)
      have hz2 : ∀ o, (Wa.putObj (w.heap.size + 1) o).heap.size = Wa.heap.size := fun o => by simp
      have hm2 := (hM pre x a').putObj (s := ()) (.loop { rec .ready none with state := .busy }) hm (l := w.heap.size + 1) (by omega) (by omega)
      have hsa := hs1.size
      refine wpIn_mono (hbody _ pre x post a' _ hx (by rw [hz2]; omega) hm2) ?_
      have fin : ∀ (jump : Option Code) (W3 : World), Stay w.heap.size (k + 2) (Wa.putObj (w.heap.size + 1) (.loop { rec .ready none with state := .busy })) W3 →
          (Instr.endRound (w.heap.size + 1) jump).run P W3 = .ok (.bool jump.isNone) (W3.putObj (w.heap.size + 1) (.loop (rec (if jump.isNone then .ready else .done) jump))) ∧
          (W3.putObj (w.heap.size + 1) (.loop (rec (if jump.isNone then .ready else .done) jump))).heap[w.heap.size + 1]? = some (.loop (rec (if jump.isNone then .ready else .done) jump)) ∧
          (W3.putObj (w.heap.size + 1) (.loop (rec (if jump.isNone then .ready else .done) jump))).heap[w.heap.size]? = some (.deferred (some [])) := fun jump W3 hs3 => by
        have hl3 := (hs3.same (w.heap.size + 1) (by omega) (by omega)).trans hl2
        have hk3 := (hs3.same w.heap.size (by omega) (by omega)).trans hk2
        have := run_endRound (P := P) jump hl3
        rw [hrec] at this ⊢
        exact ⟨this, World.putObj_heap_same (Array.getElem?_eq_some_iff.1 hl3).1, (World.putObj_heap_other (by omega)).trans hk3⟩
      intro e a3 W3 hp
      cases e with
      | normal =>
        obtain ⟨hs3, hi3⟩ := hp
        obtain ⟨hr, hl4, hk4⟩ := fin none W3 hs3
        refine ⟨_, _, hr, .inl ⟨rfl, ⟨hI.putObj _ hi3 (by omega) (by omega), hl4, hk4⟩, ?_⟩⟩
        have hsz3 := hs3.size
        refine ⟨by simp only [World.putObj, Array.size_setIfInBounds] at hsz3 ⊢; omega, fun r a b => ?_⟩
        rw [hz1] at a b
        rw [World.putObj_heap_other (by omega), hs3.same r (by omega) (by omega), hn2 r a, hs1.same r (by omega) (by omega)]
      | ret =>
        obtain ⟨hs3, hi3⟩ := hp
        obtain ⟨hr, hl4, hk4⟩ := fin (some .ret) W3 hs3
        exact ⟨_, _, hr, .inr ⟨rfl, .ret, (hIx _).putObj _ hi3 (by omega) (by omega), hl4, hk4⟩⟩
      | exit id =>
        obtain ⟨hs3, hi3⟩ := hp
        obtain ⟨hr, hl4, hk4⟩ := fin (some (.exit id)) W3 hs3
        exact ⟨_, _, hr, .inr ⟨rfl, .exit id, (hIx _).putObj _ hi3 (by omega) (by omega), hl4, hk4⟩⟩
      | goto t =>
        obtain ⟨hs3, hi3⟩ := hp
        obtain ⟨hr, hl4, hk4⟩ := fin (some (.goto t)) W3 hs3
        exact ⟨_, _, hr, .inr ⟨rfl, .goto t, (hIx _).putObj _ hi3 (by omega) (by omega), hl4, hk4⟩⟩
      | panic ch => exact hp.elim
      | outgrown => exact hp.elim
    | ret => exact hp.elim
    | exit id => exact hp.elim
    | goto t => exact hp.elim
    | panic ch => exact hp.elim
    | outgrown => exact hp.elim
  · -- behind the iterator
    rintro e W2 ⟨⟨v, rfl⟩, (⟨hi, hl, hk⟩ | ⟨pre, hpre, c, hi, hl, hk⟩)⟩
    · exact ⟨none, _, by have := run_endLoop (P := P) hl (by rw [hrec]; simp); rw [hrec] at this; exact this, hdone _ (hI.putObj _ hi (by omega) (by omega)) ((World.putObj_heap_other (by omega)).trans hk)⟩
    · exact ⟨some c, _, by have := run_endLoop (P := P) hl (by rw [hrec]; simp); rw [hrec] at this; exact this, hstop c pre _ hpre ((hIx c).putObj _ hi (by omega) (by omega)) ((World.putObj_heap_other (by omega)).trans hk)⟩
theorem wp_rangedKA {α : Type} {g : Operand} {ps : Array Tmp} {assign body : Code} {Q : Exit → Act → World → Prop} {a : Act} {w : World}
    {gf : Nat} {lb : Array Value} (hg : a.eval g = .func (.func gf) #[] lb) (eg : ∀ args w, (callFunc gf args).run P w = .ok (.enter gf args) w)
    {encs : α → Array Value} {k : Nat} {xs : List α} {K : World → Prop} (hseq : HandsK P gf lb encs k xs K w) (hps : ∀ x, (encs x).size = ps.size)
    (I : List α → World → Prop) (Ix : Code → List α → World → Prop) (hI : Abide w.heap.size (k + 2) I) (hIx : ∀ c, Abide w.heap.size 2 (Ix c)) (h0 : I [] w) (hK : ∀ pre W, I pre W → K W)
    (M : Act → List α → α → Act → World → Prop) (hM : ∀ a pre x a', Abide w.heap.size 2 (fun (_ : Unit) W => M a pre x a' W))
    (hassign : ∀ (l : Nat) (pre : List α) (x : α) (post : List α) (W : World), xs = pre ++ x :: post → w.heap.size + (k + 2) ≤ W.heap.size → I pre W →
      assign.wpIn (Fence.wide.inRound l) 7 P (assigned w.heap.size (k + 2) (M a pre x) W) { tmps := (ps.zip (encs x)).foldl (fun t (p, v) => t.setIfInBounds p v) a.tmps, defers := [] } W)
    (hbody : ∀ (l : Nat) (pre : List α) (x : α) (post : List α) (a' : Act) (W : World), xs = pre ++ x :: post → w.heap.size + (k + 2) ≤ W.heap.size → M a pre x a' W →
      body.wpIn (Fence.wide.inRound l) 7 P (left w.heap.size (k + 2) I Ix (pre ++ [x]) W) a' W)
    (hdone : ∀ (W : World), I xs W → W.heap[w.heap.size]? = some (.deferred (some [])) → Q .normal { a with defers := { target := .collected w.heap.size, args := #[] } :: a.defers } W)
    (hstop : ∀ (c : Code) (pre : List α) (W : World), pre <+: xs → Ix c pre W → W.heap[w.heap.size]? = some (.deferred (some [])) → c.wpIn Fence.wide 9 P Q { a with defers := { target := .collected w.heap.size, args := #[] } :: a.defers } W) :
    (Code.rangeFunc g ps assign body).wpIn Fence.wide 9 P Q a w :=
  wp_rangedK hg eg hseq hps I Ix hI hIx h0 hK (M a) (hM a) hassign hbody hdone hstop
end Go.Proofs.YtflnlenkgbphpaaGreatDoor

