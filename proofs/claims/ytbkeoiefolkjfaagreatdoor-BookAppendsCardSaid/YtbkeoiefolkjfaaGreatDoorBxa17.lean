/- Texts put together: EF, EG, AE, WM, WN, WO. -/
import Derived.Lib.Hide
import Derived.OwnWalk
import Derived.Laws.AppendOwn
import Derived.Test.YtbkeoiefolkjfaaGreatDoorBxa5
import Derived.Test.YtbkeoiefolkjfaaGreatDoorBxa7
import Derived.Test.YtbkeoiefolkjfaaGreatDoorBxa13
import Derived.Test.YtbkeoiefolkjfaaGreatDoorBxa15
import Derived.Test.YtbkeoiefolkjfaaGreatDoorBxa16
set_option linter.unusedVariables false
set_option maxRecDepth 100000
set_option maxHeartbeats 16000000
namespace Go.Proofs.YtbkeoiefolkjfaaGreatDoor
open Go.RowKit Go.Extern.Stop Go.Stop Go.Extern
theorem ErrT.below {w w' : World} {N : Nat} (h : ErrT w) (hb : Below N w w') (hN : w.heap.size <= N) : ErrT w' := by
 have hlt : 1 < w.heap.size := World.block_lt_of_cell? w _ h
 exact (hb.cell (p := ⟨1, 0, none⟩) (Nat.lt_of_lt_of_le hlt hN)).trans h
theorem as_hit (e t : Addr) (old : Value) (w : World) (hg : ErrT w) (ht0 : w.cell? t = some old) (hf0 : w.frozen? t = false) :
  Calls Tryz.prog 151 #[.iface 68 (.pointer (some e)), .iface 188 (.pointer (some t))] w
   fun ev w' => ev = .returned (.bool true) /\ ∃ w1, Below w.heap.size w w1 /\ w' = w1.setCell t (.pointer (some e)) := by
 have h6 := @run_callFunc_extern Tryz.prog 183 _ (fun args => ReflectliteValue.unpack (args.getD 0 (.tuple #[]))) Tryz.func183 (by kernel_rfl) (by kernel_rfl) (by kernel_rfl) (by kernel_rfl)
 have h7 := @run_callFunc_extern Tryz.prog 184 _ (ReflectliteValue.methodAny (ReflectliteValue.valueError "reflectlite.Value.Type" 0) (fun t _ _ _ => ReflectliteType.toType t)) Tryz.func184 (by kernel_rfl) (by kernel_rfl) (by kernel_rfl) (by kernel_rfl)
 have h8 := @run_callFunc_extern Tryz.prog 185 _ (ReflectliteValue.method (ReflectliteValue.valueError "reflectlite.Value.IsNil" 0) ReflectliteValue.isNil) Tryz.func185 (by kernel_rfl) (by kernel_rfl) (by kernel_rfl) (by kernel_rfl)
 have h27 := @run_callFunc_extern Tryz.prog 240 _ (ReflectliteType.abiMethod fun t => do pure (.int .u8 (<- Rtype.kind t))) Tryz.func240 (by kernel_rfl) (by kernel_rfl) (by kernel_rfl) (by kernel_rfl)
 have h37 := @run_callFunc_extern Tryz.prog 256 _ (ReflectliteType.method ReflectliteType.elem) Tryz.func256 (by kernel_rfl) (by kernel_rfl) (by kernel_rfl) (by kernel_rfl)
 have h38 := @run_callFunc_extern Tryz.prog 257 _ (ReflectliteType.relation "Implements" ReflectliteType.implements_) Tryz.func257 (by kernel_rfl) (by kernel_rfl) (by kernel_rfl) (by kernel_rfl)
 have f6 := valueOfPP
 have f7 := typePP
 have mK := methodKind
 have mE := methodElem
 have mI := methodImplements
 have k27 := kindPP
 have k25 := kindP
 have e27 := elemPP
 have i25 := implementsP
 have htl : t.block < w.heap.size := by
  rcases Nat.lt_or_ge t.block w.heap.size with h | h
  ·exact h
  simp [World.cell?, Array.getElem?_eq_none h] at ht0
 obtain ⟨wa, hwa⟩ : ∃ wa, wa = (w.alloc (.cells #[.pointer (some t)] 188)).alloc (.cells #[.pointer (some ⟨9, 188, none⟩), .pointer (some ⟨w.heap.size, 0, none⟩), .int .u64 150] 219) := ⟨_, rfl⟩
 have hba : Below w.heap.size w wa := by rw [hwa]; exact ((Below.refl _ w).alloc (Nat.le_refl _) _).alloc (by simp) _
 have n8 := isNilPP ⟨w.heap.size, 0, none⟩ t wa (by rw [hwa]; simp)
 have hg2 : wa.cell? ⟨1, 0, none⟩ = some (.iface 246 (.agg #[.pointer (some ⟨9, 28, none⟩)])) := hg.below hba (Nat.le_refl _)
 have HI := Lib.hid (asIn_hit e t ⟨w.heap.size, 0, none⟩ old wa (by rw [hwa]; simp) ((hba.cell htl).trans ht0) ((hba.frozen htl).trans hf0))
 have HB := Lib.hid hba
 subst hwa
 clear hba
 go_enter Tryz.func151, Tryz.ntmps151
 go_wp2_with fail
 refine HI.out.mono ?_
 rintro ev w2 ⟨rfl, rfl⟩
 go_wp2_with fail
 go_ret
 exact ⟨rfl, _, (HB.out.alloc HB.out.size _).alloc (HB.out.alloc HB.out.size _).size _, rfl⟩
theorem as_miss (n : Int) (t : Addr) (w : World) (hg : ErrT w) :
  Calls Tryz.prog 151 #[.iface 57 (.int .i64 n), .iface 188 (.pointer (some t))] w
   fun ev w' => ev = .returned (.bool false) /\ Below w.heap.size w w' := by
 have h6 := @run_callFunc_extern Tryz.prog 183 _ (fun args => ReflectliteValue.unpack (args.getD 0 (.tuple #[]))) Tryz.func183 (by kernel_rfl) (by kernel_rfl) (by kernel_rfl) (by kernel_rfl)
 have h7 := @run_callFunc_extern Tryz.prog 184 _ (ReflectliteValue.methodAny (ReflectliteValue.valueError "reflectlite.Value.Type" 0) (fun t _ _ _ => ReflectliteType.toType t)) Tryz.func184 (by kernel_rfl) (by kernel_rfl) (by kernel_rfl) (by kernel_rfl)
 have h8 := @run_callFunc_extern Tryz.prog 185 _ (ReflectliteValue.method (ReflectliteValue.valueError "reflectlite.Value.IsNil" 0) ReflectliteValue.isNil) Tryz.func185 (by kernel_rfl) (by kernel_rfl) (by kernel_rfl) (by kernel_rfl)
 have h27 := @run_callFunc_extern Tryz.prog 240 _ (ReflectliteType.abiMethod fun t => do pure (.int .u8 (<- Rtype.kind t))) Tryz.func240 (by kernel_rfl) (by kernel_rfl) (by kernel_rfl) (by kernel_rfl)
 have h37 := @run_callFunc_extern Tryz.prog 256 _ (ReflectliteType.method ReflectliteType.elem) Tryz.func256 (by kernel_rfl) (by kernel_rfl) (by kernel_rfl) (by kernel_rfl)
 have h38 := @run_callFunc_extern Tryz.prog 257 _ (ReflectliteType.relation "Implements" ReflectliteType.implements_) Tryz.func257 (by kernel_rfl) (by kernel_rfl) (by kernel_rfl) (by kernel_rfl)
 have f6 := valueOfPP
 have f7 := typePP
 have mK := methodKind
 have mE := methodElem
 have mI := methodImplements
 have k27 := kindPP
 have k25 := kindP
 have e27 := elemPP
 have i25 := implementsP
 obtain ⟨wa, hwa⟩ : ∃ wa, wa = (w.alloc (.cells #[.pointer (some t)] 188)).alloc (.cells #[.pointer (some ⟨9, 188, none⟩), .pointer (some ⟨w.heap.size, 0, none⟩), .int .u64 150] 219) := ⟨_, rfl⟩
 have hba : Below w.heap.size w wa := by rw [hwa]; exact ((Below.refl _ w).alloc (Nat.le_refl _) _).alloc (by simp) _
 have n8 := isNilPP ⟨w.heap.size, 0, none⟩ t wa (by rw [hwa]; simp)
 have hg2 : wa.cell? ⟨1, 0, none⟩ = some (.iface 246 (.agg #[.pointer (some ⟨9, 28, none⟩)])) := hg.below hba (Nat.le_refl _)
 have HI := Lib.hid (asIn_miss n t ⟨w.heap.size, 0, none⟩ wa)
 have HB := Lib.hid hba
 subst hwa
 clear hba
 go_enter Tryz.func151, Tryz.ntmps151
 go_wp2_with fail
 refine HI.out.mono ?_
 rintro ev w2 ⟨rfl, b2⟩
 go_wp2_with fail
 go_ret
 exact ⟨rfl, HB.out.trans (b2.mono HB.out.size)⟩
end Go.Proofs.YtbkeoiefolkjfaaGreatDoor
namespace Go.Proofs.YtbkeoiefolkjfaaGreatDoor
open Go.RowKit Go.Shelf
attribute [local go_sem] Oper.semAt_some
def EdV (w : World) (v : Value) (eds : List Ed) : Prop :=
 ∃ A cap, v = .slice A eds.length cap /\ eds.length <= cap /\ ∀ (i : Nat) (ed : Ed), eds[i]? = some ed -> ∃ b off fv, A = some ⟨b, off, none⟩ /\ b < w.heap.size /\ w.cell? ⟨b, off + i * 3, none⟩ = some (.int .i64 ed.kind) /\ w.cell? ⟨b, off + i * 3 + 1, none⟩ = some (.int .i64 ed.id) /\ w.cell? ⟨b, off + i * 3 + 1 + 1, none⟩ = some fv /\ FldR w fv ed.fields
theorem EdV.below {w w' : World} {v : Value} {eds : List Ed} {N : Nat} (h : EdV w v eds) (hb : Below N w w') (hN : w.heap.size <= N) : EdV w' v eds := by
 obtain ⟨A, cap, e, hle, hc⟩ := h
 refine ⟨A, cap, e, hle, fun i ed hi => ?_⟩
 obtain ⟨b, off, fv, e1, hbb, c0, c1, c2, hf⟩ := hc i ed hi
 have hbN : b < N := by omega
 exact ⟨b, off, fv, e1, Nat.lt_of_lt_of_le hbb hb.size, (hb.cell (p := ⟨b, off + i * 3, none⟩) hbN).trans c0, (hb.cell (p := ⟨b, off + i * 3 + 1, none⟩) hbN).trans c1, (hb.cell (p := ⟨b, off + i * 3 + 1 + 1, none⟩) hbN).trans c2, hf.below hb hN⟩
theorem EdsIn.edv {w : World} {v : Value} {eds : List Ed} (h : EdsIn w v eds) : EdV w v eds := by
 obtain ⟨_, A, cap, e, hle, hc⟩ := h
 refine ⟨A, cap, e, hle, fun i ed hi => ?_⟩
 obtain ⟨b, off, fv, e1, hbb, c0, c1, c2, hf⟩ := hc i ed hi
 exact ⟨b, off, fv, e1, hbb, c0, c1, c2, hf.flds, hf.nil⟩
def Fines (eds : List Ed) : Prop := ∀ ed ∈ eds, Fine7 ed.fields
structure Fine8 (fs : List Fld) : Prop where
 len : fs.length <= 1000000
 each : ∀ f ∈ fs, f.1.length <= 100000 /\ f.2.length <= 100000
def Fines8 (eds : List Ed) : Prop := ∀ ed ∈ eds, Fine8 ed.fields
theorem Fines.eight {eds : List Ed} (h : Fines eds) : Fines8 eds := fun ed hm => ⟨by have := (h ed hm).len; omega, (h ed hm).each⟩
theorem Light.fines {eds : List Ed} (h : Light eds) : Fines eds := fun _ he => h.fine he
theorem ErrZ.mono {lo lo' : Nat} {w : World} {u : Value} {a : Int} {n : Nat} (h : ErrZ lo w u a n) (hl : lo' <= lo) : ErrZ lo' w u a n := by
 obtain ⟨h1, h2⟩ := h
 refine ⟨h1, ?_⟩
 rcases h2 with h2 | ⟨k, h3, h4⟩
 ·exact .inl h2
 exact .inr ⟨k, h3.mono hl, h4⟩
theorem ErrZ.fault {lo : Nat} {w : World} {u : Value} {k n : Nat} (h : FaultAt lo w u k n) (hn : n ≠ 0) (h11 : n <= 11) : ErrZ lo w u (k : Nat) n := ⟨h11, .inr ⟨k, h, rfl, hn⟩⟩
theorem fault_any {lo : Nat} (k n : Nat) (a : Int) (u : Value) (w : World) (h : ErrZ lo w u a n) (hn : n ≠ 0) (hg : ErrT w) :
  Calls Tryz.prog 120 #[.int .i64 (k : Nat), u] w fun e w' => ∃ u', e = .returned u' /\ Below w.heap.size w w' /\ FaultAt w.heap.size w' u' k n := by
 obtain ⟨_, h⟩ := h
 obtain ⟨wa, hwa⟩ : ∃ wa, wa = w.alloc (.cells #[.pointer none] 68) := ⟨_, rfl⟩
 have hba : Below w.heap.size w wa := by rw [hwa]; exact (Below.refl _ w).alloc (Nat.le_refl _) _
 have hga : ErrT wa := hg.below hba (Nat.le_refl _)
 have ht : wa.cell? ⟨w.heap.size, 0, none⟩ = some (.pointer none) := by rw [hwa]; simp
 have hf : wa.frozen? ⟨w.heap.size, 0, none⟩ = false := by rw [hwa]; simp
 have hz : wa.heap.size = w.heap.size + 1 := by rw [hwa]; simp
 rcases h with ⟨rfl, _⟩ | ⟨k', ⟨q, _, rfl, hq⟩, _, _⟩
 ·rw [errV_pos n (by omega)]
  have HM := Lib.hid (as_miss (n : Int) ⟨w.heap.size, 0, none⟩ wa hga)
  have HBA := Lib.hid hba
  have FIN : Hid (∀ W, Below wa.heap.size wa W -> FaultAt w.heap.size (W.alloc (.cells #[.int .i64 (k : Nat), .iface 57 (.int .i64 (n : Nat))] 70)) (.iface 68 (.pointer (some ⟨W.heap.size, 0, none⟩))) k n) := by
   intro W hW
   rw [<- errV_pos n (by omega)]
   exact FaultAt.new W k n _ _ rfl (by have := hW.size; omega)
  clear hba hga ht hf
  subst hwa
  go_enter Tryz.func120, Tryz.ntmps120
  go_wp2_with fail
  refine HM.out.mono ?_
  rintro e w2 ⟨rfl, b2⟩
  have F2 := FIN.out w2 b2
  have B2 : Below w.heap.size w w2 := HBA.out.trans (b2.mono HBA.out.size)
  go_wp2_with fail
  go_ret
  exact ⟨_, rfl, B2.alloc B2.size _, F2⟩
 have hql := hq.lt
 have HM := Lib.hid (as_hit ⟨q, 0, none⟩ ⟨w.heap.size, 0, none⟩ (.pointer none) wa hga ht hf)
 have HBA := Lib.hid hba
 have HQ : Hid (∀ w1, Below wa.heap.size wa w1 -> (w1.setCell ⟨w.heap.size, 0, none⟩ (.pointer (some ⟨q, 0, none⟩))).cell? ⟨w.heap.size, 0, none⟩ = some (.pointer (some ⟨q, 0, none⟩)) /\ (w1.setCell ⟨w.heap.size, 0, none⟩ (.pointer (some ⟨q, 0, none⟩))).cell? ⟨q, 1, none⟩ = some (.iface 57 (.int .i64 (n : Nat))) /\ Below w.heap.size w (w1.setCell ⟨w.heap.size, 0, none⟩ (.pointer (some ⟨q, 0, none⟩)))) := by
  intro w1 b1
  have hb : Below w.heap.size w w1 := hba.trans (b1.mono hba.size)
  have c1 : Cells w1 w.heap.size 68 #[.pointer none] := cells_kept (by rw [hwa]; exact Cells.new _ _ _) b1 (by omega)
  have c1' := c1.set 0 (.pointer (some ⟨q, 0, none⟩))
  have cq : Cells w1 q 70 #[.int .i64 k', errV n] := cells_kept hq hb hql
  have cq' : Cells (w1.setCell ⟨w.heap.size, 0, none⟩ (.pointer (some ⟨q, 0, none⟩))) q 70 #[.int .i64 k', errV n] := cq.other (p := ⟨w.heap.size, 0, none⟩) (by show q ≠ w.heap.size; omega) _
  refine ⟨?_, ?_, hb.setCell (p := ⟨w.heap.size, 0, none⟩) (Nat.le_refl _) _⟩
  ·rw [c1'.cell 0]; rfl
  rw [<- errV_pos n (by omega), cq'.cell 1]; rfl
 have FIN : Hid (∀ W : World, w.heap.size <= W.heap.size -> FaultAt w.heap.size (W.alloc (.cells #[.int .i64 (k : Nat), .iface 57 (.int .i64 (n : Nat))] 70)) (.iface 68 (.pointer (some ⟨W.heap.size, 0, none⟩))) k n) := by
  intro W hW
  rw [<- errV_pos n (by omega)]
  exact FaultAt.new W k n _ _ rfl hW
 clear hba hga ht hf hq
 subst hwa
 go_enter Tryz.func120, Tryz.ntmps120
 go_wp2_with fail
 refine HM.out.mono ?_
 rintro e w2 ⟨rfl, w1, b1, hw2⟩
 obtain ⟨c1, c2, hb⟩ := HQ.out w1 b1
 rw [<- hw2] at c1 c2 hb
 have F2 := FIN.out w2 hb.size
 clear hw2 HQ b1 HM
 go_wp2_with fail
 go_ret
 exact ⟨_, rfl, hb.alloc hb.size _, F2⟩
theorem chkE_any8 (ed : Ed) (fv : Value) (w : World) (h : Flds w fv ed.fields) (hf : Fine8 ed.fields) :
  Calls Tryz.prog 119 #[.agg #[.int .i64 ed.kind, .int .i64 ed.id, fv]] w fun e w' => ∃ u a, e = .returned u /\ Below w.heap.size w w' /\ ErrZ w.heap.size w' u a (goodE ed) := by
 obtain ⟨fa, fc, rfl, _, _⟩ := _root_.id h
 obtain ⟨wa, hwa⟩ : ∃ wa, wa = w.alloc (.cells #[.int .i64 ed.kind, .int .i64 ed.id, .slice fa ed.fields.length fc] 40) := ⟨_, rfl⟩
 have hba : Below w.heap.size w wa := by rw [hwa]; exact (Below.refl _ w).alloc (Nat.le_refl _) _
 have HC := Lib.hid (chk_any ed.fields (.slice fa ed.fields.length fc) wa (h.below hba (Nat.le_refl _)) (by have := hf.len; omega) (fun f hm => by have := hf.each f hm; omega))
 have HB := Lib.hid hba
 have GE := Lib.hid (show goodE ed = if ed.kind = 1 \/ ed.kind = 3 then chkN ed.fields else if ed.kind = 2 /\ ed.fields.length = 0 then 0 else 2 from rfl)
 have FIN : Hid (∀ W u, ErrZ wa.heap.size W u (chkAt ed.fields) (chkN ed.fields) -> goodE ed = chkN ed.fields -> ∃ a, ErrZ w.heap.size W u a (goodE ed)) := by
  intro W u hz hg
  rw [hg]
  exact ⟨_, hz.mono hba.size⟩
 have HZ : Hid (∀ W u, ChkV wa.heap.size W u ed.fields -> ErrZ wa.heap.size W u (chkAt ed.fields) (chkN ed.fields)) := fun W u h => ErrZ.of h
 have E0 : Hid (∀ W, goodE ed = 0 -> ErrZ w.heap.size W .nilIface (-9) (goodE ed)) := fun W h => by rw [h]; exact ErrZ.none _ _
 have E2 : Hid (∀ W, goodE ed = 2 -> ErrZ w.heap.size W (.iface 57 (.int .i64 2)) (-9) (goodE ed)) := fun W h => by rw [h]; exact ErrZ.err _ _ 2 (by decide)
 have hlz : ((ed.fields.length : Int) == 0) = decide (ed.fields.length = 0) := by
  rw [Bool.eq_iff_iff]; simp
 clear hba h
 subst hwa
 generalize hgg : goodE ed = ge at *
 generalize chkN ed.fields = cn at *
 generalize chkAt ed.fields = ca at *
 generalize ed.fields.length = fl at *
 generalize ed.kind = kk at *
 generalize ed.id = ii at *
 clear hgg
 by_cases h1 : kk = 1
 ·subst h1
  have hg : ge = cn := by rw [GE.out, if_pos (.inl rfl)]
  go_enter Tryz.func119, Tryz.ntmps119
  go_wp2_with fail
  refine HC.out.mono ?_
  rintro e w2 ⟨u, rfl, b2, hu⟩
  obtain ⟨a, F2⟩ := FIN.out w2 u (HZ.out w2 u hu) hg
  go_wp2_with fail
  go_ret
  first | exact ⟨_, rfl, HB.out.trans (b2.mono HB.out.size), a, F2⟩ | exact ⟨_, a, rfl, HB.out.trans (b2.mono HB.out.size), F2⟩
 by_cases h3 : kk = 3
 ·subst h3
  have hg : ge = cn := by rw [GE.out, if_pos (.inr rfl)]
  go_enter Tryz.func119, Tryz.ntmps119
  go_wp2_with fail
  refine HC.out.mono ?_
  rintro e w2 ⟨u, rfl, b2, hu⟩
  obtain ⟨a, F2⟩ := FIN.out w2 u (HZ.out w2 u hu) hg
  go_wp2_with fail
  go_ret
  first | exact ⟨_, rfl, HB.out.trans (b2.mono HB.out.size), a, F2⟩ | exact ⟨_, a, rfl, HB.out.trans (b2.mono HB.out.size), F2⟩
 have q1 : (kk == 1) = false := by simpa using h1
 have q3 : (kk == 3) = false := by simpa using h3
 by_cases h2 : kk = 2
 ·subst h2
  by_cases h0 : fl = 0
  ·have hg : ge = 0 := by rw [GE.out, if_neg (by omega), if_pos ⟨rfl, h0⟩]
   have F := E0.out (w.alloc (.cells #[.int .i64 2, .int .i64 ii, .slice fa fl fc] 40)) hg
   clear hg GE E0 E2 FIN HZ
   subst h0
   go_enter Tryz.func119, Tryz.ntmps119
   go_wp2_with fail
   go_ret
   first | exact ⟨_, rfl, HB.out, _, F⟩ | exact ⟨_, _, rfl, HB.out, F⟩
  have hg : ge = 2 := by rw [GE.out, if_neg (by omega), if_neg (by intro h; exact h0 h.2)]
  have F := E2.out (w.alloc (.cells #[.int .i64 2, .int .i64 ii, .slice fa fl fc] 40)) hg
  clear hg GE E0 E2 FIN HZ
  rw [decide_eq_false h0] at hlz
  go_enter Tryz.func119, Tryz.ntmps119
  go_wp2_with fail
  go_ret
  first | exact ⟨_, rfl, HB.out, _, F⟩ | exact ⟨_, _, rfl, HB.out, F⟩
 have q2 : (kk == 2) = false := by simpa using h2
 have hg : ge = 2 := by rw [GE.out, if_neg (by omega), if_neg (by intro h; exact h2 h.1)]
 have F := E2.out (w.alloc (.cells #[.int .i64 kk, .int .i64 ii, .slice fa fl fc] 40)) hg
 clear hg GE E0 E2 FIN HZ
 go_enter Tryz.func119, Tryz.ntmps119
 go_wp2_with fail
 go_ret
 first | exact ⟨_, rfl, HB.out, _, F⟩ | exact ⟨_, _, rfl, HB.out, F⟩
theorem checkB_any8 (eds : List Ed) (v : Value) (w : World) (h : EdV w v eds) (hl : eds.length <= 1000000) (hf : Fines8 eds) (hg : ErrT w) :
  Calls Tryz.prog 83 #[v] w fun e w' => ∃ u, e = .returned u /\ Below w.heap.size w w' /\ ErrZ w.heap.size w' u (chkB eds).1 (chkB eds).2 := by
 obtain ⟨A, cap, rfl, hle, hc⟩ := h
 have PC := Lib.hid hc
 have HF := Lib.hid hf
 have HG := Lib.hid hg
 clear hc hf hg
 by_cases h0 : eds.length = 0
 ·have e0 : chkB eds = (-9, 1) := by unfold chkB; rw [if_pos (by omega)]
  rw [e0, h0]
  have F := ErrZ.err w.heap.size w 1 (by decide)
  rw [show errV 1 = .iface 57 (.int .i64 1) from rfl] at F
  go_enter Tryz.func83, Tryz.ntmps83
  go_wp2_with fail
  go_ret
  exact ⟨_, rfl, Below.refl _ _, F⟩
 have q0 : ((eds.length : Int) == 0) = false := by simp; intro h; exact h0 (by rw [h]; rfl)
 by_cases h40 : 40 < eds.length
 ·have e0 : chkB eds = (-9, 1) := by unfold chkB; rw [if_pos (by omega)]
  rw [e0]
  have F := ErrZ.err w.heap.size w 1 (by decide)
  rw [show errV 1 = .iface 57 (.int .i64 1) from rfl] at F
  go_enter Tryz.func83, Tryz.ntmps83
  go_wp2_with fail
  go_ret
  exact ⟨_, rfl, Below.refl _ _, F⟩
 have e1 : chkB eds = chkOn 0 eds := by unfold chkB; rw [if_neg (by omega)]
 rw [e1]
 go_enter Tryz.func83, Tryz.ntmps83
 go_wp2_with fail
 go_loopw [17] (fun i wr => ∃ k : Nat, k <= eds.length /\ i = .int .i64 k /\ (∀ x ∈ eds.take k, goodE x = 0) /\ Below w.heap.size w wr) (fun i _ => eds.length - (intOf i).toNat)
 case atStart => exact ⟨0, Nat.zero_le _, rfl, (fun x hx => by simp at hx), Below.refl _ _⟩
 case round =>
 obtain ⟨k, hk, rfl, hsm, hb⟩ := hrel
 by_cases hlt : k < eds.length
 ·obtain ⟨ed, hed⟩ : ∃ ed, eds[k]? = some ed := ⟨_, List.getElem?_eq_getElem hlt⟩
  obtain ⟨b, off, fv, rfl, hbb, c0, c1, c2, hfl⟩ := PC.out k ed hed
  obtain ⟨fa, fc, rfl, _, _⟩ := _root_.id hfl.1
  replace c0 := (hb.cell (p := ⟨b, off + k * 3, none⟩) hbb).trans c0
  replace c1 := (hb.cell (p := ⟨b, off + k * 3 + 1, none⟩) hbb).trans c1
  replace c2 := (hb.cell (p := ⟨b, off + k * 3 + 1 + 1, none⟩) hbb).trans c2
  obtain ⟨wa, hwa⟩ : ∃ wa, wa = wr.alloc (.cells #[.int .i64 ed.kind, .int .i64 ed.id, .slice fa ed.fields.length fc] 40) := ⟨_, rfl⟩
  have hba : Below w.heap.size w wa := by rw [hwa]; exact hb.alloc hb.size _
  have CK := Lib.hid (chkE_any8 ed (.slice fa ed.fields.length fc) wa (hfl.1.below hba (Nat.le_refl _)) (HF.out ed (List.mem_of_getElem? hed)))
  have SM : Hid (goodE ed = 0 -> ∀ x ∈ eds.take (k + 1), goodE x = 0) := fun hz x hx => by
   rw [take_snoc hed] at hx
   rcases List.mem_append.1 hx with hx | hx
   ·exact hsm x hx
   rw [List.mem_singleton.1 hx]; exact hz
  have AT : Hid (goodE ed ≠ 0 -> chkOn 0 eds = (((k : Nat) : Int), goodE ed)) := fun hz => by rw [chkOn_at eds 0 k ed hsm hed hz, Nat.zero_add]
  have HBA := Lib.hid hba
  have hle11 := goodE_le ed
  clear hed hsm hfl hba
  generalize goodE ed = ge at *
  subst hwa
  go_wp2_with fail
  refine CK.out.mono ?_
  rintro e w2 ⟨u, a, rfl, b2, hz⟩
  have B2 := Lib.hid (HBA.out.trans (b2.mono HBA.out.size))
  by_cases hg0 : ge = 0
  ·subst hg0
   obtain ⟨_, ⟨rfl, _⟩ | ⟨_, _, _, hx⟩⟩ := hz
   ·have SM1 := Lib.hid (SM.out rfl)
    clear SM AT CK
    rw [show errV 0 = .nilIface from rfl]
    go_wp2_with fail
    go_roundw
    case rel => exact ⟨k + 1, hlt, by go_num, SM1.out, B2.out⟩
    case measure => simp [intOf]; omega
   exact absurd rfl hx
  have FA := Lib.hid (fault_any k ge a u w2 hz hg0 (HG.out.below B2.out (Nat.le_refl _)))
  have AT1 := AT.out hg0
  have hform : (∃ z, u = .iface 57 (.int .i64 z)) \/ ∃ q, u = .iface 68 (.pointer (some ⟨q, 0, none⟩)) := by
   obtain ⟨_, ⟨rfl, _⟩ | ⟨_, ⟨q, _, rfl, _⟩, _, _⟩⟩ := hz
   ·rw [errV_pos ge (by omega)]; exact .inl ⟨_, rfl⟩
   exact .inr ⟨q, rfl⟩
  clear hz SM AT CK
  rcases hform with ⟨z, rfl⟩ | ⟨q, rfl⟩
  all_goals
   go_wp2_with fail
   refine FA.out.mono ?_
   rintro e w3 ⟨u', rfl, b3, hfa⟩
   have Z3 : Hid (ErrZ w.heap.size w3 u' (chkOn 0 eds).1 (chkOn 0 eds).2) := by
    show ErrZ _ _ _ _ _
    rw [AT1]; exact ErrZ.fault (hfa.mono B2.out.size) hg0 hle11
   have B3 := Lib.hid (B2.out.trans (b3.mono B2.out.size))
   clear hfa b3
   go_wp2_with fail
   go_ret
   exact ⟨_, rfl, B3.out, Z3.out⟩
 obtain rfl : k = eds.length := by omega
 rw [List.take_length] at hsm
 have HZ : ErrZ w.heap.size wr .nilIface (chkOn 0 eds).1 (chkOn 0 eds).2 := by rw [chkOn_all eds 0 hsm]; exact ErrZ.none w.heap.size wr
 clear PC hsm
 go_wp2_with fail
 go_ret
 exact ⟨_, rfl, hb, HZ⟩
end Go.Proofs.YtbkeoiefolkjfaaGreatDoor
namespace Go.Proofs.YtbkeoiefolkjfaaGreatDoor
open Go.RowKit Go.Shelf
attribute [local go_sem] Oper.semAt_some
theorem var_below {P : Program} {w w' : World} {N : Nat} {name : String} {cs : Array Value} (h : w.var? P name = some cs) (hb : Below N w w') (hN : w.heap.size <= N) : w'.var? P name = some cs := by
 unfold World.var? at *
 cases hg : P.globalNamed name with
 | none => simp [hg] at h
 | some g =>
 simp only [hg, Option.bind_some] at h ⊢
 have hlt : g < w.heap.size := by
  rcases Nat.lt_or_ge g w.heap.size with h' | h'
  ·exact h'
  rw [Array.getElem?_eq_none h'] at h; simp at h
 rw [hb.block g (by omega)]
 exact h
structure Tabs (w : World) : Prop where
 err : ErrT w
 pow : Lib.TabIs Tryz.prog w "internal/strconv.uint64pow10" .u64 Lib.pow10Tab
 syn : ∃ tp p, w.var? Tryz.prog "strconv.ErrSyntax" = some #[.iface tp p]
 ran : ∃ tp p, w.var? Tryz.prog "strconv.ErrRange" = some #[.iface tp p]
theorem Tabs.below {w w' : World} {N : Nat} (h : Tabs w) (hb : Below N w w') (hN : w.heap.size <= N) : Tabs w' := by
 obtain ⟨a, b, ⟨t1, p1, c⟩, ⟨t2, p2, d⟩⟩ := h
 exact ⟨a.below hb hN, var_below b hb hN, ⟨t1, p1, var_below c hb hN⟩, ⟨t2, p2, var_below d hb hN⟩⟩
theorem bsameA (a b : List UInt8) : ((B a).toList == (B b).toList) = decide (a = b) := by rw [Lib.toList_data, Lib.toList_data, B_data, B_data, Bool.eq_iff_iff]; simp
theorem word_any (k : Int) (w : World) : Calls Tryz.prog 122 #[.int .i64 k] w fun e w' => e = .returned (.string (B (wordL k))) /\ w' = w := by
 unfold wordL
 by_cases h1 : k = 1
 ·subst h1
  go_enter Tryz.func122, Tryz.ntmps122
  go_wp2_with fail
  go_ret
  exact ⟨rfl, rfl⟩
 have q1 : (k == 1) = false := by simpa using h1
 rw [if_neg h1]
 by_cases h2 : k = 2
 ·subst h2
  go_enter Tryz.func122, Tryz.ntmps122
  go_wp2_with fail
  go_ret
  exact ⟨rfl, rfl⟩
 have q2 : (k == 2) = false := by simpa using h2
 rw [if_neg h2]
 by_cases h3 : k = 3
 ·subst h3
  go_enter Tryz.func122, Tryz.ntmps122
  go_wp2_with fail
  go_ret
  exact ⟨rfl, rfl⟩
 have q3 : (k == 3) = false := by simpa using h3
 rw [if_neg h3]
 go_enter Tryz.func122, Tryz.ntmps122
 go_wp2_with fail
 go_ret
 exact ⟨rfl, rfl⟩
theorem grow_below {w : World} (n : Nat) (os : Array Obj) : Below w.heap.size w (Go.Sort.grow (w.drewN n) os) :=
 ⟨rfl, rfl, rfl, by rw [Go.Sort.size_grow]; exact Nat.le_add_right _ _, fun k hk => Go.Sort.heap_grow_old _ _ hk⟩
theorem lineA_any (ed : Ed) (fv : Value) (hi : I64 ed.id) (w : World) (ht : Tabs w) :
  Calls Tryz.prog 85 #[.agg #[.int .i64 ed.kind, .int .i64 ed.id, fv]] w fun e w' => e = .returned (.string (B (lineA ed.kind ed.id))) /\ Below w.heap.size w w' := by
 obtain ⟨wa, hwa⟩ : ∃ wa, wa = w.alloc (.cells #[.int .i64 ed.kind, .int .i64 ed.id, fv] 40) := ⟨_, rfl⟩
 have hba : Below w.heap.size w wa := by rw [hwa]; exact (Below.refl _ w).alloc (Nat.le_refl _) _
 have HB := Lib.hid hba
 have IT := Lib.hid (Tryz.strconv_Itoa ed.id hi.1 hi.2 wa (ht.below hba (Nat.le_refl _)).pow)
 have WD := Lib.hid (word_any ed.kind wa)
 have hil := Lib.itoa_length_le ed.id hi.1 hi.2
 have k0 : wa.cell? ⟨w.heap.size, 0, none⟩ = some (.int .i64 ed.kind) := by rw [hwa]; simp
 have k1 : wa.cell? ⟨w.heap.size, 1, none⟩ = some (.int .i64 ed.id) := by rw [hwa]; simp
 by_cases hk : ed.kind = 1 \/ ed.kind = 2 \/ ed.kind = 3
 ·have e3 : Hid (∀ z : ByteArray, z = (⟨(Lib.itoa ed.id).toArray⟩ : ByteArray) -> (⟨#[32]⟩ : ByteArray) ++ B (wordL ed.kind) ++ ⟨#[32]⟩ ++ z = B (lineA ed.kind ed.id)) := by
   rintro z rfl
   unfold lineA
   rw [if_pos hk, show (⟨#[32]⟩ : ByteArray) = B [32] from rfl, show (⟨(Lib.itoa ed.id).toArray⟩ : ByteArray) = B (Lib.itoa ed.id) from rfl, B_append, B_append, B_append]
   congr 1; simp
  have hne : ((B (wordL ed.kind)) == (⟨#[]⟩ : ByteArray)) = false := by
   rcases hk with h | h | h <;> rw [h] <;> decide
  have hne2 : (B (wordL ed.kind)).toList.isEmpty = false := by
   rcases hk with h | h | h <;> rw [h] <;> decide +kernel
  have hws : (B (wordL ed.kind)).size <= 7 := by rw [B_size]; rcases hk with h | h | h <;> rw [h] <;> decide
  have his : (⟨(Lib.itoa ed.id).toArray⟩ : ByteArray).size <= 21 := by show (Lib.itoa ed.id).toArray.size <= 21; simpa using hil
  generalize (⟨(Lib.itoa ed.id).toArray⟩ : ByteArray) = z at *
  generalize B (wordL ed.kind) = wd at *
  have s1 : ((⟨#[32]⟩ : ByteArray) ++ wd).size <= 8 := by rw [ByteArray.size_append]; show 1 + _ <= _; omega
  have s2 : ((⟨#[32]⟩ : ByteArray) ++ wd ++ ⟨#[32]⟩).size <= 9 := by rw [ByteArray.size_append]; show _ + 1 <= _; omega
  clear hba ht
  subst hwa
  go_enter Tryz.func85, Tryz.ntmps85
  go_wp2_with fail
  refine WD.out.mono ?_
  rintro e w2 ⟨rfl, rfl⟩
  go_wp2_with fail
  refine IT.out.mono ?_
  rintro e w3 ⟨rfl, n, os, rfl⟩
  have B3 := Lib.hid (HB.out.trans ((grow_below n os).mono HB.out.size))
  go_wp2_with fail
  go_ret
  exact ⟨by rw [e3.out _ rfl]; rfl, B3.out⟩
 have e0 : wordL ed.kind = [] := by
  unfold wordL
  rw [if_neg (by omega), if_neg (by omega), if_neg (by omega)]
 have e1 : lineA ed.kind ed.id = [] := by unfold lineA; rw [if_neg hk]
 rw [e0] at WD
 rw [e1]
 rw [show B [] = (⟨#[]⟩ : ByteArray) from rfl] at WD ⊢
 clear hba ht
 subst hwa
 go_enter Tryz.func85, Tryz.ntmps85
 go_wp2_with fail
 refine WD.out.mono ?_
 rintro e w2 ⟨rfl, rfl⟩
 go_wp2_with fail
 go_ret
 exact ⟨rfl, HB.out⟩
end Go.Proofs.YtbkeoiefolkjfaaGreatDoor
namespace Go.Proofs.YtbkeoiefolkjfaaGreatDoor
open Go.RowKit Go.Shelf
theorem head_at : ∀ (l : List UInt8) (k : Nat), l[k]? = some 10 -> (∀ j, j < k -> l[j]? ≠ some 10) -> head l = l.take k /\ nl l = true /\ used l = k + 1
 | [], k, h, _ => by simp at h
 | a :: t, 0, h, _ => by
  have : a = 10 := by simpa using h
  subst this
  exact ⟨rfl, rfl, rfl⟩
 | a :: t, k + 1, h, hn => by
  have ha : a ≠ 10 := fun e => hn 0 (by omega) (by rw [e]; rfl)
  obtain ⟨h1, h2, h3⟩ := head_at t k (by simpa using h) (fun j hj => by have := hn (j + 1) (by omega); simpa using this)
  have e1 : head (a :: t) = a :: head t := by simp [head, ha]
  have e2 : nl (a :: t) = nl t := by simp [nl, Ne.symm ha]
  refine ⟨by rw [e1, h1]; rfl, by rw [e2, h2], ?_⟩
  unfold used at h3 ⊢
  rw [e1, e2, List.length_cons]; omega
theorem head_none : ∀ (l : List UInt8), (∀ j : Nat, l[j]? ≠ some 10) -> head l = l /\ nl l = false /\ used l = l.length
 | [], _ => ⟨rfl, rfl, rfl⟩
 | a :: t, hn => by
  have ha : a ≠ 10 := fun e => hn 0 (by rw [e]; rfl)
  obtain ⟨h1, h2, h3⟩ := head_none t (fun j => by have := hn (j + 1); simpa using this)
  have e1 : head (a :: t) = a :: head t := by simp [head, ha]
  have e2 : nl (a :: t) = nl t := by simp [nl, Ne.symm ha]
  refine ⟨by rw [e1, h1], by rw [e2, h2], ?_⟩
  unfold used at h3 ⊢
  rw [e1, e2, List.length_cons]; simp only [List.length_cons]; omega
def cellsOf (xs : List Ln) : List Value := xs.flatMap fun x => (lineV x).toList
theorem cellsOf_snoc (xs : List Ln) (x : Ln) : cellsOf (xs ++ [x]) = cellsOf xs ++ (lineV x).toList := by unfold cellsOf; simp
theorem lineV_len (x : Ln) : (lineV x).toList.length = 4 := rfl
theorem cellsOf_at : ∀ (pre : List Ln) (x : Ln) (post : List Ln) (j : Nat), j < 4 -> (cellsOf (pre ++ x :: post))[pre.length * 4 + j]? = (lineV x).toList[j]?
 | [], x, post, j, hj => by
  show ((lineV x).toList ++ cellsOf post)[_]? = _
  rw [List.getElem?_append_left (by rw [lineV_len]; simp; omega)]; simp
 | y :: pre, x, post, j, hj => by
  show ((lineV y).toList ++ cellsOf (pre ++ x :: post))[_]? = _
  rw [List.getElem?_append_right (by rw [lineV_len]; simp; omega), lineV_len]
  rw [show (y :: pre).length * 4 + j - 4 = pre.length * 4 + j by simp; omega]
  exact cellsOf_at pre x post j hj
theorem info30 : (Tryz.prog.info? 74).map (fun i => (i.zero, i.size, i.bytes)) = some (some (.agg #[.int .i64 0, .int .i64 0, .string ⟨#[]⟩, .bool false]), 4, 40) := by kernel_rfl
theorem lineCells (W : World) (x : Ln) (t : TypeId) : ∀ j u, (lineV x).toList[j]? = some u -> (W.alloc (.cells (lineV x) t)).cell? ((⟨W.heap.size, 0, none⟩ : Addr).add j) = some u := by
 intro j u h
 have hadd : (⟨W.heap.size, 0, none⟩ : Addr).add j = ⟨W.heap.size, j, none⟩ := by unfold Addr.add; split <;> simp_all
 rw [hadd]
 have := (Cells.new W t (lineV x)).cell j
 rw [this]
 simpa using h
theorem extract_eq (s : ByteArray) (a b : Nat) : s.extract a b = ⟨((s.data.toList.drop a).take (b - a)).toArray⟩ := by
 rw [<- Lib.mk_data (s.extract a b), Lib.extract_data]
structure Upto (l : List UInt8) (k at_ : Nat) (pre : List Ln) : Prop where
 split : linesOf l = pre ++ linesOn pre.length at_ (l.drop at_)
 le : at_ <= k
 none : ∀ j, at_ <= j -> j < k -> l[j]? ≠ some 10
 short : pre.length <= at_
theorem Upto.start (l : List UInt8) : Upto l 0 0 [] := ⟨rfl, Nat.le_refl _, fun j _ h => absurd h (Nat.not_lt_zero j), Nat.le_refl _⟩
theorem Upto.step {l : List UInt8} {k at_ : Nat} {pre : List Ln} (h : Upto l k at_ pre) (hk : l[k]? ≠ some 10) : Upto l (k + 1) at_ pre :=
 ⟨h.split, Nat.le_succ_of_le h.le, fun j a b => by
  by_cases e : j = k
  ·subst e; exact hk
  exact h.none j a (by omega), h.short⟩
theorem Upto.line {l : List UInt8} {k at_ : Nat} {pre : List Ln} (h : Upto l k at_ pre) (hk : l[k]? = some 10) :
  Upto l (k + 1) (k + 1) (pre ++ [⟨pre.length, at_, (l.drop at_).take (k - at_), true⟩]) := by
 have hle := h.le
 have h1 : (l.drop at_)[k - at_]? = some 10 := by rw [List.getElem?_drop, show at_ + (k - at_) = k by omega]; exact hk
 have h2 : ∀ j, j < k - at_ -> (l.drop at_)[j]? ≠ some 10 := fun j hj => by rw [List.getElem?_drop]; exact h.none _ (by omega) (by omega)
 obtain ⟨a, b, c⟩ := head_at _ _ h1 h2
 have hne : l.drop at_ ≠ [] := by intro e; rw [e] at h1; simp at h1
 have hs := h.split
 rw [linesOn_cons _ _ _ hne, a, b, c, List.drop_drop, show at_ + (k - at_ + 1) = k + 1 by omega] at hs
 refine ⟨?_, Nat.le_refl _, fun j x y => by omega, by rw [List.length_append]; have := h.short; simp; omega⟩
 rw [hs, List.append_assoc, List.length_append]; rfl
theorem Upto.last {l : List UInt8} {k at_ : Nat} {pre : List Ln} (h : Upto l k at_ pre) (hk : k = l.length) :
  linesOf l = if at_ < l.length then pre ++ [⟨pre.length, at_, l.drop at_, false⟩] else pre := by
 have hs := h.split
 by_cases hlt : at_ < l.length
 ·rw [if_pos hlt]
  have hne : l.drop at_ ≠ [] := by intro e; have := congrArg List.length e; simp at this; omega
  have h2 : ∀ j : Nat, (l.drop at_)[j]? ≠ some 10 := fun j => by
   rw [List.getElem?_drop]
   by_cases q : at_ + j < k
   ·exact h.none _ (by omega) q
   rw [List.getElem?_eq_none (by omega)]; simp
  obtain ⟨a, b, c⟩ := head_none _ h2
  rw [linesOn_cons _ _ _ hne, a, b, c, List.drop_length, linesOn_nil] at hs
  exact hs
 rw [if_neg hlt]
 rw [List.drop_of_length_le (by omega), linesOn_nil, List.append_nil] at hs
 exact hs
theorem refSplit_any (s : ByteArray) (hs : s.size <= 1000000) (w : World) :
  Calls Tryz.prog 31 #[.string s] w fun e w' => ∃ v, e = .returned v /\ w'.ownsRow w.heap.size 74 4 v (linesOf s.data.toList).length (cellsOf (linesOf s.data.toList)) /\ Below w.heap.size w w' := by
 have N5 := Lib.hid (Lib.size_eq s)
 obtain ⟨i0, hi, hz0, hz1, hz2⟩ := info_parts info30
 go_enter Tryz.func31, Tryz.ntmps31
 go_wp2
 go_loopw [3, 4, 5] (fun v a i wr => ∃ (k at_ : Nat) (pre : List Ln), k <= s.size /\ i = .int .i64 k /\ a = .int .i64 at_ /\ Upto s.data.toList k at_ pre /\ (∃ ao cap, v = .slice ao pre.length cap /\ wr.ownsRow w.heap.size 74 4 (.slice ao pre.length cap) pre.length (cellsOf pre)) /\ Below w.heap.size w wr)
  (fun _ _ i _ => s.size - (intOf i).toNat)
 case atStart => exact ⟨0, 0, [], Nat.zero_le _, rfl, rfl, Upto.start _, ⟨none, 0, rfl, World.ownsRow_nil _ _ _ _⟩, Below.refl _ _⟩
 case round =>
 obtain ⟨k, at_, pre, hk, rfl, rfl, hu, ⟨ao, cap, rfl, hown⟩, hb⟩ := hrel
 by_cases hlt : k < s.size
 ·have e : s.data.toList[k]? = some s[k] := by
   rw [List.getElem?_eq_getElem (by rw [<- Lib.size_eq]; exact hlt)]; rfl
  have E := Lib.hid e
  clear e
  have q2 := byte_eq (c := s[k]) (d := 10) 10 rfl
  cases h5 : (s[k] == 10) with
  | false =>
   rw [h5] at q2
   have hu' := hu.step (k := k) (by rw [E.out]; simpa using h5)
   go_wp2
   go_roundw
   case rel => exact ⟨k + 1, at_, pre, hlt, by go_num, rfl, hu', ⟨ao, cap, rfl, hown⟩, hb⟩
   case measure => simp [intOf]; omega
  | true =>
  rw [h5] at q2
  have hu' := hu.line (k := k) (by rw [E.out]; simpa using h5)
  have he := extract_eq s at_ k
  generalize (s.data.toList.drop at_).take (k - at_) = tx at *
  have z1 := hu.le
  have z2 := hu.short
  have hc := lineCells wr ⟨pre.length, at_, tx, true⟩ 74
  dsimp only [lineV] at hc
  have HC := Lib.hid hc
  clear hc
  go_wp2_with (at_builtin; refine wpList_append_own _ rfl _ _ 71 rfl w.heap.size 74 i0 _ 4 40 Tryz.underlying71 hi hz0 hz1 hz2 rfl (by decide) _ _ _ rfl (hown.alloc _) ⟨wr.heap.size, 0, none⟩ 1 1 _ rfl rfl HC.out ?c2 ?c3 ?c4 ?c5 ?_)
  case c2 => intro u hu; simp at hu; rcases hu with rfl | rfl | rfl | rfl <;> rfl
  case c3 => unfold maxLen; omega
  case c4 => omega
  case c5 => have := hb.size; simp; omega
  intro v' w1 hown' hgrow _
  obtain ⟨g', cap', rfl⟩ := ownsRow_succ hown'
  have hb1 : Below w.heap.size w w1 := (hb.alloc hb.size _).grown hgrow (by have := hb.size; simp; omega) (fun j ej => (hown.lt j ej).1)
  go_wp2
  go_roundw
  case rel =>
   refine ⟨k + 1, k + 1, _, hlt, by go_num, by go_num, hu', ⟨some ⟨g', 0, none⟩, cap', ?_, ?_⟩, hb1⟩
   ·rw [List.length_append]; rfl
   rw [List.length_append, cellsOf_snoc]; exact hown'
  case measure => simp [intOf]; omega
 obtain rfl : k = s.size := by omega
 have hl := hu.last N5.out
 have z1 := hu.le
 have z2 := hu.short
 by_cases h6 : at_ < s.size
 ·rw [if_pos (by rw [<- N5.out]; exact h6)] at hl
  have HL := Lib.hid hl
  have he : s.extract at_ s.size = ⟨(s.data.toList.drop at_).toArray⟩ := by rw [<- Lib.mk_data (s.extract at_ s.size), Lib.extract_to_end]
  clear hl hu
  generalize s.data.toList.drop at_ = tx at *
  have hc := lineCells wr ⟨pre.length, at_, tx, false⟩ 74
  dsimp only [lineV] at hc
  have HC := Lib.hid hc
  clear hc
  go_wp2_with (at_builtin; refine wpList_append_own _ rfl _ _ 71 rfl w.heap.size 74 i0 _ 4 40 Tryz.underlying71 hi hz0 hz1 hz2 rfl (by decide) _ _ _ rfl (hown.alloc _) ⟨wr.heap.size, 0, none⟩ 1 1 _ rfl rfl HC.out ?d2 ?d3 ?d4 ?d5 ?_)
  case d2 => intro u hu; simp at hu; rcases hu with rfl | rfl | rfl | rfl <;> rfl
  case d3 => unfold maxLen; omega
  case d4 => omega
  case d5 => have := hb.size; simp; omega
  intro v' w1 hown' hgrow _
  have hb1 : Below w.heap.size w w1 := (hb.alloc hb.size _).grown hgrow (by have := hb.size; simp; omega) (fun j ej => (hown.lt j ej).1)
  go_wp2
  go_ret
  refine ⟨v', rfl, ?_, hb1⟩
  rw [HL.out, List.length_append, cellsOf_snoc]; exact hown'
 rw [if_neg (by rw [<- N5.out]; exact h6)] at hl
 have HL := Lib.hid hl
 clear hl hu
 go_wp2
 go_ret
 refine ⟨_, rfl, ?_, hb⟩
 rw [HL.out]; exact hown
end Go.Proofs.YtbkeoiefolkjfaaGreatDoor
namespace Go.Proofs.YtbkeoiefolkjfaaGreatDoor
open Go.RowKit Go.Shelf
attribute [local go_sem] Oper.semAt_some
end Go.Proofs.YtbkeoiefolkjfaaGreatDoor
namespace Go.Proofs.YtbkeoiefolkjfaaGreatDoor
open Go.RowKit Go.Shelf
attribute [local go_sem] Oper.semAt_some
def indL (j : List UInt8) (xs : List Ln) : List UInt8 := xs.flatMap fun x => j ++ x.bytes
theorem indL_snoc (j : List UInt8) (pre : List Ln) (x : Ln) : indL j (pre ++ [x]) = indL j pre ++ j ++ x.text ++ (endS x.ended).data.toList := by
 have e : (endS x.ended).data.toList = if x.ended then [10] else [] := by unfold endS; cases x.ended <;> rfl
 rw [e]
 simp [indL, Ln.bytes]
theorem indL_len (j : List UInt8) (n m : Nat) : ∀ xs : List Ln, (∀ x ∈ xs, x.bytes.length <= m) -> xs.length <= n -> j.length <= m -> (indL j xs).length <= n * (2 * m)
 | [], _, _, _ => by simp [indL]
 | x :: xs, h, hn, hj => by
  obtain ⟨n, rfl⟩ : ∃ k, n = k + 1 := ⟨n - 1, by simp at hn; omega⟩
  have ih := indL_len j n m xs (fun y hy => h y (List.mem_cons_of_mem _ hy)) (by simpa using hn) hj
  have h1 := h x List.mem_cons_self
  have e : indL j (x :: xs) = j ++ x.bytes ++ indL j xs := by simp [indL]
  rw [e, Nat.add_mul]
  simp only [List.length_append]
  omega
def InvI (w : World) (z R : Nat) (j : List UInt8) (pre : List Ln) (W : World) : Prop :=
 Boxed W z 9 (.string ⟨j.toArray⟩) /\ Bld (z + 1) R (indL j pre) W /\ Below w.heap.size w W
theorem indent_any (s : ByteArray) (hs : s.size <= 1000000) (sl : Value) (j : List UInt8) (hj : j.length <= 1000000) (w : World)
  (hjoin : Calls Tryz.prog 124 #[sl, .string ⟨#[]⟩] w fun e w' => e = .returned (.string ⟨j.toArray⟩) /\ Below w.heap.size w w') :
  Calls Tryz.prog 87 #[.string s, sl] w fun e w' => e = .returned (.string ⟨(indL j (linesOf s.data.toList)).toArray⟩) /\ Below w.heap.size w w' := by
 have hpos : ∀ x ∈ linesOf s.data.toList, x.bytes.length <= 1000000 := by
  intro x hx
  have e := linesOf_join s.data.toList
  obtain ⟨a, b, hab⟩ := List.append_of_mem hx
  rw [hab, List.flatMap_append, List.flatMap_cons] at e
  have := congrArg List.length e
  rw [<- Lib.size_eq] at this
  simp only [List.length_append] at this
  omega
 have hll := linesOf_length s.data.toList
 rw [<- Lib.size_eq] at hll
 obtain ⟨xs, hxs⟩ : ∃ xs, linesOf s.data.toList = xs := ⟨_, rfl⟩
 rw [hxs] at hpos hll ⊢
 have HXS := Lib.hid hxs
 clear hxs
 refine callsIn_wide (n := 9).1 ?_
 refine callsIn_of_wp_marks Tryz.func87 rfl trivial ?_ rfl
 simp only [Tryz.ntmps87, List.size_toArray, List.length_cons, List.length_nil, Nat.reduceAdd, Nat.reduceSub, Array.replicate_succ, Array.replicate_zero, List.push_toArray, List.append_toArray, List.nil_append, List.cons_append]
 gi_wp2_with fail
 refine ⟨trivial, (callsIn_wide.2 hjoin).mono ?_⟩
 rintro e w1 ⟨rfl, hb1⟩
 have zs := hb1.size
 gi_wp2_with fail
 refine ⟨trivial, (callsIn_wide.2 (split_any s _)).mono ?_⟩
 rintro e w3 ⟨rfl, rfl⟩
 gi_wp2_with fail
 have k5 := Boxed.new w1 9 (.string ⟨j.toArray⟩)
 have kb := Bld.new (w1.alloc (.cells #[.string ⟨j.toArray⟩] 9)) (w1.heap.size + 8)
 rw [World.size_alloc] at kb
 have k7 := boxNew3 w1 (.cells #[.string ⟨j.toArray⟩] 9) (.cells #[.pointer none, .slice none 0 0] 133) 9 (.string s)
 have HH := split_hands s (w1.heap.size + 2) _ k7 (by omega)
 rw [HXS.out] at HH
 have hz : (((w1.alloc (.cells #[.string ⟨j.toArray⟩] 9)).alloc (.cells #[.pointer none, .slice none 0 0] 133)).alloc (.cells #[.string s] 9)).heap.size = w1.heap.size + 3 := by simp
 have ab : ∀ k, k <= 5 -> Abide (w1.heap.size + 3) k (InvI w w1.heap.size (w1.heap.size + 8) j) := fun k hk pre W W' h ht =>
  ⟨ht.box h.1 (.inl (by omega)), h.2.1.turned ht (by omega) (by omega), h.2.2.trans (ht.below (by omega) h.2.2.size)⟩
 have init : InvI w w1.heap.size (w1.heap.size + 8) j [] (((w1.alloc (.cells #[.string ⟨j.toArray⟩] 9)).alloc (.cells #[.pointer none, .slice none 0 0] 133)).alloc (.cells #[.string s] 9)) :=
  ⟨(k5.alloc _).alloc _, kb.alloc _, ((hb1.alloc (by omega) _).alloc (by simp; omega) _).alloc (by simp; omega) _⟩
 refine wp_rangedA (gf := 98) (lb := #[.pointer (some ⟨w1.heap.size + 2, 0, none⟩)]) rfl (enters_of Tryz.func98 (by kernel_rfl) rfl) HH (fun _ => rfl)
  (InvI w w1.heap.size (w1.heap.size + 8) j) (fun _ _ _ => False) (by rw [hz]; exact ab _ (by omega)) (fun _ _ _ _ hs _ => hs) init
  (fun a pre x a' W => ∃ Bx, w1.heap.size + 3 + 5 <= Bx /\ a' = { tmps := (a.tmps.setIfInBounds 12 (.agg (lineV x))).setIfInBounds 7 (.pointer (some ⟨Bx, 0, none⟩)), defers := [] } /\ Cells W Bx 99 (lineV x) /\
   InvI w w1.heap.size (w1.heap.size + 8) j pre W)
  ?hM ?assign ?body ?done ?stop
 case hM =>
  rw [hz]
  rintro a pre x a' _ W W' ⟨Bx, h1, h2, h3, h4⟩ ht
  exact ⟨Bx, h1, h2, (ht.same Bx h3.lt (.inr (by omega))).trans h3, ab 2 (by omega) pre W W' h4 ht⟩
 case assign =>
  rw [hz]
  intro l pre x post W hx hsz hi
  clear hx
  dsimp only [lineV]
  gi_wp2
  exact ⟨(Stay.refl _ _ W).alloc hsz _, W.heap.size, by omega, rfl, Cells.new _ _ _, hi.1.alloc _, hi.2.1.alloc _, hi.2.2.alloc hi.2.2.size _⟩
 case body =>
  rw [hz]
  rintro l pre x post a' W hx hsz ⟨Bx, hB, rfl, hc, h1, h2, h3⟩
  have hlen : (indL j (pre ++ [x])).length <= 1000000 * (2 * 1000000) := by
   refine indL_len j 1000000 1000000 _ (fun y hy => hpos y ?_) ?_ hj
   ·rw [hx]
    rcases List.mem_append.1 hy with h | h
    ·exact List.mem_append_left _ h
    rw [List.mem_singleton.1 h]; simp
   have := congrArg List.length hx
   simp at this ⊢
   omega
  rw [indL_snoc] at hlen
  simp only [List.length_append, <- Lib.size_eq] at hlen
  have HS := Lib.hid (indL_snoc j pre x)
  clear hx
  simp only [List.setIfInBounds_toArray, List.set_cons_zero, List.set_cons_succ, lineV] at hc ⊢
  have c5 := h1.cell
  have hne : Bx ≠ w1.heap.size + 1 := by omega
  obtain ⟨en, hen⟩ : ∃ en, x.ended = en := ⟨_, rfl⟩
  rw [hen] at hlen hc ⊢
  gi_wp2_with fail
  refine ⟨trivial, ((callsIn_wide.2 (writes (w1.heap.size + 1) (w1.heap.size + 8) _ ⟨j.toArray⟩ W h2 (by omega) (by omega) ?_)).inRound l).mono ?_⟩
  ·have : (⟨j.toArray⟩ : ByteArray).size = j.length := by simp [ByteArray.size]
   omega
  rintro e W1 ⟨rfl, b1, o1⟩
  have m1 : Cells W1 Bx 99 _ := o1.other hc hne (by decide)
  have p2 : W1.cell? ⟨Bx, 2, none⟩ = some (.string ⟨x.text.toArray⟩) := m1.cell 2
  have z1 := o1.size
  gi_wp2_with fail
  refine ⟨trivial, ((callsIn_wide.2 (writes (w1.heap.size + 1) (w1.heap.size + 8) _ ⟨x.text.toArray⟩ W1 b1 (by omega) (by omega) ?_)).inRound l).mono ?_⟩
  ·have e1 : (⟨x.text.toArray⟩ : ByteArray).size = x.text.length := by simp [ByteArray.size]
   simp only [List.length_append, e1]
   omega
  rintro e W2 ⟨rfl, b2, o2⟩
  have m2 : Cells W2 Bx 99 _ := o2.other m1 hne (by decide)
  have z2 := o2.size
  have q0 : W2.cell? ⟨Bx, 0, none⟩ = some (.int .i64 x.no) := m2.cell 0
  have q1 : W2.cell? ⟨Bx, 1, none⟩ = some (.int .i64 x.at_) := m2.cell 1
  have q2 : W2.cell? ⟨Bx, 2, none⟩ = some (.string ⟨x.text.toArray⟩) := m2.cell 2
  have q3 : W2.cell? ⟨Bx, 3, none⟩ = some (.bool en) := m2.cell 3
  gi_wp2_with fail
  refine ⟨trivial, ((callsIn_wide.2 (end_any _ _ _ _ _)).inRound l).mono ?_⟩
  rintro e W3 ⟨rfl, rfl⟩
  gi_wp2_with fail
  refine ⟨trivial, ((callsIn_wide.2 (writes (w1.heap.size + 1) (w1.heap.size + 8) _ (endS en) _ (b2.alloc _) (by omega) (by simp; omega) ?_)).inRound l).mono ?_⟩
  ·have e1 : (⟨x.text.toArray⟩ : ByteArray).size = x.text.length := by simp [ByteArray.size]
   simp only [List.length_append]
   omega
  rintro e W4 ⟨rfl, b3, o3⟩
  gi_wp2_with fail
  have oo := ((o1.trans o2).alloc (.cells #[.int .i64 x.no, .int .i64 x.at_, .string ⟨x.text.toArray⟩, .bool en] 99)).trans o3
  refine ⟨oo.stay (by omega) (by omega) (by omega), oo.box h1 (by omega) (by omega), ?_, h3.trans (oo.below (by omega) (by omega) (by have := h3.size; omega))⟩
  rw [HS.out, hen]
  exact b3
 case done =>
  rw [hz]
  rintro W ⟨h1, h2, h3⟩ hmark
  have zW : w1.heap.size + 3 < W.heap.size := (Array.getElem?_eq_some_iff.1 hmark).1
  gi_wp2_with fail
  refine ⟨trivial, (callsIn_wide.2 (Tryz.Builder_String_any_k w.heap.size (w1.heap.size + 1) _ W (h2.library (by omega) (by omega)) (by omega))).mono ?_⟩
  rintro e W1 ⟨rfl, _, g2, g3⟩
  have hK : W1.heap[w1.heap.size + 3]? = some (.deferred (some [])) := g3 _ _ hmark (by simp) (fun c fz e => by cases e)
  gi_wp2
  refine ⟨by simp, .inl ⟨_, _, rfl, run_takeDeferred hK, ?_⟩⟩
  refine ⟨_, results_tmp rfl _ _ _, rfl, (h3.trans g2).trans (belowK_b (w := w) (Nat.le_refl _) W1 _ _ _ (by omega) hK rfl rfl)⟩
 case stop => exact fun _ _ _ _ h => h.elim
end Go.Proofs.YtbkeoiefolkjfaaGreatDoor
