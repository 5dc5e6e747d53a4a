/- Texts put together: UP, UQ, UR, US, UT, NA, TO, NB, NC, RT, NR, ND, NE, NG, EA, NH, NF, NI, NJ, EB, IM, PL, PM, PV, AC, ED, EE. -/
import Derived.Deep.RegionHeld3
import Derived.StillTailTactics
import Derived.Lib.Strings
import Derived.Test.YtbkeoiefolkjfaaGreatDoorProg
import Derived.WalkKit
import Derived.LaidEql
import Derived.Stop.Asserts
import Derived.RowKitTokens
import Derived.Below
import Derived.Test.YtbkeoiefolkjfaaGreatDoorBxa1
import Derived.Test.YtbkeoiefolkjfaaGreatDoorBxa2
import Derived.Test.YtbkeoiefolkjfaaGreatDoorBxa8
import Derived.Test.YtbkeoiefolkjfaaGreatDoorBxa9
import Derived.Test.YtbkeoiefolkjfaaGreatDoorBxa13
import Derived.Test.YtbkeoiefolkjfaaGreatDoorBxa14
import Derived.Test.YtbkeoiefolkjfaaGreatDoorBxa15
set_option linter.unusedVariables false
set_option maxRecDepth 100000
set_option maxHeartbeats 16000000
namespace Go.Proofs.YtbkeoiefolkjfaaGreatDoor
open Go.RowKit Go.Shelf
attribute [local go_sem] Oper.semAt_some errV_0
theorem own_cells_ne {W : World} {lo n b : Nat} {t u : TypeId} {sz : Nat} {v : Value} {xs : List Value} {cs : Array Value} (h : W.ownsRow lo t sz v n xs) (hc : Cells W b u cs) (ht : t ≠ u) : v.ownBlock ≠ some b := by
 intro e
 rcases h.2 with ⟨q, _⟩ | ⟨g, cap, cur, q, _, hg, _⟩
 ·rw [q] at e; cases e
 rw [q] at e
 have : g = b := Option.some.inj e
 subst this
 have := hg.symm.trans hc
 injection this with this
 injection this with _ h2 _
 exact ht h2
theorem own_own_ne {W : World} {lo lo' n m : Nat} {t u : TypeId} {sz sz' : Nat} {v x : Value} {xs ys : List Value} (h : W.ownsRow lo t sz v n xs) (g : W.ownsRow lo' u sz' x m ys) (ht : t ≠ u) : ∀ b, v.ownBlock = some b -> x.ownBlock ≠ some b := by
 intro b hb
 rcases h.2 with ⟨q, _⟩ | ⟨g', cap, cur, q, _, hg, _⟩
 ·rw [q] at hb; cases hb
 rw [q] at hb
 obtain rfl : g' = b := Option.some.inj hb
 exact own_cells_ne g hg (fun e => ht e.symm)
end Go.Proofs.YtbkeoiefolkjfaaGreatDoor
namespace Go.Proofs.YtbkeoiefolkjfaaGreatDoor
open Go.RowKit Go.Shelf
end Go.Proofs.YtbkeoiefolkjfaaGreatDoor
namespace Go.Proofs.YtbkeoiefolkjfaaGreatDoor
open Go.RowKit Go.Shelf
attribute [local go_sem] Oper.semAt_some
end Go.Proofs.YtbkeoiefolkjfaaGreatDoor
namespace Go.Proofs.YtbkeoiefolkjfaaGreatDoor
open Go.RowKit Go.Shelf
attribute [local go_sem] Oper.semAt_some
end Go.Proofs.YtbkeoiefolkjfaaGreatDoor
namespace Go.Proofs.YtbkeoiefolkjfaaGreatDoor
open Go.RowKit Go.Shelf
attribute [local go_sem] Oper.semAt_some
end Go.Proofs.YtbkeoiefolkjfaaGreatDoor
namespace Go.Proofs.YtbkeoiefolkjfaaGreatDoor
open Go.RowKit Go.Shelf
attribute [local go_sem] Oper.semAt_some
end Go.Proofs.YtbkeoiefolkjfaaGreatDoor
namespace Go.Proofs.YtbkeoiefolkjfaaGreatDoor
open Go.RowKit Go.Shelf
end Go.Proofs.YtbkeoiefolkjfaaGreatDoor
namespace Go.Proofs.YtbkeoiefolkjfaaGreatDoor
open Go.RowKit Go.Shelf
end Go.Proofs.YtbkeoiefolkjfaaGreatDoor
namespace Go.Proofs.YtbkeoiefolkjfaaGreatDoor
open Go.RowKit Go.Shelf
attribute [local go_sem] Oper.semAt_some
end Go.Proofs.YtbkeoiefolkjfaaGreatDoor
namespace Go.Proofs.YtbkeoiefolkjfaaGreatDoor
open Go.RowKit
structure Tab (a0 : Act) (n : Nat) (dst : Nat -> Option Nat) (val : Nat -> Value) (s : Nat) (W : Bool -> World) (l : Array Bool) (a : Act) (w : World) : Prop where
 dfr : a.defers = a0.defers
 sz : a.tmps.size = a0.tmps.size
 frm : ∀ j, (∀ k, k < n -> dst k ≠ some j) -> a.tmps[j]? = a0.tmps[j]?
 val : ∀ i d, l.getD i false = true -> dst i = some d -> a.tmps[d]? = some (val i)
 wd : w = W (l.getD s false)
theorem getD_set (l : Array Bool) (i : Nat) (hi : i < l.size) (j : Nat) : (l.setIfInBounds i true).getD j false = if j = i then true else l.getD j false := by
 rw [Array.getD_eq_getD_getElem?, Array.getD_eq_getD_getElem?, Array.getElem?_setIfInBounds]
 by_cases h : i = j
 ·subst h; simp [hi]
 rw [if_neg h, if_neg (Ne.symm h)]
theorem all_done {ops : Array Oper} {l : Array Bool} (hs : l.size = ops.size) (hlow : ∀ i o e, ops[i]? = some o -> e ∈ o.after -> Region.binds .any e = true -> e.on < i) (hr : Region.ready .any ops l = []) : ∀ i, i < ops.size -> l.getD i false = true := by
 intro i
 induction i using Nat.strongRecOn with
 | _ i ih =>
 intro hi
 cases hl : l.getD i false with
 | true => rfl
 | false =>
 exfalso
 have ho : ops[i]? = some ops[i] := Array.getElem?_eq_getElem hi
 have : i ∈ Region.ready .any ops l := by
  unfold Region.ready
  rw [List.mem_filter]
  refine ⟨List.mem_range.2 hi, ?_⟩
  have hl2 : l.getD i true = false := by
   have hil : i < l.size := by omega
   simp [Array.getD, hil] at hl ⊢; exact hl
  simp only [ho, Option.map_some, Option.getD_some, Bool.and_eq_true, Bool.not_eq_true']
  refine ⟨hl2, Array.all_eq_true_iff_forall_mem.2 fun e he => ?_⟩
  cases hb : Region.binds .any e with
  | false => simp
  | true =>
  have h1 := hlow i _ e ho he hb
  simp [ih e.on h1 (by omega)]
 rw [hr] at this
 cases this
end Go.Proofs.YtbkeoiefolkjfaaGreatDoor
namespace Go.Proofs.YtbkeoiefolkjfaaGreatDoor
open Go.RowKit Go.Shelf
attribute [local go_sem] Oper.semAt_some
section
variable {o : Oper} {a : Act} {w : World} {K : Act -> World -> Prop} {Q : Exit -> Act -> World -> Prop}
end
end Go.Proofs.YtbkeoiefolkjfaaGreatDoor
namespace Go.Proofs.YtbkeoiefolkjfaaGreatDoor
open Go.RowKit Go.Shelf
attribute [local go_sem] Oper.semAt_some
end Go.Proofs.YtbkeoiefolkjfaaGreatDoor
namespace Go.Proofs.YtbkeoiefolkjfaaGreatDoor
open Go.RowKit Go.Shelf Go.Maps Go.ChangeShapes Go.Joins Go.WideShapes
attribute [local go_sem] Oper.semAt_some
structure Ed where
 kind : Int
 id : Int
 fields : List Fld
structure EdIn (W : World) (cs : List Value) (ed : Ed) (fv : Value) : Prop where
 cs : cs = [.int .i64 ed.kind, .int .i64 ed.id, fv]
 flds : FldsIn W fv ed.fields
theorem edit_in {H : Type} {enc : TypeId × Value -> H} {W : World} {base : Nat} {sp : Nat -> Bool} {held : Bool} {fuel : Nat} {cs : List Value} {x : DataW H × List MemPlace} (h : DataW.trod enc Tryz.prog W base sp held fuel 40 cs = some x) :
  ∃ ed fv, EdIn W cs ed fv := by
 obtain ⟨xs, m, _, _, hl, hxl, hf⟩ := DataW.trod_struct Tryz.underlying40 h
 have hl2 : cs.length = 3 := hl.trans (by kernel_rfl)
 obtain ⟨c0, c1, c2, rfl⟩ := cells3 hl2
 have k3 : Tryz.prog.cellsOf 3 = 1 := by kernel_rfl
 have k40 : Tryz.prog.cellsOf 38 = 1 := by kernel_rfl
 have hx : ∀ i, i < 3 -> ∃ y, xs[i]? = some y := fun i hi => ⟨_, List.getElem?_eq_getElem (by rw [hxl]; exact hi)⟩
 obtain ⟨y0, e0⟩ := hx 0 (by decide)
 obtain ⟨y1, e1⟩ := hx 1 (by decide)
 obtain ⟨y2, e2⟩ := hx 2 (by decide)
 have q0 : DataW.trod enc Tryz.prog W base sp held m 3 (List.take (Tryz.prog.cellsOf 3) [c0, c1, c2]) = _ := hf 0 _ rfl
 have q1 : DataW.trod enc Tryz.prog W base sp held m 3 (List.take (Tryz.prog.cellsOf 3) [c1, c2]) = _ := hf 1 _ rfl
 have q2 : DataW.trod enc Tryz.prog W base sp held m 38 (List.take (Tryz.prog.cellsOf 38) [c2]) = _ := hf 2 _ rfl
 rw [k3, e0] at q0
 rw [k3, e1] at q1
 rw [k40, e2] at q2
 obtain ⟨kind, f0, _, _⟩ := DataW.trod_int Tryz.underlying3 q0
 obtain ⟨id, f1, _, _⟩ := DataW.trod_int Tryz.underlying3 q1
 obtain ⟨fs, hfs⟩ := flds_in (v := c2) q2
 simp at f0 f1
 subst f0 f1
 exact ⟨⟨kind, id, fs⟩, c2, rfl, hfs⟩
structure EdsIn (w : World) (v : Value) (eds : List Ed) : Prop where
 len : eds.length <= maxLen
 at_ : ∃ A cap, v = .slice A eds.length cap /\ eds.length <= cap /\ ∀ (i : Nat) (ed : Ed), eds[i]? = some ed -> ∃ b off fv, A = some ⟨b, off, none⟩ /\ b < w.heap.size /\ w.cell? ⟨b, off + i * 3, none⟩ = some (.int .i64 ed.kind) /\ w.cell? ⟨b, off + i * 3 + 1, none⟩ = some (.int .i64 ed.id) /\ w.cell? ⟨b, off + i * 3 + 1 + 1, none⟩ = some fv /\ FldsIn w fv ed.fields
theorem edits_in {H : Type} {enc : TypeId × Value -> H} {W : World} {base : Nat} {sp : Nat -> Bool} {held : Bool} {fuel : Nat} {v : Value} {x : DataW H × List MemPlace} (h : DataW.trod enc Tryz.prog W base sp held fuel 37 [v] = some x) :
  ∃ eds, EdsIn W v eds := by
 rcases DataW.trod_slice Tryz.underlying37 h with ⟨e, _⟩ | ⟨a, len, cap, elems, rest, n, _, e, _, _, hl, hm, hlen, hel, _, _⟩
 ·obtain rfl : v = .slice none 0 0 := by simpa using e
  exact ⟨[], ⟨Nat.zero_le _, none, 0, rfl, Nat.le_refl _, fun i f h => by simp at h⟩⟩
 obtain rfl : v = .slice (some a) len cap := by simpa using e
 have k3 : Tryz.prog.cellsOf 40 = 3 := by kernel_rfl
 have each : ∀ i, i < len -> ∃ ed : Ed, ∃ b off fv, a = ⟨b, off, none⟩ /\ b < W.heap.size /\ W.cell? ⟨b, off + i * 3, none⟩ = some (.int .i64 ed.kind) /\ W.cell? ⟨b, off + i * 3 + 1, none⟩ = some (.int .i64 ed.id) /\ W.cell? ⟨b, off + i * 3 + 1 + 1, none⟩ = some fv /\ FldsIn W fv ed.fields := by
  intro i hi
  have h1 := hel i hi
  rw [k3, List.getElem?_eq_getElem (by omega)] at h1
  obtain ⟨cs, hc, ht⟩ := Option.bind_eq_some_iff.1 h1
  obtain ⟨ed, fv, rfl, hf⟩ := edit_in ht
  obtain ⟨_, _, hat⟩ := World.cells?_some hc
  have c0 := hat 0 (by decide)
  have c1 := hat 1 (by decide)
  have c2 := hat 2 (by decide)
  obtain ⟨b, off, spot⟩ := a
  have hspot : spot = none := by
   have h2 := hel 0 (by omega)
   rw [k3, List.getElem?_eq_getElem (by omega)] at h2
   obtain ⟨cs', hc', ht'⟩ := Option.bind_eq_some_iff.1 h2
   obtain ⟨ed', fv', rfl, _⟩ := edit_in ht'
   obtain ⟨_, hlen', hat'⟩ := World.cells?_some hc'
   have := World.cell?_spot (hat' 0 (by decide))
   simpa [Addr.add] using this
  subst hspot
  rw [WideShapes.add_plain] at c0 c1 c2
  exact ⟨ed, b, off, fv, rfl, World.block_lt_of_cell? W _ c0, c0, c1, c2, hf⟩
 have : ∃ g : Nat -> Ed, ∀ i, i < len -> ∃ b off fv, a = ⟨b, off, none⟩ /\ b < W.heap.size /\ W.cell? ⟨b, off + i * 3, none⟩ = some (.int .i64 (g i).kind) /\ W.cell? ⟨b, off + i * 3 + 1, none⟩ = some (.int .i64 (g i).id) /\ W.cell? ⟨b, off + i * 3 + 1 + 1, none⟩ = some fv /\ FldsIn W fv (g i).fields := by
  refine ⟨fun i => if h : i < len then (each i h).choose else ⟨0, 0, []⟩, fun i hi => ?_⟩
  simp only [dif_pos hi]
  exact (each i hi).choose_spec
 obtain ⟨g, hg⟩ := this
 have hll : ((List.range len).map g).length = len := by simp
 refine ⟨(List.range len).map g, ⟨by rw [hll]; omega, some a, cap, by rw [hll], by rw [hll]; exact hl, fun i ed hi => ?_⟩⟩
 have hlt : i < len := by
  rcases Nat.lt_or_ge i len with q | q
  ·exact q
  rw [List.getElem?_eq_none (by rw [hll]; exact q)] at hi; cases hi
 rw [List.getElem?_map, List.getElem?_range hlt] at hi
 obtain rfl := (Option.some.inj hi).symm
 obtain ⟨b, off, fv, ea, hb, c0, c1, c2, hf⟩ := hg i hlt
 exact ⟨b, off, fv, by rw [ea], hb, c0, c1, c2, hf⟩
theorem FldsIn.kept {w w' : World} {v : Value} {fs : List Fld} {N : Nat} (h : FldsIn w v fs) (hb : Below N w w') (hN : w.heap.size <= N) : FldsIn w' v fs := ⟨h.flds.below hb hN, h.nil, h.len, h.each⟩
theorem EdsIn.below {w w' : World} {v : Value} {eds : List Ed} {N : Nat} (h : EdsIn w v eds) (hb : Below N w w') (hN : w.heap.size <= N) : EdsIn w' v eds := by
 obtain ⟨hl, A, cap, e, hle, hc⟩ := h
 refine ⟨hl, A, cap, e, hle, fun i ed hi => ?_⟩
 obtain ⟨b, off, fv, e1, hbb, c0, c1, c2, hf⟩ := hc i ed hi
 have hbN : b < N := by omega
 exact ⟨b, off, fv, e1, Nat.lt_of_lt_of_le hbb hb.size, (hb.cell (p := ⟨b, off + i * 3, none⟩) hbN).trans c0, (hb.cell (p := ⟨b, off + i * 3 + 1, none⟩) hbN).trans c1, (hb.cell (p := ⟨b, off + i * 3 + 1 + 1, none⟩) hbN).trans c2, hf.kept hb hN⟩
def Light (eds : List Ed) : Prop := eds.length <= 51 /\ ∀ ed ∈ eds, ed.fields.length <= 61 /\ (∀ f ∈ ed.fields, f.1.length <= 6000 /\ f.2.length <= 6000) /\ minF ed.fields <= 6000
def HeavyR (eds : List Ed) (e : Ending) : Prop := ∃ b : Bool, e = .returned (.bool b) /\ (b = false -> Light eds)
theorem Light.fine {eds : List Ed} (h : Light eds) {ed : Ed} (he : ed ∈ eds) : Fine7 ed.fields :=
 ⟨by have := (h.2 ed he).1; omega, fun f hf => by have := (h.2 ed he).2.1 f hf; omega⟩
theorem heavy_any (eds : List Ed) (v : Value) (w : World) (h : EdsIn w v eds) :
  Calls Tryz.prog 19 #[v] w fun e w' => HeavyR eds e /\ Below w.heap.size w w' := by
 have HH := Lib.hid h
 obtain ⟨hm, A, cap, rfl, hle, hc⟩ := h
 have PC := Lib.hid hc
 clear hc
 unfold maxLen at hm
 go_enter Tryz.func19, Tryz.ntmps19
 go_wp2_with fail
 go_loopw [7] (fun i wr => ∃ k : Nat, k <= eds.length /\ k <= 51 /\ i = .int .i64 k /\ (∀ ed ∈ eds.take k, ed.fields.length <= 61 /\ (∀ f ∈ ed.fields, f.1.length <= 6000 /\ f.2.length <= 6000) /\ minF ed.fields <= 6000) /\ Below w.heap.size w wr) (fun i _ => eds.length - (intOf i).toNat)
 case atStart => exact ⟨0, Nat.zero_le _, by decide, rfl, (fun ed h => by simp at h), Below.refl _ _⟩
 case round =>
 obtain ⟨k, hk, hk51, rfl, hsm, hb⟩ := hrel
 by_cases hlt : k < eds.length
 ·obtain ⟨ed, hed⟩ : ∃ ed, eds[k]? = some ed := ⟨_, List.getElem?_eq_getElem hlt⟩
  obtain ⟨b, off, fv, rfl, hbb, c0, c1, c2, hf⟩ := PC.out k ed hed
  obtain ⟨fa, fc, rfl, _, _⟩ := _root_.id hf.flds
  replace c0 := (hb.cell (p := ⟨b, off + k * 3, none⟩) hbb).trans c0
  replace c1 := (hb.cell (p := ⟨b, off + k * 3 + 1, none⟩) hbb).trans c1
  replace c2 := (hb.cell (p := ⟨b, off + k * 3 + 1 + 1, none⟩) hbb).trans c2
  have TK := Lib.hid (show eds.take (k + 1) = eds.take k ++ [ed] by rw [List.take_add_one, hed]; rfl)
  have HSM := Lib.hid hsm
  obtain ⟨wa, hwa⟩ : ∃ wa, wa = wr.alloc (.cells #[.int .i64 ed.kind, .int .i64 ed.id, .slice fa ed.fields.length fc] 40) := ⟨_, rfl⟩
  have hba : Below w.heap.size w wa := by rw [hwa]; exact hb.alloc hb.size _
  have MU := Lib.hid (much_any ed.fields (.slice fa ed.fields.length fc) wa (hf.kept hba (Nat.le_refl _)).flds hf.len hf.each)
  have HBA := Lib.hid hba
  clear hed hsm hf hba
  by_cases h50 : 50 < k
  ·subst hwa
   go_wp2_with fail
   go_ret
   exact ⟨⟨true, rfl, fun h => by cases h⟩, HBA.out⟩
  subst hwa
  go_wp2_with fail
  refine MU.out.mono ?_
  rintro e w2 ⟨⟨q, rfl, hq⟩, b2⟩
  have HB2 := Lib.hid (HBA.out.trans (b2.mono HBA.out.size))
  have HQ := Lib.hid hq
  clear b2 hq MU
  cases q with
  | true =>
   go_wp2_with fail
   go_ret
   exact ⟨⟨true, rfl, fun h => by cases h⟩, HB2.out⟩
  | false =>
  go_wp2_with fail
  go_roundw
  case rel =>
   refine ⟨k + 1, hlt, by omega, by go_num, fun x hx => ?_, HB2.out⟩
   rw [TK.out] at hx
   rcases List.mem_append.1 hx with hx | hx
   ·exact HSM.out x hx
   rw [List.mem_singleton.1 hx]
   obtain ⟨a1, a2, a3⟩ := HQ.out (by first | exact rfl | trivial)
   exact ⟨a1, a2, a3⟩
  case measure => simp [intOf]; omega
 obtain rfl : k = eds.length := by omega
 rw [List.take_length] at hsm
 have HSM := Lib.hid hsm
 clear PC hsm
 go_wp2_with fail
 go_ret
 exact ⟨⟨false, rfl, fun _ => ⟨hk51, HSM.out⟩⟩, hb⟩
end Go.Proofs.YtbkeoiefolkjfaaGreatDoor
namespace Go.Proofs.YtbkeoiefolkjfaaGreatDoor
def nums (es : List En) : List Int := (es.map Prod.snd).filter fun n => decide (0 < n)
end Go.Proofs.YtbkeoiefolkjfaaGreatDoor
namespace Go.Proofs.YtbkeoiefolkjfaaGreatDoor
def goodE (ed : Ed) : Nat := if ed.kind = 1 \/ ed.kind = 3 then chkN ed.fields else if ed.kind = 2 /\ ed.fields.length = 0 then 0 else 2
theorem goodE_le (ed : Ed) : goodE ed <= 11 := by
 unfold goodE
 split
 ·exact chkN_le _
 split <;> decide
def chkOn : Nat -> List Ed -> Int × Nat
 | _, [] => (-9, 0)
 | k, ed :: r => if goodE ed = 0 then chkOn (k + 1) r else ((k : Nat), goodE ed)
def chkB (eds : List Ed) : Int × Nat := if eds.length < 1 \/ 40 < eds.length then (-9, 1) else chkOn 0 eds
theorem chkOn_at : ∀ (eds : List Ed) (q k : Nat) (ed : Ed), (∀ x ∈ eds.take k, goodE x = 0) -> eds[k]? = some ed -> goodE ed ≠ 0 -> chkOn q eds = (((q + k : Nat) : Int), goodE ed)
 | [], q, k, ed, _, h, _ => by simp at h
 | a :: r, q, 0, ed, _, h, h0 => by
  simp at h; subst h
  unfold chkOn
  rw [if_neg h0]; rfl
 | a :: r, q, k + 1, ed, hg, h, h0 => by
  have ih := chkOn_at r (q + 1) k ed (fun x hx => hg x (by rw [List.take_succ_cons]; exact List.mem_cons_of_mem _ hx)) (by simpa using h) h0
  unfold chkOn
  rw [if_pos (hg a (by rw [List.take_succ_cons]; exact List.mem_cons_self)), ih, show q + 1 + k = q + (k + 1) by omega]
theorem chkOn_all : ∀ (eds : List Ed) (q : Nat), (∀ x ∈ eds, goodE x = 0) -> chkOn q eds = (-9, 0)
 | [], _, _ => rfl
 | a :: r, q, h => by
  unfold chkOn
  rw [if_pos (h a List.mem_cons_self)]
  exact chkOn_all r (q + 1) (fun x hx => h x (List.mem_cons_of_mem _ hx))
theorem chkOn_good : ∀ (eds : List Ed) (q : Nat), (chkOn q eds).2 = 0 -> ∀ x ∈ eds, goodE x = 0
 | [], _, _, x, hx => by cases hx
 | a :: r, q, h, x, hx => by
  unfold chkOn at h
  split at h
  ·rename_i h0
   rcases List.mem_cons.1 hx with rfl | hx
   ·exact h0
   exact chkOn_good r (q + 1) h x hx
  rename_i h0; exact absurd h h0
theorem chkB_good {eds : List Ed} (h : (chkB eds).2 = 0) : (1 <= eds.length /\ eds.length <= 40) /\ ∀ x ∈ eds, goodE x = 0 := by
 unfold chkB at h
 split at h
 ·cases h
 exact ⟨by omega, chkOn_good eds 0 h⟩
theorem goodE_kind {ed : Ed} (h : goodE ed = 0) : ed.kind = 1 \/ ed.kind = 2 \/ ed.kind = 3 := by
 unfold goodE at h
 split at h
 ·rename_i q; omega
 split at h
 ·rename_i q; exact .inr (.inl q.1)
 cases h
theorem take_snoc {eds : List Ed} {k : Nat} {ed : Ed} (h : eds[k]? = some ed) : eds.take (k + 1) = eds.take k ++ [ed] := by rw [List.take_add_one, h]; rfl
theorem take_len {eds : List Ed} {k : Nat} {ed : Ed} (h : eds[k]? = some ed) : (eds.take k).length = k := by
 have := (List.getElem?_eq_some_iff.1 h).1
 rw [List.length_take]; omega
end Go.Proofs.YtbkeoiefolkjfaaGreatDoor
namespace Go.Proofs.YtbkeoiefolkjfaaGreatDoor
def cnt3 (its : List It) : Nat := (its.filter fun it => decide (it.kind = 3)).length
theorem cnt3_snoc (its : List It) (it : It) : cnt3 (its ++ [it]) = cnt3 its + if it.kind = 3 then 1 else 0 := by
 unfold cnt3
 rw [List.filter_append, List.length_append]
 congr 1
 by_cases h : it.kind = 3
 ·rw [if_pos h, List.filter_cons, if_pos (by simpa using h)]; rfl
 rw [if_neg h, List.filter_cons, if_neg (by simpa using h)]; rfl
def CntP (p : PS) : Prop := cnt3 p.items = p.stanzas
theorem CntP.endField {p : PS} (h : CntP p) : CntP (endFieldP p) := by
 unfold endFieldP
 split
 ·exact h
 exact h
theorem CntP.endItem {t : List UInt8} {p : PS} (h : CntP p) (kind e : Nat) (hk : kind ≠ 3) : CntP (endItemP t p kind e) := by
 show cnt3 (p.items ++ [_]) = p.stanzas
 rw [cnt3_snoc, if_neg (by show ((kind : Nat) : Int) ≠ 3; omega), h]; rfl
theorem CntP.endBlock {t : List UInt8} {p : PS} (h : CntP p) (e : Nat) : CntP (endBlockP t p e) := by
 unfold endBlockP
 split
 ·exact h
 split
 ·exact h.endItem 2 e (by decide)
 show cnt3 (p.items ++ [_]) = p.stanzas + 1
 rw [cnt3_snoc, if_pos (by rfl), h]
theorem CntP.went {p : PS} (h : CntP p) (x : Ln) : CntP (wentP p x) := by
 unfold wentP
 split <;> exact h
theorem CntP.then_ {p : PS} (h : CntP p) (x : Ln) : CntP (thenP p x) := by
 unfold thenP
 split
 ·exact (h.went x).endField
 exact h.went x
theorem CntP.put {t : List UInt8} {p : PS} (h : CntP p) (x : Ln) : CntP (putP t p x) := by
 unfold putP
 split
 ·exact h
 split
 ·exact (h.endBlock x.at_).endItem 1 _ (by decide)
 exact h
theorem CntP.take {t : List UInt8} {p q : PS} {x : Ln} (h : CntP p) (he : takeP t p x = .ok q) : CntP q := by
 obtain ⟨_, _, rfl⟩ := take_parts he
 exact (h.then_ x).put x
theorem CntP.run (t : List UInt8) : ∀ (xs : List Ln) (p q : PS), CntP p -> runP t p xs = .ok q -> CntP q
 | [], p, q, h, he => by cases he; exact h
 | x :: xs, p, q, h, he => by
  unfold runP at he
  cases ht : takeP t p x with
  | error e => rw [ht] at he; cases he
  | ok p1 =>
  rw [ht] at he
  exact CntP.run t xs p1 q (h.take ht) he
theorem parse_cnt {t : List UInt8} {its : List It} (h : parseL t = .ok its) : cnt3 its <= 400 := by
 obtain ⟨p, hr, h0, rfl, g, _⟩ := parse_good h
 have hc : CntP (endBlockP t (endFieldP p) t.length) := ((CntP.run t _ _ _ (by rfl) hr).endField).endBlock _
 rw [show cnt3 _ = _ from hc]
 exact g.st
end Go.Proofs.YtbkeoiefolkjfaaGreatDoor
namespace Go.Proofs.YtbkeoiefolkjfaaGreatDoor
open Go.RowKit Go.Shelf
attribute [local go_sem] Oper.semAt_some
end Go.Proofs.YtbkeoiefolkjfaaGreatDoor
namespace Go.Proofs.YtbkeoiefolkjfaaGreatDoor
end Go.Proofs.YtbkeoiefolkjfaaGreatDoor
namespace Go.Proofs.YtbkeoiefolkjfaaGreatDoor
open Go.RowKit Go.Shelf
end Go.Proofs.YtbkeoiefolkjfaaGreatDoor
namespace Go.Proofs.YtbkeoiefolkjfaaGreatDoor
theorem foldN_of : ∀ (fs : List Fld), (∀ f ∈ fs, checkN f.1 f.2 = 0) -> foldN fs = 0
 | [], _ => rfl
 | f :: r, h => by
  unfold foldN
  rw [if_pos (h f List.mem_cons_self)]
  exact foldN_of r (fun x hx => h x (List.mem_cons_of_mem _ hx))
structure GkP (p : PS) : Prop where
 fl : ∀ f ∈ p.fields, checkN f.1 f.2 = 0
 each : ∀ it ∈ p.items, (∀ f ∈ it.fields, checkN f.1 f.2 = 0) /\ (it.kind = 3 -> it.fields.length ≠ 0)
theorem GkP.endField {p : PS} (h : GkP p) (h0 : endFieldN p = 0) : GkP (endFieldP p) := by
 unfold endFieldP
 split
 ·exact h
 rename_i hs
 unfold endFieldN at h0
 rw [if_neg hs] at h0
 have hu : unfoldN p.said = 0 := by
  by_cases q : unfoldN p.said = 0
  ·exact q
  rw [if_pos q] at h0; exact h0
 refine ⟨fun f hf => ?_, h.each⟩
 rcases List.mem_append.1 hf with hf | hf
 ·exact h.fl f hf
 rw [List.mem_singleton.1 hf]; exact (unfold_zero hu).1
theorem GkP.endItem {t : List UInt8} {p : PS} (h : GkP p) (kind e : Nat) (hk : kind = 3 -> p.fields.length ≠ 0) : GkP (endItemP t p kind e) :=
 ⟨fun f hf => (by cases hf), fun it hi => by
  rcases List.mem_append.1 hi with hi | hi
  ·exact h.each it hi
  rw [List.mem_singleton.1 hi]
  exact ⟨h.fl, fun q => hk (by have q' : ((kind : Nat) : Int) = 3 := q; omega)⟩⟩
theorem GkP.endBlock {t : List UInt8} {p : PS} (h : GkP p) (e : Nat) : GkP (endBlockP t p e) := by
 unfold endBlockP
 split
 ·exact h
 split
 ·exact h.endItem 2 e (fun q => absurd q (by decide))
 rename_i hl
 exact ⟨(h.endItem (t := t) 3 e (fun _ => hl)).fl, (h.endItem (t := t) 3 e (fun _ => hl)).each⟩
theorem GkP.went {p : PS} (h : GkP p) (x : Ln) : GkP (wentP p x) := by
 unfold wentP
 split
 ·exact ⟨h.fl, h.each⟩
 exact h
theorem GkP.take {t : List UInt8} {p q : PS} {x : Ln} (h : GkP p) (he : takeP t p x = .ok q) : GkP q := by
 obtain ⟨h1, _, rfl⟩ := take_parts he
 have h2 : GkP (thenP p x) := by
  unfold thenP
  split
  ·rename_i q; exact (h.went x).endField (h1 q)
  exact h.went x
 unfold putP
 split
 ·exact ⟨h2.fl, h2.each⟩
 split
 ·exact ⟨((h2.endBlock x.at_).endItem 1 _ (fun q => absurd q (by decide))).fl, ((h2.endBlock x.at_).endItem 1 _ (fun q => absurd q (by decide))).each⟩
 exact ⟨h2.fl, h2.each⟩
theorem GkP.run (t : List UInt8) : ∀ (xs : List Ln) (p q : PS), GkP p -> runP t p xs = .ok q -> GkP q
 | [], p, q, h, he => by cases he; exact h
 | x :: xs, p, q, h, he => by
  unfold runP at he
  cases ht : takeP t p x with
  | error e => rw [ht] at he; cases he
  | ok p1 =>
  rw [ht] at he
  exact GkP.run t xs p1 q (h.take ht) he
theorem parse_gk {t : List UInt8} {its : List It} (h : parseL t = .ok its) : ∀ it ∈ its, it.kind = 3 -> chkN it.fields = 0 := by
 obtain ⟨p, hr, h0, rfl, g, _⟩ := parse_good h
 have hs : GkP (endBlockP t (endFieldP p) t.length) := ((GkP.run t _ _ _ ⟨(fun f h => by cases h), (fun it h => by cases h)⟩ hr).endField h0).endBlock _
 intro it hi h3
 have h40 : it.fields.length <= 40 := g.each it hi
 obtain ⟨h1, h2⟩ := hs.each it hi
 unfold chkN
 rw [if_neg (h2 h3), if_neg (by omega)]
 exact foldN_of _ h1
end Go.Proofs.YtbkeoiefolkjfaaGreatDoor
namespace Go.Proofs.YtbkeoiefolkjfaaGreatDoor
def wf : List Ln -> Prop
 | [] => True
 | x :: xs => (10 : UInt8) ∉ x.text /\ (x.ended = true \/ (xs = [] /\ x.text ≠ [])) /\ wf xs
def sees (x : Ln) : List UInt8 × Bool := (x.text, x.ended)
theorem head_cleanI (t r : List UInt8) (h : (10 : UInt8) ∉ t) : head (t ++ 10 :: r) = t := by
 unfold head
 induction t with
 | nil => simp
 | cons c t ih =>
 have hc : c ≠ 10 := fun e => h (by rw [e]; exact List.mem_cons_self)
 rw [List.cons_append, List.takeWhile_cons, if_pos (by simp [hc]), ih (fun hm => h (List.mem_cons_of_mem _ hm))]
theorem head_all (t : List UInt8) (h : (10 : UInt8) ∉ t) : head t = t := by
 unfold head
 induction t with
 | nil => rfl
 | cons c t ih =>
 have hc : c ≠ 10 := fun e => h (by rw [e]; exact List.mem_cons_self)
 rw [List.takeWhile_cons, if_pos (by simp [hc]), ih (fun hm => h (List.mem_cons_of_mem _ hm))]
theorem nl_clean (t : List UInt8) (h : (10 : UInt8) ∉ t) : nl t = false := by
 unfold nl
 rw [Bool.eq_false_iff]
 intro hc
 exact h (by simpa using hc)
theorem nl_end (t r : List UInt8) : nl (t ++ 10 :: r) = true := by unfold nl; simp
theorem linesOn_wf : ∀ (xs : List Ln) (no at_ : Nat), wf xs -> (linesOn no at_ (xs.flatMap Ln.bytes)).map sees = xs.map sees
 | [], no, at_, _ => by simp [linesOn_nil]
 | x :: xs, no, at_, ⟨h1, h2, h3⟩ => by
  rcases h2 with he | ⟨rfl, hne⟩
  ·have eb : (x :: xs).flatMap Ln.bytes = x.text ++ 10 :: xs.flatMap Ln.bytes := by simp [Ln.bytes, he]
   rw [eb, linesOn_cons _ _ _ (by simp)]
   rw [head_cleanI _ _ h1, nl_end]
   have hu : used (x.text ++ 10 :: xs.flatMap Ln.bytes) = x.text.length + 1 := by
    unfold used; rw [head_cleanI _ _ h1, nl_end]; simp
   have hd : (x.text ++ 10 :: xs.flatMap Ln.bytes).drop (x.text.length + 1) = xs.flatMap Ln.bytes := by
    rw [show x.text ++ 10 :: xs.flatMap Ln.bytes = (x.text ++ [10]) ++ xs.flatMap Ln.bytes by simp]
    exact List.drop_left' (by simp)
   rw [hu, hd, List.map_cons, List.map_cons, linesOn_wf xs _ _ h3]
   simp [sees, he]
  have he : x.ended = false \/ x.ended = true := by cases x.ended <;> simp
  rcases he with he | he
  ·have eb : [x].flatMap Ln.bytes = x.text := by simp [Ln.bytes, he]
   rw [eb, linesOn_cons _ _ _ hne, head_all _ h1, nl_clean _ h1]
   have hu : used x.text = x.text.length := by unfold used; rw [head_all _ h1, nl_clean _ h1]; simp
   rw [hu, List.drop_length, linesOn_nil]
   simp [sees, he]
  have eb : [x].flatMap Ln.bytes = x.text ++ 10 :: [] := by simp [Ln.bytes, he]
  rw [eb, linesOn_cons _ _ _ (by simp), head_cleanI _ _ h1, nl_end]
  have hu : used (x.text ++ 10 :: []) = x.text.length + 1 := by unfold used; rw [head_cleanI _ _ h1, nl_end]; simp
  rw [hu]
  have hd : (x.text ++ 10 :: []).drop (x.text.length + 1) = [] := by rw [List.drop_eq_nil_of_le]; simp
  rw [hd, linesOn_nil]
  simp [sees, he]
theorem wf_linesOn : ∀ (n no at_ : Nat) (l : List UInt8), l.length <= n -> wf (linesOn no at_ l)
 | 0, _, _, l, h => by
  have : l = [] := List.length_eq_zero_iff.1 (by omega)
  subst this; rw [linesOn_nil]; trivial
 | n + 1, no, at_, l, h => by
  by_cases hl : l = []
  ·subst hl; rw [linesOn_nil]; trivial
  have hp := used_pos l hl
  have hc := linesOn_clean l.length no at_ l (Nat.le_refl _)
  rw [linesOn_cons _ _ _ hl] at hc ⊢
  refine ⟨hc _ List.mem_cons_self, ?_, wf_linesOn n _ _ _ (by simp only [List.length_drop]; omega)⟩
  cases hn : nl l with
  | true => exact .inl rfl
  | false =>
  have hh : head l = l := head_all l (fun hm => by unfold nl at hn; simp at hn; exact hn hm)
  have hu : used l = l.length := by unfold used; rw [hh, hn]; simp
  refine .inr ⟨?_, ?_⟩
  ·rw [hu, List.drop_length, linesOn_nil]
  show head l ≠ []
  rw [hh]; exact hl
theorem wf_linesOf (l : List UInt8) : wf (linesOf l) := wf_linesOn _ _ _ _ (Nat.le_refl _)
def ahead (j : List UInt8) (x : Ln) : Ln := { x with text := j ++ x.text }
theorem wf_ahead (j : List UInt8) (hj : (10 : UInt8) ∉ j) : ∀ xs, wf xs -> wf (xs.map (ahead j))
 | [], _ => trivial
 | x :: xs, ⟨h1, h2, h3⟩ => by
  refine ⟨fun hm => ?_, ?_, wf_ahead j hj xs h3⟩
  ·rcases List.mem_append.1 hm with h | h
   ·exact hj h
   exact h1 h
  rcases h2 with h | ⟨rfl, h⟩
  ·exact .inl h
  refine .inr ⟨rfl, fun e => h ?_⟩
  exact (List.append_eq_nil_iff.1 e).2
def dd (p : List UInt8) (ys : List (List UInt8 × Bool)) : List UInt8 × Bool :=
 if ys.all (fun y => p.isPrefixOf y.1) then (ys.flatMap (fun y => y.1.drop p.length ++ if y.2 then [10] else []), true) else ([], false)
theorem dd_ahead (j : List UInt8) (hj : (10 : UInt8) ∉ j) (l : List UInt8) :
  dd j ((linesOf ((linesOf l).flatMap fun x => j ++ x.bytes)).map sees) = (l, true) := by
 have e : (linesOf l).flatMap (fun x => j ++ x.bytes) = ((linesOf l).map (ahead j)).flatMap Ln.bytes := by
  rw [List.flatMap_map]
  congr 1
  funext x
  simp only [Ln.bytes, ahead, List.append_assoc]
  rfl
 rw [e]
 rw [show linesOf (((linesOf l).map (ahead j)).flatMap Ln.bytes) = linesOn 0 0 (((linesOf l).map (ahead j)).flatMap Ln.bytes) from rfl, linesOn_wf _ 0 0 (wf_ahead j hj _ (wf_linesOf l))]
 unfold dd
 rw [if_pos]
 ·congr 1
  conv => rhs; rw [<- linesOf_join l]
  rw [List.map_map, List.flatMap_map]
  congr 1
  funext x
  simp [sees, ahead, Ln.bytes]
  rfl
 rw [List.all_eq_true]
 intro y hy
 obtain ⟨x, hx, rfl⟩ := List.mem_map.1 hy
 obtain ⟨x, hx, rfl⟩ := List.mem_map.1 hx
 simp [sees, ahead]
end Go.Proofs.YtbkeoiefolkjfaaGreatDoor
namespace Go.Proofs.YtbkeoiefolkjfaaGreatDoor
open Go.RowKit Go.Shelf
set_option maxRecDepth 1000000
end Go.Proofs.YtbkeoiefolkjfaaGreatDoor
namespace Go.Proofs.YtbkeoiefolkjfaaGreatDoor
open Go.RowKit Go.Shelf
end Go.Proofs.YtbkeoiefolkjfaaGreatDoor
namespace Go.Proofs.YtbkeoiefolkjfaaGreatDoor
open Go.RowKit Go.Shelf Go.ChangeShapes Go.WideShapes
attribute [local go_sem] errV_0
theorem foldN_good : ∀ (fs : List Fld), foldN fs = 0 -> ∀ f ∈ fs, goodKey f.1 = true /\ f.2.length <= 1000
 | [], _, f, hf => by cases hf
 | g :: r, h, f, hf => by
  unfold foldN at h
  split at h
  ·rename_i h0
   rcases List.mem_cons.1 hf with rfl | hf
   ·exact checkN_zero h0
   exact foldN_good r h f hf
  rename_i h0; exact absurd h h0
end Go.Proofs.YtbkeoiefolkjfaaGreatDoor
namespace Go.Proofs.YtbkeoiefolkjfaaGreatDoor
def wordL (k : Int) : List UInt8 := if k = 1 then [114, 101, 112, 108, 97, 99, 101] else if k = 2 then [100, 101, 108, 101, 116, 101] else if k = 3 then [105, 110, 115, 101, 114, 116] else []
def lineA (k id : Int) : List UInt8 := if k = 1 \/ k = 2 \/ k = 3 then 32 :: (wordL k ++ 32 :: Lib.itoa id) else []
def ind2 (l : List UInt8) : List UInt8 := 32 :: 32 :: l
def edLs (ed : Ed) : List (List UInt8) := lineA ed.kind ed.id :: (linesFs ed.fields).map ind2
def edT (ed : Ed) : List UInt8 := textL (edLs ed)
def batchLs (eds : List Ed) : List (List UInt8) := eds.flatMap edLs
def batchT (eds : List Ed) : List UInt8 := textL (batchLs eds)
theorem wordL_no {k : Int} {c : UInt8} (h : c.toNat < 97) : c ∉ wordL k := by
 unfold wordL
 have key : ∀ l : List UInt8, (∀ x ∈ l, 97 <= x.toNat) -> c ∉ l := fun l hl hc => by have := hl c hc; omega
 split
 ·exact key _ (by decide)
 split
 ·exact key _ (by decide)
 split
 ·exact key _ (by decide)
 simp
theorem lineA_clean (k id : Int) : (10 : UInt8) ∉ lineA k id := by
 unfold lineA
 split
 ·intro h
  rcases List.mem_cons.1 h with h | h
  ·exact absurd h (by decide)
  rcases List.mem_append.1 h with h | h
  ·exact wordL_no (by decide) h
  rcases List.mem_cons.1 h with h | h
  ·exact absurd h (by decide)
  exact itoa_no (by decide) (.inl (by decide)) h
 simp
theorem ind2_clean {l : List UInt8} (h : (10 : UInt8) ∉ l) : (10 : UInt8) ∉ ind2 l := by
 unfold ind2
 intro hm
 rcases List.mem_cons.1 hm with hm | hm
 ·exact absurd hm (by decide)
 rcases List.mem_cons.1 hm with hm | hm
 ·exact absurd hm (by decide)
 exact h hm
structure GoodF (fs : List Fld) : Prop where
 each : ∀ f ∈ fs, goodKey f.1 = true /\ f.2.length <= 1000
 len : fs.length <= 40
theorem goodE_F {ed : Ed} (h : goodE ed = 0) : GoodF ed.fields := by
 unfold goodE at h
 split at h
 ·obtain ⟨_, h2, h3⟩ := chkN_zero h
  exact ⟨foldN_good _ h3, h2⟩
 split at h
 ·rename_i q
  rw [List.length_eq_zero_iff.1 q.2]
  exact ⟨fun f hf => (by cases hf), Nat.zero_le _⟩
 cases h
theorem GoodF.clean {fs : List Fld} (h : GoodF fs) : ∀ l ∈ linesFs fs, (10 : UInt8) ∉ l := by
 intro l hl
 unfold linesFs at hl
 obtain ⟨f, hf1, hf2⟩ := List.mem_flatMap.1 hl
 exact linesL_clean _ (h.each f hf1).1 l hf2
theorem edLs_clean {ed : Ed} (h : GoodF ed.fields) : ∀ l ∈ edLs ed, (10 : UInt8) ∉ l := by
 intro l hl
 rcases List.mem_cons.1 hl with rfl | hl
 ·exact lineA_clean _ _
 obtain ⟨x, hx, rfl⟩ := List.mem_map.1 hl
 exact ind2_clean (h.clean x hx)
theorem batchLs_clean {eds : List Ed} (h : ∀ ed ∈ eds, goodE ed = 0) : ∀ l ∈ batchLs eds, (10 : UInt8) ∉ l := by
 intro l hl
 obtain ⟨ed, h1, h2⟩ := List.mem_flatMap.1 hl
 exact edLs_clean (goodE_F (h ed h1)) l h2
theorem batchT_cons (ed : Ed) (r : List Ed) : batchT (ed :: r) = edT ed ++ batchT r := by
 unfold batchT batchLs edT; rw [List.flatMap_cons, textL_append]
theorem batchT_nil : batchT [] = [] := rfl
theorem batchT_append (a b : List Ed) : batchT (a ++ b) = batchT a ++ batchT b := by
 unfold batchT batchLs; rw [List.flatMap_append, textL_append]
theorem batchT_snoc (a : List Ed) (ed : Ed) : batchT (a ++ [ed]) = batchT a ++ edT ed := by
 rw [batchT_append, batchT_cons, batchT_nil, List.append_nil]
theorem ind_text (ls : List (List UInt8)) (h : ∀ l ∈ ls, (10 : UInt8) ∉ l) : (linesOf (textL ls)).flatMap (fun x => [32, 32] ++ x.bytes) = textL (ls.map ind2) := by
 show (linesOn 0 0 (textL ls)).flatMap _ = _
 rw [linesOn_num ls 0 0 h]
 suffices ∀ (ls : List (List UInt8)) (no c : Nat), (num no c ls).flatMap (fun x => [32, 32] ++ x.bytes) = textL (ls.map ind2) from this ls 0 0
 intro ls
 induction ls with
 | nil => intro no c; rfl
 | cons l r ih =>
 intro no c
 show ([32, 32] ++ (⟨no, c, l, true⟩ : Ln).bytes) ++ (num (no + 1) (c + l.length + 1) r).flatMap _ = _
 rw [ih]
 unfold textL ind2 Ln.bytes
 simp
theorem foldG_text (fs : List Fld) : foldG fs = textL (linesFs fs) := by
 unfold foldG textL linesFs; rw [List.flatMap_assoc]
theorem edT_eq {ed : Ed} (h : GoodF ed.fields) : edT ed = lineA ed.kind ed.id ++ 10 :: (linesOf (foldG ed.fields)).flatMap (fun x => [32, 32] ++ x.bytes) := by
 rw [foldG_text, ind_text _ h.clean]
 show textL (_ :: _) = _
 unfold textL; simp
def kindOf (l : List UInt8) : Int := if l = wordL 1 then 1 else if l = wordL 2 then 2 else if l = wordL 3 then 3 else 0
theorem kindOf_word {k : Int} (h : k = 1 \/ k = 2 \/ k = 3) : kindOf (wordL k) = k := by
 rcases h with rfl | rfl | rfl <;> decide
def unfoldF (t : List UInt8) : List Fld := match parseL (dd [32, 32] ((linesOf t).map sees)).1 with | .error _ => [] | .ok its => (recs its).flatten
def lineS (t : List UInt8) : List UInt8 := t.takeWhile (· != 10)
def restD (t : List UInt8) : List UInt8 := t.drop ((lineS t).length + 1)
def nameS (t : List UInt8) : List UInt8 := (Lib.trimPrefix (lineS t) [32]).takeWhile (· != 32)
def figS (t : List UInt8) : List UInt8 := (Lib.trimPrefix (lineS t) [32]).drop ((nameS t).length + 1)
def saidE (t : List UInt8) : Ed := ⟨kindOf (nameS t), atoiV (figS t), unfoldF (restD t)⟩
theorem takeW (c : UInt8) (a b : List UInt8) (h : c ∉ a) : (a ++ c :: b).takeWhile (· != c) = a := by
 induction a with
 | nil => simp
 | cons x r ih =>
 have hx : (x != c) = true := by
  have : c ≠ x := fun e => h (e ▸ List.mem_cons_self)
  simp; exact fun e => this e.symm
 rw [List.cons_append, List.takeWhile_cons, if_pos hx, ih (fun hm => h (List.mem_cons_of_mem _ hm))]
theorem dropW (c : UInt8) (a b : List UInt8) : (a ++ c :: b).drop (a.length + 1) = b := by
 rw [show a ++ c :: b = (a ++ [c]) ++ b by simp]
 exact List.drop_left' (by simp)
theorem unfold_good {fs : List Fld} (h : GoodF fs) : unfoldF (textL ((linesFs fs).map ind2)) = fs := by
 unfold unfoldF
 have e := dd_ahead [32, 32] (by decide) (textL (linesFs fs))
 rw [ind_text _ h.clean] at e
 rw [e]
 show (match parseL (textL (linesFs fs)) with | .error _ => [] | .ok its => (recs its).flatten) = fs
 by_cases h0 : fs = []
 ·subst h0; rfl
 have p := parse_between [⟨3, textL (linesFs fs), fs⟩] (by show 1 <= 400; decide) (fun it hit => by rw [List.mem_singleton.1 hit]; exact blk_fields fs h.each h0 h.len)
 have e1 : (apartL [(⟨3, textL (linesFs fs), fs⟩ : It)]) = [⟨3, textL (linesFs fs), fs⟩] := rfl
 rw [e1] at p
 have e2 : ([(⟨3, textL (linesFs fs), fs⟩ : It)].flatMap It.raw) = textL (linesFs fs) := by simp
 rw [e2] at p
 rw [p]
 show (recs [(⟨3, textL (linesFs fs), fs⟩ : It)]).flatten = fs
 simp [recs]
theorem said_good {ed : Ed} (h : GoodF ed.fields) (hk : ed.kind = 1 \/ ed.kind = 2 \/ ed.kind = 3) (hi : I64 ed.id) : saidE (edT ed) = ed := by
 have e : edT ed = lineA ed.kind ed.id ++ 10 :: textL ((linesFs ed.fields).map ind2) := by
  show textL (_ :: _) = _
  unfold textL; simp
 have e1 : lineS (edT ed) = lineA ed.kind ed.id := by rw [e]; exact takeW 10 _ _ (lineA_clean _ _)
 have e2 : restD (edT ed) = textL ((linesFs ed.fields).map ind2) := by unfold restD; rw [e1, e]; exact dropW 10 _ _
 have e3 : lineA ed.kind ed.id = 32 :: (wordL ed.kind ++ 32 :: Lib.itoa ed.id) := by unfold lineA; rw [if_pos hk]
 have e4 : Lib.trimPrefix (lineS (edT ed)) [32] = wordL ed.kind ++ 32 :: Lib.itoa ed.id := by
  rw [e1, e3]; simp [Lib.trimPrefix, Lib.hasPrefix]
 have e5 : nameS (edT ed) = wordL ed.kind := by unfold nameS; rw [e4]; exact takeW 32 _ _ (wordL_no (by decide))
 have e6 : figS (edT ed) = Lib.itoa ed.id := by unfold figS; rw [e4, e5]; exact dropW 32 _ _
 unfold saidE
 rw [e5, e6, e2, kindOf_word hk, atoiV_itoa hi, unfold_good h]
def piecesOn (t : List UInt8) : Nat -> List Ln -> List (List UInt8)
 | b, [] => [t.drop b]
 | b, x :: r => if b < x.at_ /\ Lib.hasPrefix x.text [32, 32] = false then (t.drop b).take (x.at_ - b) :: piecesOn t x.at_ r else piecesOn t b r
def readL (t : List UInt8) : List Ed := (piecesOn t 0 (linesOf t)).map saidE
theorem pieces_ind (t : List UInt8) (b : Nat) : ∀ (ls : List (List UInt8)) (no c : Nat) (ys : List Ln), piecesOn t b (num no c (ls.map ind2) ++ ys) = piecesOn t b ys
 | [], _, _, _ => rfl
 | l :: r, no, c, ys => by
  show piecesOn t b (⟨no, c, ind2 l, true⟩ :: (num (no + 1) (c + (ind2 l).length + 1) (r.map ind2) ++ ys)) = _
  rw [piecesOn, if_neg (by intro h; exact absurd h.2 (by simp [Lib.hasPrefix, ind2]))]
  exact pieces_ind t b r _ _ ys
theorem lineA_two {k id : Int} (hk : k = 1 \/ k = 2 \/ k = 3) : Lib.hasPrefix (lineA k id) [32, 32] = false := by
 unfold lineA
 rw [if_pos hk]
 rcases hk with rfl | rfl | rfl <;> rfl
theorem pieces_eds (t : List UInt8) : ∀ (r : List Ed) (pre cur : List UInt8) (no : Nat), t = pre ++ (cur ++ batchT r) -> cur ≠ [] -> (∀ ed ∈ r, ed.kind = 1 \/ ed.kind = 2 \/ ed.kind = 3) ->
  piecesOn t pre.length (num no (pre.length + cur.length) (batchLs r)) = cur :: r.map edT
 | [], pre, cur, no, h, hc, _ => by
  show [t.drop pre.length] = [cur]
  rw [h, List.drop_left' rfl, batchT_nil, List.append_nil]
 | e :: r, pre, cur, no, h, hc, hk => by
  have hpos : 0 < cur.length := List.length_pos_iff.2 hc
  have e1 : batchLs (e :: r) = lineA e.kind e.id :: ((linesFs e.fields).map ind2 ++ batchLs r) := by
   unfold batchLs; rw [List.flatMap_cons]; rfl
  rw [e1]
  show piecesOn t pre.length (⟨no, pre.length + cur.length, lineA e.kind e.id, true⟩ :: num (no + 1) (pre.length + cur.length + (lineA e.kind e.id).length + 1) ((linesFs e.fields).map ind2 ++ batchLs r)) = _
  rw [piecesOn, if_pos ⟨by show pre.length < pre.length + cur.length; omega, lineA_two (hk e List.mem_cons_self)⟩]
  rw [num_append, pieces_ind]
  have ih := pieces_eds t r (pre ++ cur) (edT e) (no + 1 + ((linesFs e.fields).map ind2).length) (by rw [h, batchT_cons]; simp) (by unfold edT edLs textL; simp) (fun x hx => hk x (List.mem_cons_of_mem _ hx))
  have el : (edT e).length = (lineA e.kind e.id).length + 1 + (textL ((linesFs e.fields).map ind2)).length := by unfold edT edLs textL; simp; omega
  rw [List.length_append] at ih
  rw [show pre.length + cur.length + (lineA e.kind e.id).length + 1 + (textL ((linesFs e.fields).map ind2)).length = pre.length + cur.length + (edT e).length by omega]
  rw [show (⟨no, pre.length + cur.length, lineA e.kind e.id, true⟩ : Ln).at_ = pre.length + cur.length from rfl, ih, List.map_cons]
  congr 1
  rw [h, List.drop_left' rfl, show pre.length + cur.length - pre.length = cur.length by omega, List.take_left' rfl]
theorem read_batch {eds : List Ed} (h0 : eds ≠ []) (hg : ∀ ed ∈ eds, goodE ed = 0) (hi : ∀ ed ∈ eds, I64 ed.id) : readL (batchT eds) = eds := by
 cases eds with
 | nil => exact absurd rfl h0
 | cons e r =>
 unfold readL
 rw [show linesOf (batchT (e :: r)) = num 0 0 (batchLs (e :: r)) from linesOn_num _ 0 0 (batchLs_clean hg)]
 have e1 : batchLs (e :: r) = lineA e.kind e.id :: ((linesFs e.fields).map ind2 ++ batchLs r) := by
  unfold batchLs; rw [List.flatMap_cons]; rfl
 have e2 : piecesOn (batchT (e :: r)) 0 (num 0 0 (batchLs (e :: r))) = (e :: r).map edT := by
  rw [e1]
  show piecesOn _ 0 (⟨0, 0, lineA e.kind e.id, true⟩ :: num 1 (0 + (lineA e.kind e.id).length + 1) ((linesFs e.fields).map ind2 ++ batchLs r)) = _
  rw [piecesOn, if_neg (by intro h; exact absurd h.1 (Nat.lt_irrefl _)), num_append, pieces_ind]
  have ih := pieces_eds (batchT (e :: r)) r [] (edT e) (1 + ((linesFs e.fields).map ind2).length) (by rw [batchT_cons]; rfl) (by unfold edT edLs textL; simp) (fun x hx => goodE_kind (hg x (List.mem_cons_of_mem _ hx)))
  have el : (edT e).length = (lineA e.kind e.id).length + 1 + (textL ((linesFs e.fields).map ind2)).length := by unfold edT edLs textL; simp; omega
  rw [el] at ih
  simp only [List.length_nil] at ih
  rw [show 0 + ((lineA e.kind e.id).length + 1 + (textL ((linesFs e.fields).map ind2)).length) = 0 + (lineA e.kind e.id).length + 1 + (textL ((linesFs e.fields).map ind2)).length by omega] at ih
  exact ih
 rw [e2, List.map_map]
 conv => rhs; rw [<- List.map_id (e :: r)]
 exact List.map_congr_left fun x hx => said_good (goodE_F (hg x hx)) (goodE_kind (hg x hx)) (hi x hx)
def decL (t : List UInt8) : Option (List Ed) := if t.length <= 50000 /\ (chkB (readL t)).2 = 0 /\ batchT (readL t) = t then some (readL t) else none
theorem atoiV_I64 (l : List UInt8) : I64 (atoiV l) := by
 unfold atoiV
 cases h : Lib.atoiAll l with
 | ok v =>
  show I64 v
  unfold Lib.atoiAll at h
  split at h
  ·cases h
  simp only at h
  split at h
  ·cases h
  ·cases h
  split at h
  ·cases h
  split at h
  ·cases h
  injection h with h
  subst h
  split
  ·exact ⟨by omega, by omega⟩
  exact ⟨by omega, by omega⟩
 | range =>
  show I64 (Lib.atoiSat l)
  unfold Lib.atoiSat
  split
  ·exact ⟨by decide, by decide⟩
  exact ⟨by decide, by decide⟩
 | _ => exact (⟨by decide, by decide⟩ : I64 0)
theorem read_I64 (t : List UInt8) : ∀ ed ∈ readL t, I64 ed.id := by
 intro ed hed
 obtain ⟨p, _, rfl⟩ := List.mem_map.1 hed
 exact atoiV_I64 _
theorem decL_iff {t : List UInt8} {eds : List Ed} : decL t = some eds ↔ t.length <= 50000 /\ (chkB eds).2 = 0 /\ (∀ ed ∈ eds, I64 ed.id) /\ batchT eds = t := by
 unfold decL
 constructor
 ·intro h
  split at h
  ·rename_i q
   injection h with h
   subst h
   exact ⟨q.1, q.2.1, read_I64 t, q.2.2⟩
  cases h
 rintro ⟨h1, h2, h3, rfl⟩
 obtain ⟨⟨a, b⟩, c⟩ := chkB_good h2
 have e := read_batch (by intro e; rw [e] at a; simp at a) c h3
 rw [if_pos ⟨h1, by rw [e]; exact h2, by rw [e]⟩, e]
end Go.Proofs.YtbkeoiefolkjfaaGreatDoor
namespace Go.Proofs.YtbkeoiefolkjfaaGreatDoor
open Go.RowKit Go.Extern.Stop Go.Stop Go.Extern
theorem valueOfPP (t : Addr) (w : World) : (ReflectliteValue.unpack (.iface 188 (.pointer (some t)))).run Tryz.prog w
  = .ok (.agg #[.pointer (some ⟨9, 188, none⟩), .pointer (some ⟨w.heap.size, 0, none⟩), .int .u64 150]) (w.alloc (.cells #[.pointer (some t)] 188)) := by kernel_rfl
theorem typePP (a : Addr) (w : World) : (ReflectliteValue.methodAny (ReflectliteValue.valueError "reflectlite.Value.Type" 0) (fun t _ _ _ => ReflectliteType.toType t) #[.agg #[.pointer (some ⟨9, 188, none⟩), .pointer (some a), .int .u64 150]]).run Tryz.prog w
  = .ok (.iface 246 (.agg #[.pointer (some ⟨9, 188, none⟩)])) w := by kernel_rfl
theorem methodKind (h : Value) (w : World) : (Go.method 402 246 (.agg #[h]) "Kind").run Tryz.prog w = .ok (240, h) w := by kernel_rfl
theorem kindPP (w : World) : ((ReflectliteType.abiMethod fun t => (fun a : Nat => Value.int IntKind.u8 (a : Int)) <$> Rtype.kind t) #[.pointer (some ⟨9, 188, none⟩)]).run Tryz.prog w = .ok (.int .u8 22) w := by kernel_rfl
theorem kindP (w : World) : ((ReflectliteType.abiMethod fun t => (fun a : Nat => Value.int IntKind.u8 (a : Int)) <$> Rtype.kind t) #[.pointer (some ⟨9, 68, none⟩)]).run Tryz.prog w = .ok (.int .u8 22) w := by kernel_rfl
theorem rlm9 (z : Sem Value) (f : TypeId -> Addr -> Nat -> Nat -> Sem Value) (v : Value) :
  ReflectliteValue.method z f #[v] = (do match <- ReflectliteValue.parts v with | none => z | some (t, a, fl) => f t a fl (fl % 32)) := rfl
theorem partsPP (a : Addr) (w : World) : (ReflectliteValue.parts (.agg #[.pointer (some ⟨9, 188, none⟩), .pointer (some a), .int .u64 150])).run Tryz.prog w = .ok (some (188, a, 150)) w := by kernel_rfl
theorem isNilPP (a p : Addr) (W : World) (ha : W.cell? a = some (.pointer (some p))) :
  (ReflectliteValue.method (ReflectliteValue.valueError "reflectlite.Value.IsNil" 0) ReflectliteValue.isNil #[.agg #[.pointer (some ⟨9, 188, none⟩), .pointer (some a), .int .u64 150]]).run Tryz.prog W = .ok (.bool false) W := by
 rw [rlm9]
 simp only [Sem.run_bind, partsPP, Result.andThen]
 simp [ReflectliteValue.isNil, loadVar, isAgg, underlying, Tryz.underlying188, ha, Result.andThen]
theorem methodElem (h : Value) (w : World) : (Go.method 402 246 (.agg #[h]) "Elem").run Tryz.prog w = .ok (256, .agg #[h]) w := by kernel_rfl
theorem methodImplements (h : Value) (w : World) : (Go.method 402 246 (.agg #[h]) "Implements").run Tryz.prog w = .ok (257, .agg #[h]) w := by kernel_rfl
theorem methodAssignableTo (h : Value) (w : World) : (Go.method 402 246 (.agg #[h]) "AssignableTo").run Tryz.prog w = .ok (254, .agg #[h]) w := by kernel_rfl
theorem elemPP (w : World) : (ReflectliteType.method ReflectliteType.elem #[.agg #[.pointer (some ⟨9, 188, none⟩)]]).run Tryz.prog w = .ok (.iface 246 (.agg #[.pointer (some ⟨9, 68, none⟩)])) w := by kernel_rfl
theorem implementsP (w : World) : (ReflectliteType.relation "Implements" ReflectliteType.implements_ #[.agg #[.pointer (some ⟨9, 68, none⟩)], .iface 246 (.agg #[.pointer (some ⟨9, 28, none⟩)])]).run Tryz.prog w = .ok (.bool true) w := by kernel_rfl
theorem typeOfP (v : Value) (w : World) : (ReflectliteType.typeOf #[.iface 68 v]).run Tryz.prog w = .ok (.iface 246 (.agg #[.pointer (some ⟨9, 68, none⟩)])) w := by kernel_rfl
theorem typeOfE (v : Value) (w : World) : (ReflectliteType.typeOf #[.iface 57 v]).run Tryz.prog w = .ok (.iface 246 (.agg #[.pointer (some ⟨9, 57, none⟩)])) w := by kernel_rfl
theorem assignableP (w : World) : (ReflectliteType.relation "AssignableTo" ReflectliteType.assignableTo #[.agg #[.pointer (some ⟨9, 68, none⟩)], .iface 246 (.agg #[.pointer (some ⟨9, 68, none⟩)])]).run Tryz.prog w = .ok (.bool true) w := by kernel_rfl
theorem assignableE (w : World) : (ReflectliteType.relation "AssignableTo" ReflectliteType.assignableTo #[.agg #[.pointer (some ⟨9, 57, none⟩)], .iface 246 (.agg #[.pointer (some ⟨9, 68, none⟩)])]).run Tryz.prog w = .ok (.bool false) w := by kernel_rfl
theorem valueOfP (e : Addr) (w : World) : (ReflectliteValue.unpack (.iface 68 (.pointer (some e)))).run Tryz.prog w
  = .ok (.agg #[.pointer (some ⟨9, 68, none⟩), .pointer (some ⟨w.heap.size, 0, none⟩), .int .u64 150]) (w.alloc (.cells #[.pointer (some e)] 68)) := by kernel_rfl
theorem elemOfPP (w : World) : (Rtype.elem? 188).run Tryz.prog w = .ok (some 68) w := by kernel_rfl
theorem mkP (p : Addr) (w : World) : (ReflectliteValue.mk 68 p ReflectliteValue.flagAddr).run Tryz.prog w = .ok (.agg #[.pointer (some ⟨9, 68, none⟩), .pointer (some p), .int .u64 406]) w := by kernel_rfl
theorem elemVPP (a p : Addr) (W : World) (ha : W.cell? a = some (.pointer (some p))) :
  (ReflectliteValue.method (ReflectliteValue.valueError "reflectlite.Value.Elem" 0) ReflectliteValue.elem #[.agg #[.pointer (some ⟨9, 188, none⟩), .pointer (some a), .int .u64 150]]).run Tryz.prog W
   = .ok (.agg #[.pointer (some ⟨9, 68, none⟩), .pointer (some p), .int .u64 406]) W := by
 rw [rlm9]
 simp only [Sem.run_bind, partsPP, Result.andThen]
 simp [ReflectliteValue.elem, loadVar, isAgg, underlying, Tryz.underlying188, ha, Result.andThen, elemOfPP, mkP]
theorem rls9 (v x : Value) : ReflectliteValue.set #[v, x] = (do
  let (some (dst, a, fl), some (src, b, _)) := (<- ReflectliteValue.parts v, <- ReflectliteValue.parts x)
   | unsupported (.noEntry "extern/(internal/reflectlite.Value).Set.zeroValue")
  if fl / ReflectliteValue.flagAddr % 2 == 0 then unsupported (.noEntry "extern/(internal/reflectlite.Value).Set.unaddressable")
  let val <- loadVar src b
  if <- Rtype.directlyAssignable dst src then storeVar dst a val
  else if <- Rtype.implements dst src then
   if (<- Rtype.kind src) == 20 then
    match val with
    | .nilIface => unsupported (.noEntry "extern/reflectlite: a nil value of one interface type handed on as a value of another")
    | _ => storeVar dst a val
   else storeVar dst a (.iface src val)
  else panicString ("reflectlite.Set: value of type " ++ (<- Rtype.spelt src) ++ " is not assignable to type " ++ (<- Rtype.spelt dst))
  pure (.tuple #[])) := rfl
theorem partsPa (a : Addr) (w : World) : (ReflectliteValue.parts (.agg #[.pointer (some ⟨9, 68, none⟩), .pointer (some a), .int .u64 406])).run Tryz.prog w = .ok (some (68, a, 406)) w := by kernel_rfl
theorem partsP (a : Addr) (w : World) : (ReflectliteValue.parts (.agg #[.pointer (some ⟨9, 68, none⟩), .pointer (some a), .int .u64 150])).run Tryz.prog w = .ok (some (68, a, 150)) w := by kernel_rfl
theorem directP (w : World) : (Rtype.directlyAssignable 68 68).run Tryz.prog w = .ok true w := by kernel_rfl
theorem setP (ta b e : Addr) (old : Value) (W : World) (hb : W.cell? b = some (.pointer (some e))) (ht : W.cell? ta = some old) (hf : W.frozen? ta = false) :
  (ReflectliteValue.set #[.agg #[.pointer (some ⟨9, 68, none⟩), .pointer (some ta), .int .u64 406], .agg #[.pointer (some ⟨9, 68, none⟩), .pointer (some b), .int .u64 150]]).run Tryz.prog W
   = .ok (.tuple #[]) (W.setCell ta (.pointer (some e))) := by
 rw [rls9]
 simp only [Sem.run_bind, partsPa, partsP, Result.andThen]
 simp [ReflectliteValue.flagAddr, loadVar, isAgg, underlying, Tryz.underlying68, hb, Result.andThen, directP, storeVar, Value.cells, storeCells, Addr.add]
 rw [run_store Tryz.prog W ta _ _ (by rfl)]
 simp [ht, hf]
def ErrT (w : World) : Prop := w.cell? ⟨1, 0, none⟩ = some (.iface 246 (.agg #[.pointer (some ⟨9, 28, none⟩)]))
end Go.Proofs.YtbkeoiefolkjfaaGreatDoor
namespace Go.Proofs.YtbkeoiefolkjfaaGreatDoor
open Go.RowKit Go.Extern.Stop Go.Stop Go.Extern
abbrev hPP : Value := .pointer (some ⟨9, 188, none⟩)
abbrev hP : Value := .pointer (some ⟨9, 68, none⟩)
theorem asIn_hit (e t a : Addr) (old : Value) (w : World) (ha : w.cell? a = some (.pointer (some t))) (ht0 : w.cell? t = some old) (hf0 : w.frozen? t = false) :
  Calls Tryz.prog 186 #[.iface 68 (.pointer (some e)), .iface 188 (.pointer (some t)), .agg #[.pointer (some ⟨9, 188, none⟩), .pointer (some a), .int .u64 150], .iface 246 (.agg #[.pointer (some ⟨9, 68, none⟩)])] w
   fun ev w' => ev = .returned (.bool true) /\ w' = ((w.alloc (.cells #[.pointer (some ⟨9, 188, none⟩), .pointer (some a), .int .u64 150] 219)).alloc (.cells #[.pointer (some e)] 68)).setCell t (.pointer (some e)) := by
 have h10 := @run_callFunc_extern Tryz.prog 205 _ ReflectliteType.typeOf Tryz.func205 (by kernel_rfl) (by kernel_rfl) (by kernel_rfl) (by kernel_rfl)
 have h35 := @run_callFunc_extern Tryz.prog 254 _ (ReflectliteType.relation "AssignableTo" ReflectliteType.assignableTo) Tryz.func254 (by kernel_rfl) (by kernel_rfl) (by kernel_rfl) (by kernel_rfl)
 have h6 := @run_callFunc_extern Tryz.prog 183 _ (fun args => ReflectliteValue.unpack (args.getD 0 (.tuple #[]))) Tryz.func183 (by kernel_rfl) (by kernel_rfl) (by kernel_rfl) (by kernel_rfl)
 have h11 := @run_callFunc_extern Tryz.prog 206 _ (ReflectliteValue.method (ReflectliteValue.valueError "reflectlite.Value.Elem" 0) ReflectliteValue.elem) Tryz.func206 (by kernel_rfl) (by kernel_rfl) (by kernel_rfl) (by kernel_rfl)
 have h12 := @run_callFunc_extern Tryz.prog 207 _ ReflectliteValue.set Tryz.func207 (by kernel_rfl) (by kernel_rfl) (by kernel_rfl) (by kernel_rfl)
 have tO := typeOfP
 have mA := methodAssignableTo
 have a25 := assignableP
 have v25 := valueOfP
 have htl : t.block < w.heap.size := by
  rcases Nat.lt_or_ge t.block w.heap.size with h | h
  ·exact h
  simp [World.cell?, Array.getElem?_eq_none h] at ht0
 have hal : a.block < w.heap.size := by
  rcases Nat.lt_or_ge a.block w.heap.size with h | h
  ·exact h
  simp [World.cell?, Array.getElem?_eq_none h] at ha
 have el := elemVPP a t (w.alloc (.cells #[.pointer (some ⟨9, 188, none⟩), .pointer (some a), .int .u64 150] 219)) (by rw [World.cell?_alloc_lt _ _ a hal]; exact ha)
 have st := setP t ⟨w.heap.size + 1, 0, none⟩ e old ((w.alloc (.cells #[.pointer (some ⟨9, 188, none⟩), .pointer (some a), .int .u64 150] 219)).alloc (.cells #[.pointer (some e)] 68))
  (by rw [World.cell?_alloc_at _ _ _ _ (by simp)]; rfl)
  (by rw [World.cell?_alloc_lt _ _ t (by simp; omega), World.cell?_alloc_lt _ _ t htl]; exact ht0)
  (by rw [World.frozen?_alloc_old _ _ t (by simp; omega), World.frozen?_alloc_old _ _ t (Nat.ne_of_lt htl)]; exact hf0)
 go_enter Tryz.func186, Tryz.ntmps186
 go_wp2
 refine wp_loop_rounds 1 ?_
 rw [rounds_succ]
 go_wp2
 go_ret
 exact ⟨rfl, rfl⟩
theorem noAsE (v : Value) (xT : TypeId) (w : World) : (Instr.typeAssert (.iface 57 v) xT 251 true).run Tryz.prog w = .ok (.tuple #[.nilIface, .bool false]) w := run_typeAssert_lacksB Tryz.underlying251 (by kernel_rfl) (by kernel_rfl) v xT w
theorem noUnE (v : Value) (xT : TypeId) (w : World) : (Instr.typeAssert (.iface 57 v) xT 254 true).run Tryz.prog w = .ok (.tuple #[.nilIface, .bool false]) w := run_typeAssert_lacksB Tryz.underlying254 (by kernel_rfl) (by kernel_rfl) v xT w
theorem noUnsE (v : Value) (xT : TypeId) (w : World) : (Instr.typeAssert (.iface 57 v) xT 255 true).run Tryz.prog w = .ok (.tuple #[.nilIface, .bool false]) w := run_typeAssert_lacksB Tryz.underlying255 (by kernel_rfl) (by kernel_rfl) v xT w
theorem asIn_miss (n : Int) (t a : Addr) (w : World) :
  Calls Tryz.prog 186 #[.iface 57 (.int .i64 n), .iface 188 (.pointer (some t)), .agg #[.pointer (some ⟨9, 188, none⟩), .pointer (some a), .int .u64 150], .iface 246 (.agg #[.pointer (some ⟨9, 68, none⟩)])] w
   fun ev w' => ev = .returned (.bool false) /\ Below w.heap.size w w' := by
 have h10 := @run_callFunc_extern Tryz.prog 205 _ ReflectliteType.typeOf Tryz.func205 (by kernel_rfl) (by kernel_rfl) (by kernel_rfl) (by kernel_rfl)
 have h35 := @run_callFunc_extern Tryz.prog 254 _ (ReflectliteType.relation "AssignableTo" ReflectliteType.assignableTo) Tryz.func254 (by kernel_rfl) (by kernel_rfl) (by kernel_rfl) (by kernel_rfl)
 have tO := typeOfE
 have mA := methodAssignableTo
 have a25 := assignableE
 have n1 := noAsE
 have n2 := noUnE
 have n3 := noUnsE
 go_enter Tryz.func186, Tryz.ntmps186
 go_wp2
 refine wp_loop_rounds 1 ?_
 rw [rounds_succ]
 go_wp2
 go_ret
 exact ⟨rfl, (Below.refl _ _).alloc (Nat.le_refl _) _⟩
end Go.Proofs.YtbkeoiefolkjfaaGreatDoor
