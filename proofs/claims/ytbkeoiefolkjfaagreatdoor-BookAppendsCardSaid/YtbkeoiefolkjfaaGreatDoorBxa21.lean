/- Texts put together: SD, NS, NT, NU, NV, NL, NM, NP, NW, EC, EO, EW, SE, SF, AO, AD, DV. -/
import Derived.BigFrame
import Derived.Laws.AppendOwnNone
import Derived.WideShapes
import Derived.Test.YtbkeoiefolkjfaaGreatDoorBxa1
import Derived.Test.YtbkeoiefolkjfaaGreatDoorBxa6
import Derived.Test.YtbkeoiefolkjfaaGreatDoorBxa7
import Derived.Test.YtbkeoiefolkjfaaGreatDoorBxa9
import Derived.Test.YtbkeoiefolkjfaaGreatDoorBxa13
import Derived.Test.YtbkeoiefolkjfaaGreatDoorBxa14
import Derived.Test.YtbkeoiefolkjfaaGreatDoorBxa15
import Derived.Test.YtbkeoiefolkjfaaGreatDoorBxa16
import Derived.Test.YtbkeoiefolkjfaaGreatDoorBxa18
import Derived.Test.YtbkeoiefolkjfaaGreatDoorBxa19
import Derived.Test.YtbkeoiefolkjfaaGreatDoorBxa20
set_option linter.unusedVariables false
set_option maxRecDepth 100000
set_option maxHeartbeats 16000000
namespace Go.Proofs.YtbkeoiefolkjfaaGreatDoor.Bk
open Go.RowKit Go.Shelf
attribute [local go_sem] Oper.semAt_some
theorem results_b2 {fn : Func} {p u : Tmp} {ty : TypeId} (h : fn.results = #[.cell p ty, .tmp u]) (tmps : Array Value) (P : Program) (w : World) :
  (results fn tmps).run P w = ((asAddr (tmps.getD p undef)).run P w).andThen fun a w₁ => ((loadVar ty a).run P w₁).andThen fun v w₂ => .ok (.tuple #[v, tmps.getD u undef]) w₂ := by
 simp only [results, h]
 simp [Sem.run_bind, Result.andThen]
theorem ret_b2 {fn : Func} {p u : Tmp} (h : fn.results = #[.cell p 26, .tmp u]) (tmps : Array Value) (w : World) (b : Nat) (cur : Array Value) (hp : tmps.getD p undef = .pointer (some ⟨b, 0, none⟩))
  (hc : Cells w b 26 cur) (hz : cur.size = 5) : (results fn tmps).run Tryz.prog w = .ok (.tuple #[.agg cur, tmps.getD u undef]) w := by
 have L := run_loadVar_row (P := Tryz.prog) w b 26 26 cur (0, 0) _ hc Tryz.underlying26 rfl (by rw [hz]; kernel_rfl)
 rw [results_b2 h, hp]
 show ((loadVar _ _).run _ _).andThen _ = _
 rw [L]; rfl
theorem put5 {W : World} {b : Nat} {T : TypeId} {a0 a1 a2 a3 a4 : Value} (h : Cells W b T #[a0, a1, a2, a3, a4]) (v0 v1 v2 v3 v4 : Value) :
  Cells (((((W.setCell ⟨b, 0, none⟩ v0).setCell ⟨b, 1, none⟩ v1).setCell ⟨b, 2, none⟩ v2).setCell ⟨b, 3, none⟩ v3).setCell ⟨b, 4, none⟩ v4) b T #[v0, v1, v2, v3, v4] /\ Only (· = b) W (((((W.setCell ⟨b, 0, none⟩ v0).setCell ⟨b, 1, none⟩ v1).setCell ⟨b, 2, none⟩ v2).setCell ⟨b, 3, none⟩ v3).setCell ⟨b, 4, none⟩ v4) := by
 have k := ((((h.set 0 v0).set 1 v1).set 2 v2).set 3 v3).set 4 v4
 refine ⟨by simpa [List.setIfInBounds_toArray, List.set] using k, (((((Only.refl (· = b) W).cellS 0 v0).cellS 1 v1).cellS 2 v2).cellS 3 v3).cellS 4 v4⟩
def zeroB : Value := bookV 0 [] (.slice none 0 0) (.slice none 0 0) []
def ReadR (w w' : World) (t : List UInt8) (e : Ending) : Prop := Below w.heap.size w w' /\
  ((∃ a k u, parseL (baseL (t.drop (hl (Hd.genP t)))) = .error (a, k) /\ e = .returned (.tuple #[zeroB, u]) /\ FaultAt w.heap.size w' u a k) \/
   (∃ its bds r u, parseL (baseL (t.drop (hl (Hd.genP t)))) = .ok its /\ Recd Dc (t.drop (hl (Hd.genP t) + (baseL (t.drop (hl (Hd.genP t)))).length)) bds r /\ FinB Dc r /\ e = .returned (.tuple #[zeroB, u]) /\ FaultAt w.heap.size w' u bds.length 10) \/
   (∃ base bds tail v, Sound Dc t (Hd.genP t) base bds tail /\ e = .returned (.tuple #[v, .nilIface]) /\ BookR w.heap.size w' v (Hd.genP t) base bds tail))
theorem infoBat : (Tryz.prog.info? 37).map (fun i => (i.zero, i.size, i.bytes)) = some (some (.slice none 0 0), 1, 24) := by kernel_rfl
theorem infoInt13 : (Tryz.prog.info? 3).map (fun i => (i.zero, i.size, i.bytes)) = some (some (.int .i64 0), 1, 8) := by kernel_rfl
def lenAt (w : World) (b : Nat) : Nat := match w.cell? ⟨b, 2, none⟩ with | some (.slice _ n _) => n | _ => 0
theorem head_recs {D : List UInt8 -> Bool} {s r : List UInt8} {bds : List (List UInt8)} (h : Recd D s bds r) : s.length = (bds.flatMap Fr.fullR).length + r.length := by
 rw [h.eq, List.length_append]
theorem dec_nil : decL [] = none := by
 cases h : decL [] with
 | none => rfl
 | some eds =>
 obtain ⟨_, h1, _, h2⟩ := decL_iff.1 h
 cases eds with
 | nil => exact absurd h1 (by decide)
 | cons a r =>
 have := congrArg List.length h2
 unfold batchT batchLs edLs textL at this
 simp at this
theorem fault10 {lo : Nat} {W : World} {q k : Nat} (hq : lo <= q) (h : Cells W q 70 #[.int .i64 (k : Int), .iface 57 (.int .i64 10)]) : FaultAt lo W (.iface 68 (.pointer (some ⟨q, 0, none⟩))) k 10 :=
 ⟨q, hq, rfl, by rw [errV_pos 10 (by decide)]; exact h⟩
theorem corruptA {w w7 : World} (hB : Below w.heap.size w w7) (C7 : Cells w7 w.heap.size 26 #[.int .i64 0, .string ⟨#[]⟩, .slice none 0 0, .slice none 0 0, .string ⟨#[]⟩]) (k : Nat) :
  Below w.heap.size w ((((((w7.alloc (.cells #[.int .i64 (k : Int), .iface 57 (.int .i64 10)] 70)).setCell ⟨w.heap.size, 0, none⟩ (.int .i64 0)).setCell ⟨w.heap.size, 1, none⟩ (.string ⟨#[]⟩)).setCell ⟨w.heap.size, 2, none⟩ (.slice none 0 0)).setCell ⟨w.heap.size, 3, none⟩ (.slice none 0 0)).setCell ⟨w.heap.size, 4, none⟩ (.string ⟨#[]⟩)).drew /\
  Cells ((((((w7.alloc (.cells #[.int .i64 (k : Int), .iface 57 (.int .i64 10)] 70)).setCell ⟨w.heap.size, 0, none⟩ (.int .i64 0)).setCell ⟨w.heap.size, 1, none⟩ (.string ⟨#[]⟩)).setCell ⟨w.heap.size, 2, none⟩ (.slice none 0 0)).setCell ⟨w.heap.size, 3, none⟩ (.slice none 0 0)).setCell ⟨w.heap.size, 4, none⟩ (.string ⟨#[]⟩)).drew w.heap.size 26 #[.int .i64 0, .string ⟨#[]⟩, .slice none 0 0, .slice none 0 0, .string ⟨#[]⟩] /\
  FaultAt w.heap.size ((((((w7.alloc (.cells #[.int .i64 (k : Int), .iface 57 (.int .i64 10)] 70)).setCell ⟨w.heap.size, 0, none⟩ (.int .i64 0)).setCell ⟨w.heap.size, 1, none⟩ (.string ⟨#[]⟩)).setCell ⟨w.heap.size, 2, none⟩ (.slice none 0 0)).setCell ⟨w.heap.size, 3, none⟩ (.slice none 0 0)).setCell ⟨w.heap.size, 4, none⟩ (.string ⟨#[]⟩)).drew (.iface 68 (.pointer (some ⟨w7.heap.size, 0, none⟩))) k 10 := by
 have hF := Cells.new w7 70 #[.int .i64 (k : Int), .iface 57 (.int .i64 10)]
 have hb : Below w.heap.size w (w7.alloc (.cells #[.int .i64 (k : Int), .iface 57 (.int .i64 10)] 70)) := hB.alloc hB.size _
 obtain ⟨h1, h2⟩ := put5 (C7.alloc (.cells #[.int .i64 (k : Int), .iface 57 (.int .i64 10)] 70)) (.int .i64 0) (.string ⟨#[]⟩) (.slice none 0 0) (.slice none 0 0) (.string ⟨#[]⟩)
 have hlt := C7.lt
 exact ⟨(hb.trans (h2.to_below hb.size (fun r hr e => by omega))).drew, h1.drew, fault10 hB.size ((hF.only h2 (fun e => by omega)).drew)⟩
theorem corruptB {w w7 : World} (hB : Below w.heap.size w w7) (C7 : Cells w7 w.heap.size 26 #[.int .i64 0, .string ⟨#[]⟩, .slice none 0 0, .slice none 0 0, .string ⟨#[]⟩]) (k : Nat) :
  Below w.heap.size w ((((((w7.setCell ⟨w.heap.size, 0, none⟩ (.int .i64 0)).setCell ⟨w.heap.size, 1, none⟩ (.string ⟨#[]⟩)).setCell ⟨w.heap.size, 2, none⟩ (.slice none 0 0)).setCell ⟨w.heap.size, 3, none⟩ (.slice none 0 0)).setCell ⟨w.heap.size, 4, none⟩ (.string ⟨#[]⟩)).alloc (.cells #[.int .i64 (k : Int), .iface 57 (.int .i64 10)] 70)).drew /\
  Cells ((((((w7.setCell ⟨w.heap.size, 0, none⟩ (.int .i64 0)).setCell ⟨w.heap.size, 1, none⟩ (.string ⟨#[]⟩)).setCell ⟨w.heap.size, 2, none⟩ (.slice none 0 0)).setCell ⟨w.heap.size, 3, none⟩ (.slice none 0 0)).setCell ⟨w.heap.size, 4, none⟩ (.string ⟨#[]⟩)).alloc (.cells #[.int .i64 (k : Int), .iface 57 (.int .i64 10)] 70)).drew w.heap.size 26 #[.int .i64 0, .string ⟨#[]⟩, .slice none 0 0, .slice none 0 0, .string ⟨#[]⟩] /\
  FaultAt w.heap.size ((((((w7.setCell ⟨w.heap.size, 0, none⟩ (.int .i64 0)).setCell ⟨w.heap.size, 1, none⟩ (.string ⟨#[]⟩)).setCell ⟨w.heap.size, 2, none⟩ (.slice none 0 0)).setCell ⟨w.heap.size, 3, none⟩ (.slice none 0 0)).setCell ⟨w.heap.size, 4, none⟩ (.string ⟨#[]⟩)).alloc (.cells #[.int .i64 (k : Int), .iface 57 (.int .i64 10)] 70)).drew (.iface 68 (.pointer (some ⟨w7.heap.size, 0, none⟩))) k 10 := by
 obtain ⟨h1, h2⟩ := put5 C7 (.int .i64 0) (.string ⟨#[]⟩) (.slice none 0 0) (.slice none 0 0) (.string ⟨#[]⟩)
 have hlt := C7.lt
 have hb := hB.trans (h2.to_below hB.size (fun r hr e => by omega))
 have hz : (((((w7.setCell ⟨w.heap.size, 0, none⟩ (.int .i64 0)).setCell ⟨w.heap.size, 1, none⟩ (.string ⟨#[]⟩)).setCell ⟨w.heap.size, 2, none⟩ (.slice none 0 0)).setCell ⟨w.heap.size, 3, none⟩ (.slice none 0 0)).setCell ⟨w.heap.size, 4, none⟩ (.string ⟨#[]⟩)).heap.size = w7.heap.size := by simp [World.setCell]
 have hF := Cells.new (((((w7.setCell ⟨w.heap.size, 0, none⟩ (.int .i64 0)).setCell ⟨w.heap.size, 1, none⟩ (.string ⟨#[]⟩)).setCell ⟨w.heap.size, 2, none⟩ (.slice none 0 0)).setCell ⟨w.heap.size, 3, none⟩ (.slice none 0 0)).setCell ⟨w.heap.size, 4, none⟩ (.string ⟨#[]⟩)) 70 #[.int .i64 (k : Int), .iface 57 (.int .i64 10)]
 rw [hz] at hF
 exact ⟨(hb.alloc hb.size _).drew, (h1.alloc _).drew, fault10 hB.size hF.drew⟩
theorem bookRead_any (t : List UInt8) (ht : t.length <= 100000) (hbs : (baseL (t.drop (hl (Hd.genP t)))).length <= 60000) (w : World) (hT : TabB w) :
  Calls Tryz.prog 9 #[.string (B t)] w fun e w' => ReadR w w' t e := by
 obtain ⟨i1, hi, hz0, hz1, hib⟩ := info_parts infoInt13
 obtain ⟨i2, hiB, hB0, hB1, hBb⟩ := info_parts infoBat
 have hsz : (B t).size = t.length := B_size t
 have hgen := Hd.genP_is t
 have hn := Hd.gen_lt hgen
 have hhl := hl_le hgen
 generalize hnn : Hd.genP t = n at *
 obtain ⟨w0, hw0⟩ : ∃ z, w.alloc (.cells #[.int .i64 0, .string ⟨#[]⟩, .slice none 0 0, .slice none 0 0, .string ⟨#[]⟩] 26) = z := ⟨_, rfl⟩
 have hb0 : Below w.heap.size w w0 := by rw [<- hw0]; exact (Below.refl _ w).alloc (Nat.le_refl _) _
 have hz : w0.heap.size = w.heap.size + 1 := by rw [<- hw0]; simp
 have C0 : Cells w0 w.heap.size 26 #[.int .i64 0, .string ⟨#[]⟩, .slice none 0 0, .slice none 0 0, .string ⟨#[]⟩] := by rw [<- hw0]; exact Cells.new _ _ _
 have TB : Hid (∀ W, Below w.heap.size w W -> TabB W) := fun W hW => hT.below hW (Nat.le_refl _)
 have TK0 := Hd.take_any t ht w0 (TB.out w0 hb0).tab
 rw [hnn] at TK0
 have TK := Lib.hid TK0
 have HB0 := Lib.hid hb0
 have HC0 := Lib.hid C0
 have HW0 := Lib.hid hw0
 have q1 : ¬ (120000 : Int) < ((B t).size : Int) := by omega
 have hlen : (t.drop (hl n)).length <= 100000 := by rw [List.length_drop]; omega
 have HZ := Lib.hid hz
 clear hT TK0 hb0 C0 hw0 hz
 go_enter Tryz.func9, Tryz.ntmps9
 go_wp2_with fail
 rw [HW0.out]
 refine TK.out.mono ?_
 rintro e w1 ⟨rfl, b1⟩
 have HB1 := Lib.hid (HB0.out.trans (b1.mono HB0.out.size))
 have hs1 := b1.size
 have HC1 := Lib.hid (cells_kept HC0.out b1 HC0.out.lt)
 have BS := Lib.hid (base_any (t.drop (hl n)) hlen w1)
 have HSP := Lib.hid (baseL_split (t.drop (hl n)))
 have HBH := Lib.hid (behind_base (t.drop (hl n)))
 have hbl : (baseL (t.drop (hl n))).length <= (t.drop (hl n)).length := by
  have := congrArg List.length HSP.out
  rw [List.length_append] at this
  omega
 clear TK b1
 rw [hl_lenP]
 generalize hbase : baseL (t.drop (hl n)) = base at *
 go_wp2_with fail
 refine BS.out.mono ?_
 rintro e w2 ⟨rfl, b2⟩
 have HB2 := Lib.hid (HB1.out.trans (b2.mono HB1.out.size))
 have hs2 := b2.size
 obtain ⟨w3, hw3⟩ : ∃ z, w2.alloc (.cells #[.int .i64 (n : Int), .string (B base), .slice none 0 0, .slice none 0 0, .string ⟨#[]⟩] 26) = z := ⟨_, rfl⟩
 have b23 : Below w2.heap.size w2 w3 := by rw [<- hw3]; exact (Below.refl _ _).alloc (Nat.le_refl _) _
 have C3 : Cells w3 w2.heap.size 26 #[.int .i64 (n : Int), .string (B base), .slice none 0 0, .slice none 0 0, .string ⟨#[]⟩] := by rw [<- hw3]; exact Cells.new _ _ _
 have HC2 := Lib.hid (cells_kept HC1.out (b2.trans (b23.mono b2.size)) HC1.out.lt)
 have HB3 := Lib.hid (HB2.out.trans (b23.mono HB2.out.size))
 have PA := Lib.hid (parse_any (B base) (by rw [B_size]; exact hbs) w3)
 rw [B_data] at PA
 have HC3 := Lib.hid C3
 have HW3 := Lib.hid hw3
 have hs3 := b23.size
 have hlt3 := C3.lt
 have hlow : w.heap.size + 1 <= w2.heap.size := by have := HZ.out; omega
 clear BS b2 b23 C3 hw3
 go_wp2_with fail
 rw [HW3.out]
 refine PA.out.mono ?_
 rintro e w4 hp4
 cases hp : parseL base with
 | error an =>
  obtain ⟨a, k⟩ := an
  unfold Parsed at hp4
  rw [hp] at hp4
  obtain ⟨b4, u, rfl, hf⟩ := hp4
  have HB4 := Lib.hid (HB3.out.trans (b4.mono HB3.out.size))
  have HC4 := Lib.hid (cells_kept HC2.out b4 HC2.out.lt)
  obtain ⟨hput, honly⟩ := put5 HC4.out (.int .i64 0) (.string ⟨#[]⟩) (.slice none 0 0) (.slice none 0 0) (.string ⟨#[]⟩)
  have HF : Hid (FaultAt w.heap.size (((((w4.setCell ⟨w.heap.size, 0, none⟩ (.int .i64 0)).setCell ⟨w.heap.size, 1, none⟩ (.string ⟨#[]⟩)).setCell ⟨w.heap.size, 2, none⟩ (.slice none 0 0)).setCell ⟨w.heap.size, 3, none⟩ (.slice none 0 0)).setCell ⟨w.heap.size, 4, none⟩ (.string ⟨#[]⟩)) u a k) := by
   obtain ⟨q, h0, h1, h2⟩ := hf
   exact ⟨q, by omega, h1, h2.only honly (fun e => by omega)⟩
  have HBF := Lib.hid (HB4.out.trans (honly.to_below HB4.out.size (fun r hr e => by omega)))
  have HPUT := Lib.hid hput
  obtain ⟨q, _, rfl, _⟩ := hf
  have c0 := HC4.out.cell 0
  have c1 := HC4.out.cell 1
  have c2 := HC4.out.cell 2
  have c3 := HC4.out.cell 3
  have c4 := HC4.out.cell 4
  have f0 := HC4.out.frozen 0
  have f1 := HC4.out.frozen 1
  have f2 := HC4.out.frozen 2
  have f3 := HC4.out.frozen 3
  have f4 := HC4.out.frozen 4
  simp only [List.getElem?_toArray, List.getElem?_cons_zero, List.getElem?_cons_succ] at c0 c1 c2 c3 c4
  have HP := Lib.hid hp
  clear b4 hput honly PA hp
  go_wp2_with fail
  refine bodyPost_ret (ret_b2 rfl _ _ w.heap.size _ rfl HPUT.out rfl) rfl ?_
  exact ⟨HBF.out, .inl ⟨a, k, _, by rw [hnn, hbase]; exact HP.out, rfl, HF.out⟩⟩
 | ok its =>
 unfold Parsed at hp4
 rw [hp] at hp4
 obtain ⟨b4, u, rfl, _⟩ := hp4
 have hb4 := HB3.out.trans (b4.mono HB3.out.size)
 have hC4 := cells_kept HC2.out b4 HC2.out.lt
 have hK4 := cells_kept HC3.out b4 HC3.out.lt
 have HP := Lib.hid hp
 have HGEN := Lib.hid hgen
 clear PA b4 hp
 go_wp2_with fail
 go_loopw [9] (fun _ wr => ∃ (bds : List (List UInt8)) (r : List UInt8) (bv ev : Value) (us : List Value), Recd Dc (t.drop (hl n + base.length)) bds r /\ Cells wr w2.heap.size 26 #[.int .i64 (n : Int), .string (B base), bv, ev, .string ⟨#[]⟩] /\ BatR w.heap.size wr bv bds us /\ wr.ownsRow w.heap.size 3 1 ev bds.length ((endsFrom (hl n + base.length) bds).map encN) /\ Cells wr w.heap.size 26 #[.int .i64 0, .string ⟨#[]⟩, .slice none 0 0, .slice none 0 0, .string ⟨#[]⟩] /\ Below w.heap.size w wr) (fun _ wr => t.length + 1 - lenAt wr w2.heap.size)
 case atStart => exact ⟨[], _, _, _, [], ⟨rfl, fun b h => by cases h⟩, hK4, BatR.nil _ _, ⟨rfl, .inl ⟨rfl, rfl⟩⟩, hC4, hb4⟩
 case round =>
 obtain ⟨bds, r, bv, ev, us, hR, hK, hBt, hEv, hC, hb⟩ := hrel
 obtain ⟨ba, bc, rfl, _⟩ := own_slice hBt.row
 obtain ⟨ea, ec, rfl, _⟩ := own_slice hEv
 have hrl := head_recs hR
 rw [List.length_drop] at hrl
 have hbdl := bds_len bds
 have hblen : base.length + hl n <= t.length := by rw [List.length_drop] at hbl; omega
 have hWe : wholeN n base bds = hl n + base.length + (bds.flatMap Fr.fullR).length := rfl
 have hWle : wholeN n base bds <= t.length := by omega
 have hdrop : t.drop (wholeN n base bds) = r := by
  rw [hWe, drop_plus, hR.eq, List.drop_left]
 have EX : Hid ((B t).extract (wholeN n base bds) t.length = B r) := by
  show _ = _
  rw [<- hsz, Fr.ext_drop, hdrop]
 have hrlen : r.length <= 700000 := by omega
 have BKR : BookR w.heap.size wr (bookV n base (.slice ba bds.length bc) (.slice ea bds.length ec) []) n base bds [] := ⟨_, _, us, rfl, hBt, hEv⟩
 have WH := Lib.hid (whole_any BKR (by omega) (TB.out wr hb))
 have k0 := hK.cell 0
 have k1 := hK.cell 1
 have k2 := hK.cell 2
 have k3 := hK.cell 3
 have k4 := hK.cell 4
 simp only [List.getElem?_toArray, List.getElem?_cons_zero, List.getElem?_cons_succ] at k0 k1 k2 k3 k4
 have HR := Lib.hid hR
 have HK := Lib.hid hK
 have HBT := Lib.hid hBt
 have HEV := Lib.hid hEv
 have HC := Lib.hid hC
 have HB := Lib.hid hb
 have HWE := Lib.hid hWe
 have HRL := Lib.hid hrl
 unfold bookV at WH
 clear hR hBt hEv hC hb hrl hdrop hWe BKR
 generalize hWW : wholeN n base bds = W at *
 have hWi : (W : Int) <= ((B t).size : Int) := by omega
 go_wp2_with fail
 refine WH.out.mono ?_
 rintro e w5 ⟨rfl, b5⟩
 have HB5 := Lib.hid (HB.out.trans (b5.mono HB.out.size))
 have FR := Lib.hid (Fr.read_any r hrlen w5 (TB.out w5 HB5.out).nums)
 have B45 := Lib.hid b5
 clear WH b5 k0 k1 k2 k3 k4 hK
 go_wp2_with fail
 rw [EX.out]
 refine FR.out.mono ?_
 rintro e w6 ⟨kk, bb, mm, hread, rfl, b6⟩
 have HB6 := Lib.hid (HB5.out.trans (b6.mono HB5.out.size))
 have B46 := Lib.hid (B45.out.trans (b6.mono B45.out.size))
 have K6 := cells_kept HK.out B46.out HK.out.lt
 have C6 := cells_kept HC.out B46.out HC.out.lt
 have T6 := HBT.out.below B46.out
 have E6 := row_below HEV.out B46.out (Nat.le_refl _)
 clear FR b6 B45
 unfold Fr.readV
 rcases hread with ⟨hwt, rfl, rfl⟩ | ⟨hpt, rfl, rfl, rfl⟩ | ⟨hnp, hnw, rfl, rfl, rfl⟩
 ·
  have hgb := Fr.good_iff.1 hwt.1
  have DE := Lib.hid (decode_any bb (by unfold maxLen; omega) w6 (TB.out w6 HB6.out).tabs)
  have hfl : (Fr.fullR bb).length <= r.length := by
   obtain ⟨_, m, e⟩ := hwt
   rw [e, List.length_append]; omega
  go_wp2_with fail
  refine DE.out.mono ?_
  rintro e w7 ⟨b7, h7⟩
  have HB7 := Lib.hid (HB6.out.trans (b7.mono HB6.out.size))
  have hs7 := b7.size
  have K7 := cells_kept K6 b7 K6.lt
  have C7 := cells_kept C6 b7 C6.lt
  have T7 := T6.below b7
  have E7 := row_below E6 b7 (Nat.le_refl _)
  clear DE K6 C6 T6 E6
  rcases h7 with ⟨hd, rfl⟩ | ⟨eds, u7, fvs, hd, rfl, hO⟩
  ·have FB : Hid (FinB Dc r) := .inr ⟨bb, hwt, by unfold Dc; rw [hd]; rfl⟩
   clear hwt hd T7 E7 b7
   have c70 := C7.cell 0
   have c71 := C7.cell 1
   have c72 := C7.cell 2
   have c73 := C7.cell 3
   have c74 := C7.cell 4
   have g70 := C7.frozen 0
   have g71 := C7.frozen 1
   have g72 := C7.frozen 2
   have g73 := C7.frozen 3
   have g74 := C7.frozen 4
   have m72 := K7.cell 2
   simp only [List.getElem?_toArray, List.getElem?_cons_zero, List.getElem?_cons_succ] at c70 c71 c72 c73 c74 m72
   have d70 : ∀ o, (w7.alloc o).cell? ⟨w.heap.size, 0, none⟩ = _ := fun o => ((C7.alloc o).cell 0).trans rfl
   have d71 : ∀ o, (w7.alloc o).cell? ⟨w.heap.size, 1, none⟩ = _ := fun o => ((C7.alloc o).cell 1).trans rfl
   have d72 : ∀ o, (w7.alloc o).cell? ⟨w.heap.size, 2, none⟩ = _ := fun o => ((C7.alloc o).cell 2).trans rfl
   have d73 : ∀ o, (w7.alloc o).cell? ⟨w.heap.size, 3, none⟩ = _ := fun o => ((C7.alloc o).cell 3).trans rfl
   have d74 : ∀ o, (w7.alloc o).cell? ⟨w.heap.size, 4, none⟩ = _ := fun o => ((C7.alloc o).cell 4).trans rfl
   have h70 : ∀ o, (w7.alloc o).frozen? ⟨w.heap.size, 0, none⟩ = false := fun o => (C7.alloc o).frozen 0
   have h71 : ∀ o, (w7.alloc o).frozen? ⟨w.heap.size, 1, none⟩ = false := fun o => (C7.alloc o).frozen 1
   have h72 : ∀ o, (w7.alloc o).frozen? ⟨w.heap.size, 2, none⟩ = false := fun o => (C7.alloc o).frozen 2
   have h73 : ∀ o, (w7.alloc o).frozen? ⟨w.heap.size, 3, none⟩ = false := fun o => (C7.alloc o).frozen 3
   have h74 : ∀ o, (w7.alloc o).frozen? ⟨w.heap.size, 4, none⟩ = false := fun o => (C7.alloc o).frozen 4
   have CA := Lib.hid (corruptA HB7.out C7 bds.length)
   have CB := Lib.hid (corruptB HB7.out C7 bds.length)
   clear K7 C7
   go_wp2_with fail
   go_region
   all_goals go_wp2_with fail
   ·refine bodyPost_ret (ret_b2 rfl _ _ w.heap.size _ rfl CA.out.2.1 rfl) rfl ?_
    exact ⟨CA.out.1, .inr (.inl ⟨its, bds, r, _, by rw [hnn, hbase]; exact HP.out, by rw [hnn, hbase]; exact HR.out, FB.out, rfl, CA.out.2.2⟩)⟩
   refine bodyPost_ret (ret_b2 rfl _ _ w.heap.size _ rfl CB.out.2.1 rfl) rfl ?_
   exact ⟨CB.out.1, .inr (.inl ⟨its, bds, r, _, by rw [hnn, hbase]; exact HP.out, by rw [hnn, hbase]; exact HR.out, FB.out, rfl, CB.out.2.2⟩)⟩
  have hO' : OwnE w.heap.size w7 u7 (edsOf bb) fvs := by
   have : edsOf bb = eds := by unfold edsOf; rw [hd]; rfl
   rw [this]
   exact ⟨rowBase hO.row HB6.out.size, hO.len, fun i ed fv h1 h2 => rowBase (hO.each i ed fv h1 h2) HB6.out.size⟩
  have hDc : Dc bb = true := by unfold Dc; rw [hd]; rfl
  obtain ⟨ua, uc, rfl, _⟩ := own_slice hO.row
  have RS := Lib.hid (HR.out.snoc hwt hDc)
  have ES : Hid ((endsFrom (hl n + base.length) (bds ++ [bb])).map encN = (endsFrom (hl n + base.length) bds).map encN ++ [Value.int .i64 ((W : Int) + ((Fr.fullR bb).length : Int))]) := by
   show _ = _
   rw [endsFrom_snoc, List.map_append, <- HWE.out]
   simp [encN]
  have HO := Lib.hid hO'
  have T7' := Lib.hid T7
  have E7' := Lib.hid E7
  have K7' := Lib.hid K7
  have C7' := Lib.hid C7
  have N1 : ∀ (w3 : World) (T : TypeId) (x : Value), Hid (∀ (j : Nat) (u : Value), [x][j]? = some u -> (w3.alloc (.cells #[x] T)).cell? ((⟨w3.heap.size, 0, none⟩ : Addr).add j) = some u) := fun w3 T x j u h => by
   have ea : (⟨w3.heap.size, 0, none⟩ : Addr).add j = ⟨w3.heap.size, j, none⟩ := by unfold Addr.add; split <;> simp_all
   rw [ea, (Cells.new w3 T #[x]).cell j]
   simpa using h
  have N1b : ∀ (w3 : World) (b : Nat) (T : TypeId) (x : Value), w3.heap.size = b -> Hid (∀ (j : Nat) (u : Value), [x][j]? = some u -> (w3.alloc (.cells #[x] T)).cell? ((⟨b, 0, none⟩ : Addr).add j) = some u) := fun w3 b T x hb j u h => by
   rw [<- hb]; exact (N1 w3 T x).out j u h
  have k2 := K7.cell 2
  have f2 := K7.frozen 2
  simp only [List.getElem?_toArray, List.getElem?_cons_zero, List.getElem?_cons_succ] at k2
  have hlo7 : w.heap.size <= w7.heap.size := HB7.out.size
  have hkl : w2.heap.size < w7.heap.size := K7.lt
  have hbd1 : bds.length + (Fr.fullR bb).length <= t.length := by have := HRL.out; omega
  clear hwt hd hO hO' hDc T7 E7 K7 C7 b7
  generalize hm : (Fr.fullR bb).length = m at *
  have hwm : IntKind.i64.wrap ((W : Int) + (m : Int)) = (W : Int) + (m : Int) := IntWalk.i64_in _ (by have := HRL.out; have := HWE.out; omega)
  go_wp2_with (at_builtin; refine wpList_append_at rfl _ _ 23 rfl w.heap.size 37 i2 _ 1 24 Tryz.underlying23 hiB hB0 hB1 hBb rfl (by decide) _ _ _ rfl (T7'.out.row.alloc _) _ 1 1 [.slice ua eds.length uc] rfl rfl (N1 _ _ _).out (by intro u hu; simp at hu; subst hu; rfl) (by unfold maxLen; omega) (by omega) (by simp only [World.size_alloc]; omega) ?_)
  intro bv8 W8 own8 grow8 at8
  have hb8 : Below w7.heap.size w7 (w7.alloc (.cells #[.slice ua eds.length uc] 37)) := (Below.refl _ _).alloc (Nat.le_refl _) _
  have o8 : Only (fun r => (Value.slice ba bds.length bc).ownBlock = some r) w7 W8 := (Only.of_below (S := fun r => (Value.slice ba bds.length bc).ownBlock = some r) hb8 (Nat.le_refl _)).grown grow8 (fun r e => .inl e)
  have T8 := T7'.out.snoc HO.out own8 o8
  have E8 := row_only E7'.out o8 (fun b e q => own_own_ne T7'.out.row E7'.out (by decide) b q e)
  have K8 := K7'.out.only o8 (fun e => own_cells_ne T7'.out.row K7'.out (by decide) e)
  have C8 := C7'.out.only o8 (fun e => own_cells_ne T7'.out.row C7'.out (by decide) e)
  have B8 := HB7.out.trans (o8.to_below hlo7 (fun r hr e => by have := (T7'.out.row.lt r e).1; omega))
  have hs8 := o8.size
  obtain ⟨ba8, bc8, rfl, _⟩ := own_slice own8
  have K9 := K8.set 2 (.slice ba8 (bds.length + 1) bc8)
  rw [show (#[Value.int .i64 (n : Int), .string (B base), .slice ba bds.length bc, .slice ea bds.length ec, .string ⟨#[]⟩] : Array Value).setIfInBounds 2 (.slice ba8 (bds.length + 1) bc8) = #[.int .i64 (n : Int), .string (B base), .slice ba8 (bds.length + 1) bc8, .slice ea bds.length ec, .string ⟨#[]⟩] from rfl] at K9
  have o9 : Only (· = w2.heap.size) W8 (W8.setCell ⟨w2.heap.size, 2, none⟩ (.slice ba8 (bds.length + 1) bc8)) := (Only.refl (· = w2.heap.size) W8).cellS 2 _
  have T9 := T8.box K8 (by decide) (by decide) (by decide) o9
  have E9 := row_only E8 o9 (fun b e q => own_cells_ne E8 K8 (by decide) (by rw [e, q]))
  have C9 := C8.only o9 (fun e => by omega)
  have B9 := B8.trans (o9.to_below B8.size (fun r hr e => by omega))
  have kc2 := K8.cell 2
  have kf2 := K8.frozen 2
  have k93 := K9.cell 3
  have f93 := K9.frozen 3
  simp only [List.getElem?_toArray, List.getElem?_cons_zero, List.getElem?_cons_succ] at kc2 k93
  have HT9 := Lib.hid T9
  have HE9 := Lib.hid E9
  have HK9 := Lib.hid K9
  have HC9 := Lib.hid C9
  have HB9 := Lib.hid B9
  have hs9 := o9.size
  have HSZ : Hid ((W8.setCell ⟨w2.heap.size, 2, none⟩ (.slice ba8 (bds.length + 1) bc8)).heap.size = W8.heap.size) := by
   show _ = _
   simp [World.setCell]
  clear own8 grow8 at8 hb8 o8 T8 E8 K8 C8 B8 K9 o9 T9 E9 C9 B9 T7' E7' K7' C7' HO k2 f2
  go_wp2_with (at_builtin; refine wpList_append_at rfl _ _ 24 rfl w.heap.size 3 i1 _ 1 8 Tryz.underlying24 hi hz0 hz1 hib rfl (by decide) _ _ _ rfl (HE9.out.alloc _) _ 1 1 [.int .i64 ((W : Int) + (m : Int))] rfl rfl (by first | exact (N1b _ _ _ _ HSZ.out).out | exact (N1 _ _ _).out) (by intro u hu; simp at hu; subst hu; rfl) (by unfold maxLen; omega) (by omega) (by simp only [World.size_alloc]; omega) ?_)
  intro ev10 W10 own10 grow10 at10
  generalize hw9 : W8.setCell ⟨w2.heap.size, 2, none⟩ (.slice ba8 (bds.length + 1) bc8) = W9 at *
  have hb10 : Below W9.heap.size W9 (W9.alloc (.cells #[.int .i64 ((W : Int) + (m : Int))] 3)) := (Below.refl _ _).alloc (Nat.le_refl _) _
  have o10 : Only (fun r => (Value.slice ea bds.length ec).ownBlock = some r) W9 W10 := (Only.of_below (S := fun r => (Value.slice ea bds.length ec).ownBlock = some r) hb10 (Nat.le_refl _)).grown grow10 (fun r e => .inl e)
  have T10 := HT9.out.beside HE9.out (by decide) (by decide) (by decide) o10
  have K10 := HK9.out.only o10 (fun e => own_cells_ne HE9.out HK9.out (by decide) e)
  have C10 := HC9.out.only o10 (fun e => own_cells_ne HE9.out HC9.out (by decide) e)
  have B10 := HB9.out.trans (o10.to_below HB9.out.size (fun r hr e => by have := (HE9.out.lt r e).1; omega))
  obtain ⟨ea10, ec10, rfl, _⟩ := own_slice own10
  have K11 := K10.set 3 (.slice ea10 (bds.length + 1) ec10)
  rw [show (#[Value.int .i64 (n : Int), .string (B base), .slice ba8 (bds.length + 1) bc8, .slice ea bds.length ec, .string ⟨#[]⟩] : Array Value).setIfInBounds 3 (.slice ea10 (bds.length + 1) ec10) = #[.int .i64 (n : Int), .string (B base), .slice ba8 (bds.length + 1) bc8, .slice ea10 (bds.length + 1) ec10, .string ⟨#[]⟩] from rfl] at K11
  have o11 : Only (· = w2.heap.size) W10 (W10.setCell ⟨w2.heap.size, 3, none⟩ (.slice ea10 (bds.length + 1) ec10)) := (Only.refl (· = w2.heap.size) W10).cellS 3 _
  have T11 := Lib.hid (T10.box K10 (by decide) (by decide) (by decide) o11)
  have E11 := Lib.hid (row_only own10 o11 (fun b e q => own_cells_ne own10 K10 (by decide) (by rw [e, q])))
  have C11 := Lib.hid (C10.only o11 (fun e => by omega))
  have B11 := Lib.hid (B10.trans (o11.to_below B10.size (fun r hr e => by omega)))
  have HK11 := Lib.hid K11
  have kc3 := K10.cell 3
  have kf3 := K10.frozen 3
  have l2 := K11.cell 2
  simp only [List.getElem?_toArray, List.getElem?_cons_zero, List.getElem?_cons_succ] at kc3 l2
  have L2 := Lib.hid l2
  have LW := Lib.hid (show lenAt wr w2.heap.size = bds.length by unfold lenAt; rw [HK.out.cell]; rfl)
  clear own10 grow10 at10 hb10 o10 T10 K10 C10 B10 K11 o11 l2 HT9 HE9 HK9 HC9 HB9 kc2 kf2 k93 f93
  go_wp2_with fail
  go_roundw
  case rel => exact ⟨bds ++ [bb], _, _, _, _, RS.out, HK11.out, T11.out, by rw [ES.out, List.length_append]; exact E11.out, C11.out, B11.out⟩
  case measure =>
  have h1 := LW.out
  rw [h1]
  unfold lenAt
  rw [L2.out]
  show t.length + 1 - (bds.length + 1) < t.length + 1 - bds.length
  omega
 ·
  have K7 := K6.set 4 (.string (B r))
  rw [show (#[Value.int .i64 (n : Int), .string (B base), .slice ba bds.length bc, .slice ea bds.length ec, .string ⟨#[]⟩] : Array Value).setIfInBounds 4 (.string (B r)) = #[.int .i64 (n : Int), .string (B base), .slice ba bds.length bc, .slice ea bds.length ec, .string (B r)] from rfl] at K7
  have o7 : Only (· = w2.heap.size) w6 (w6.setCell ⟨w2.heap.size, 4, none⟩ (.string (B r))) := (Only.refl (· = w2.heap.size) w6).cellS 4 _
  have C7 := C6.only o7 (fun e => by omega)
  have T7 := T6.box K6 (by decide) (by decide) (by decide) o7
  have E7 := row_only E6 o7 (fun b e q => own_cells_ne E6 K6 (by decide) (by rw [e, q]))
  obtain ⟨P8, o8⟩ := put5 C7 (.int .i64 (n : Int)) (.string (B base)) (.slice ba bds.length bc) (.slice ea bds.length ec) (.string (B r))
  have T8 := T7.box C7 (by decide) (by decide) (by decide) o8
  have E8 := row_only E7 o8 (fun b e q => own_cells_ne E7 C7 (by decide) (by rw [e, q]))
  have HP8 := Lib.hid P8
  have B7 := HB6.out.trans (o7.to_below HB6.out.size (fun r hr e => by omega))
  have B8 := Lib.hid (B7.trans (o8.to_below B7.size (fun r hr e => by omega)))
  have BR := Lib.hid (show BookR w.heap.size _ (bookV n base (.slice ba bds.length bc) (.slice ea bds.length ec) r) n base bds r from ⟨_, _, us, rfl, T8, E8⟩)
  have SND := Lib.hid (show Sound Dc t n base bds r from ⟨HGEN.out, ⟨its, HP.out⟩, hbase, HR.out, hpt⟩)
  have f64 := K6.frozen 4
  have kk4 := K6.cell 4
  have c70 := C7.cell 0
  have c71 := C7.cell 1
  have c72 := C7.cell 2
  have c73 := C7.cell 3
  have c74 := C7.cell 4
  have g70 := C7.frozen 0
  have g71 := C7.frozen 1
  have g72 := C7.frozen 2
  have g73 := C7.frozen 3
  have g74 := C7.frozen 4
  have m70 := K7.cell 0
  have m71 := K7.cell 1
  have m72 := K7.cell 2
  have m73 := K7.cell 3
  have m74 := K7.cell 4
  simp only [List.getElem?_toArray, List.getElem?_cons_zero, List.getElem?_cons_succ] at kk4 c70 c71 c72 c73 c74 m70 m71 m72 m73 m74
  clear K6 C6 T6 E6 K7 o7 C7 T7 E7 P8 o8 T8 E8 B7 hpt
  go_upto_region 12 with fail
  rw [EX.out]
  go_wp2_with fail
  refine bodyPost_ret (ret_b2 rfl _ _ w.heap.size _ rfl HP8.out rfl) rfl ?_
  exact ⟨B8.out, .inr (.inr ⟨base, bds, r, _, by rw [hnn]; exact SND.out, rfl, by rw [hnn]; exact BR.out⟩)⟩
 -- no record, no tail
 have DE := Lib.hid (decode_any [] (by decide) w6 (TB.out w6 HB6.out).tabs)
 have FB : Hid (FinB Dc r) := .inl ⟨hnp, hnw⟩
 have DN := Lib.hid dec_nil
 clear hnp hnw
 go_wp2_with fail
 refine DE.out.mono ?_
 rintro e w7 ⟨b7, h7⟩
 have HB7 := Lib.hid (HB6.out.trans (b7.mono HB6.out.size))
 have hs7 := b7.size
 have K7 := cells_kept K6 b7 K6.lt
 have C7 := cells_kept C6 b7 C6.lt
 clear DE K6 C6 T6 E6 b7
 rcases h7 with ⟨hd, rfl⟩ | ⟨eds, u7, fvs, hd, _⟩
 rotate_left
 ·rw [DN.out] at hd; cases hd
 have c70 := C7.cell 0
 have c71 := C7.cell 1
 have c72 := C7.cell 2
 have c73 := C7.cell 3
 have c74 := C7.cell 4
 have g70 := C7.frozen 0
 have g71 := C7.frozen 1
 have g72 := C7.frozen 2
 have g73 := C7.frozen 3
 have g74 := C7.frozen 4
 have m72 := K7.cell 2
 simp only [List.getElem?_toArray, List.getElem?_cons_zero, List.getElem?_cons_succ] at c70 c71 c72 c73 c74 m72
 have d70 : ∀ o, (w7.alloc o).cell? ⟨w.heap.size, 0, none⟩ = _ := fun o => ((C7.alloc o).cell 0).trans rfl
 have d71 : ∀ o, (w7.alloc o).cell? ⟨w.heap.size, 1, none⟩ = _ := fun o => ((C7.alloc o).cell 1).trans rfl
 have d72 : ∀ o, (w7.alloc o).cell? ⟨w.heap.size, 2, none⟩ = _ := fun o => ((C7.alloc o).cell 2).trans rfl
 have d73 : ∀ o, (w7.alloc o).cell? ⟨w.heap.size, 3, none⟩ = _ := fun o => ((C7.alloc o).cell 3).trans rfl
 have d74 : ∀ o, (w7.alloc o).cell? ⟨w.heap.size, 4, none⟩ = _ := fun o => ((C7.alloc o).cell 4).trans rfl
 have h70 : ∀ o, (w7.alloc o).frozen? ⟨w.heap.size, 0, none⟩ = false := fun o => (C7.alloc o).frozen 0
 have h71 : ∀ o, (w7.alloc o).frozen? ⟨w.heap.size, 1, none⟩ = false := fun o => (C7.alloc o).frozen 1
 have h72 : ∀ o, (w7.alloc o).frozen? ⟨w.heap.size, 2, none⟩ = false := fun o => (C7.alloc o).frozen 2
 have h73 : ∀ o, (w7.alloc o).frozen? ⟨w.heap.size, 3, none⟩ = false := fun o => (C7.alloc o).frozen 3
 have h74 : ∀ o, (w7.alloc o).frozen? ⟨w.heap.size, 4, none⟩ = false := fun o => (C7.alloc o).frozen 4
 have CA := Lib.hid (corruptA HB7.out C7 bds.length)
 have CB := Lib.hid (corruptB HB7.out C7 bds.length)
 clear K7 C7
 go_wp2_with fail
 go_region
 all_goals go_wp2_with fail
 ·refine bodyPost_ret (ret_b2 rfl _ _ w.heap.size _ rfl CA.out.2.1 rfl) rfl ?_
  exact ⟨CA.out.1, .inr (.inl ⟨its, bds, r, _, by rw [hnn, hbase]; exact HP.out, by rw [hnn, hbase]; exact HR.out, FB.out, rfl, CA.out.2.2⟩)⟩
 refine bodyPost_ret (ret_b2 rfl _ _ w.heap.size _ rfl CB.out.2.1 rfl) rfl ?_
 exact ⟨CB.out.1, .inr (.inl ⟨its, bds, r, _, by rw [hnn, hbase]; exact HP.out, by rw [hnn, hbase]; exact HR.out, FB.out, rfl, CB.out.2.2⟩)⟩
end Go.Proofs.YtbkeoiefolkjfaaGreatDoor.Bk
namespace Go.Proofs.YtbkeoiefolkjfaaGreatDoor
open Go.RowKit Go.Shelf
attribute [local go_sem] Oper.semAt_some
end Go.Proofs.YtbkeoiefolkjfaaGreatDoor
namespace Go.Proofs.YtbkeoiefolkjfaaGreatDoor
open Go.RowKit Go.Shelf
attribute [local go_sem] Oper.semAt_some
end Go.Proofs.YtbkeoiefolkjfaaGreatDoor
namespace Go.Proofs.YtbkeoiefolkjfaaGreatDoor
open Go.RowKit Go.Shelf
end Go.Proofs.YtbkeoiefolkjfaaGreatDoor
namespace Go.Proofs.YtbkeoiefolkjfaaGreatDoor
open Go.RowKit Go.Shelf
attribute [local go_sem] Oper.semAt_some
end Go.Proofs.YtbkeoiefolkjfaaGreatDoor
namespace Go.Proofs.YtbkeoiefolkjfaaGreatDoor
end Go.Proofs.YtbkeoiefolkjfaaGreatDoor
namespace Go.Proofs.YtbkeoiefolkjfaaGreatDoor
open Go.RowKit Go.Shelf
end Go.Proofs.YtbkeoiefolkjfaaGreatDoor
namespace Go.Proofs.YtbkeoiefolkjfaaGreatDoor
open Go.RowKit Go.Shelf
end Go.Proofs.YtbkeoiefolkjfaaGreatDoor
namespace Go.Proofs.YtbkeoiefolkjfaaGreatDoor
open Go.RowKit Go.Shelf
attribute [local go_sem] Oper.semAt_some
section
variable {w : World} {lb : Nat} {ev v : Value} {ps qs : List Pr} {nx : Int}
end
end Go.Proofs.YtbkeoiefolkjfaaGreatDoor
namespace Go.Proofs.YtbkeoiefolkjfaaGreatDoor
end Go.Proofs.YtbkeoiefolkjfaaGreatDoor
namespace Go.Proofs.YtbkeoiefolkjfaaGreatDoor
open Go.RowKit Go.Shelf
attribute [local go_sem] Oper.semAt_some
end Go.Proofs.YtbkeoiefolkjfaaGreatDoor
namespace Go.Proofs.YtbkeoiefolkjfaaGreatDoor
open Go.RowKit Go.Shelf
attribute [local go_sem] Oper.semAt_some
end Go.Proofs.YtbkeoiefolkjfaaGreatDoor
namespace Go.Proofs.YtbkeoiefolkjfaaGreatDoor.Bk
open Go.RowKit Go.Shelf
attribute [local go_sem] Oper.semAt_some
theorem ReadR.sound {w w' : World} {t base tail : List UInt8} {n : Nat} {bds : List (List UInt8)} {e : Ending} (h : ReadR w w' t e) (s : Sound Dc t n base bds tail) :
  Below w.heap.size w w' /\ ∃ v, e = .returned (.tuple #[v, .nilIface]) /\ BookR w.heap.size w' v n base bds tail := by
 obtain ⟨hb, h⟩ := h
 refine ⟨hb, ?_⟩
 have hn : Hd.genP t = n := Hd.gen_one (Hd.genP_is t) s.gen
 rw [hn] at h
 obtain ⟨its, hp⟩ := s.parse
 have hB := s.isB
 rcases h with ⟨a, k, u, h1, _⟩ | ⟨its', bds', r, u, h1, h2, h3, _⟩ | ⟨base', bds', tail', v, h1, rfl, h2⟩
 ·rw [hB, hp] at h1; cases h1
 ·rw [hB] at h2
  obtain ⟨rfl, rfl⟩ := recd_one h2 s.recd (.inr h3) (.inl s.fin)
  exact (finB_not s.fin h3).elim
 have hbb : base' = base := by rw [<- h1.isB, hB]
 subst hbb
 obtain ⟨rfl, rfl⟩ := recd_one h1.recd s.recd (.inl h1.fin) (.inl s.fin)
 exact ⟨v, rfl, h2⟩
theorem base_short (t : List UInt8) (n : Nat) : (baseL (t.drop n)).length <= t.length := by
 have h1 := baseL_len (t.drop n)
 have h2 := cutAt_le (t.drop n)
 have h3 : (t.drop n).length <= t.length := by rw [List.length_drop]; omega
 omega
def ex13 : List UInt8 := [65, 58, 32, 49, 10, 37, 97, 109]
theorem ex_sound : Sound Dc ex13 0 [65, 58, 32, 49, 10] [] [37, 97, 109] := by
 have hh : hl 0 = 0 := rfl
 refine ⟨Hd.gen_short (by decide), ⟨_, (by kernel_rfl : parseL [65, 58, 32, 49, 10] = .ok [⟨3, [65, 58, 32, 49, 10], [([65], [49])]⟩])⟩, by kernel_rfl, ⟨rfl, fun b h => by cases h⟩, ?_⟩
 exact Fr.full_begins (b := [32, 10]) (by decide) (k := 3) (by have := full_pos [32, 10]; omega)
theorem alive13 (w : World) (hT : TabB w) : Calls Tryz.prog 8 #[] w fun e w' => e = .returned (.bool true) /\ Below w.heap.size w w' := by
 have RD := Lib.hid (bookRead_any ex13 (by decide) (by have := base_short ex13 (hl (Hd.genP ex13)); have e : ex13.length = 8 := rfl; omega) w hT)
 have TB : Hid (∀ W, Below w.heap.size w W -> TabB W) := fun W hW => hT.below hW (Nat.le_refl _)
 have eB : (⟨#[65, 58, 32, 49, 10, 37, 97, 109]⟩ : ByteArray) = B ex13 := rfl
 go_enter Tryz.func8, Tryz.ntmps8
 rw [eB]
 go_wp2_with fail
 refine RD.out.mono ?_
 rintro e w1 hr
 obtain ⟨b1, v, rfl, hBR⟩ := hr.sound ex_sound
 have BR1 := hBR
 obtain ⟨bv, ev, us, rfl, hBt, hEv⟩ := hBR.is
 obtain ⟨ba, bc, rfl, _⟩ := own_slice hBt.row
 obtain ⟨ea, ec, rfl, _⟩ := own_slice hEv
 unfold bookV at *
 obtain ⟨w2, hw2⟩ : ∃ z, w1.alloc (.cells #[.int .i64 0, .string (B [65, 58, 32, 49, 10]), .slice ba 0 bc, .slice ea 0 ec, .string (B [37, 97, 109])] 26) = z := ⟨_, rfl⟩
 have b12 : Below w1.heap.size w1 w2 := by rw [<- hw2]; exact (Below.refl _ _).alloc (Nat.le_refl _) _
 have B2 := Lib.hid (b1.trans (b12.mono b1.size))
 have BR2 := BR1.below b12
 have SZ := Lib.hid (fun W (hW : Below w2.heap.size w2 W) => size_any (BR2.below hW) (by decide) (TB.out W (B2.out.trans (hW.mono B2.out.size))))
 have WH := Lib.hid (fun W (hW : Below w2.heap.size w2 W) => whole_any (BR2.below hW) (by decide) (TB.out W (B2.out.trans (hW.mono B2.out.size))))
 have C2 : Cells w2 w1.heap.size 26 #[.int .i64 0, .string (B [65, 58, 32, 49, 10]), .slice ba 0 bc, .slice ea 0 ec, .string (B [37, 97, 109])] := by rw [<- hw2]; exact Cells.new _ _ _
 have HC2 := Lib.hid C2
 have HW2 := Lib.hid hw2
 have s1 : ((B [65, 58, 32, 49, 10]).toList == [65, 58, 32, 49, 10]) = true := by kernel_rfl
 have s2 : ((B [37, 97, 109]).toList == [37, 97, 109]) = true := by kernel_rfl
 have e8 : ((wholeN 0 [65, 58, 32, 49, 10] [] + ([37, 97, 109] : List UInt8).length : Nat) : Int) = 8 := rfl
 have e5 : ((wholeN 0 [65, 58, 32, 49, 10] [] : Nat) : Int) = 5 := rfl
 clear hr b1 BR1 hBR hBt hEv b12 BR2 C2 hw2 RD
 go_wp2_with fail
 rw [HW2.out]
 refine (SZ.out w2 (Below.refl _ _)).mono ?_
 rintro e w3 ⟨rfl, b3⟩
 rw [e8]
 have HB3 := Lib.hid b3
 have k := cells_kept HC2.out b3 HC2.out.lt
 have k0 := k.cell 0
 have k1 := k.cell 1
 have k2 := k.cell 2
 have k3 := k.cell 3
 have k4 := k.cell 4
 simp only [List.getElem?_toArray, List.getElem?_cons_zero, List.getElem?_cons_succ] at k0 k1 k2 k3 k4
 clear b3 k
 go_wp2_with fail
 refine (WH.out w3 HB3.out).mono ?_
 rintro e w4 ⟨rfl, b4⟩
 rw [e5]
 have HB4 := Lib.hid (B2.out.trans ((HB3.out.trans (b4.mono HB3.out.size)).mono B2.out.size))
 clear b4
 go_wp2_with fail
 go_ret
 exact ⟨rfl, HB4.out⟩
end Go.Proofs.YtbkeoiefolkjfaaGreatDoor.Bk
namespace Go.Proofs.YtbkeoiefolkjfaaGreatDoor.Bk
open Go.RowKit Go.Shelf
attribute [local go_sem] Oper.semAt_some
theorem bcells {w w2 : World} {n : Nat} {base tail : List UInt8} {ba ea : Option Addr} {bn bc en ec : Nat} (h : w.alloc (.cells #[.int .i64 (n : Int), .string (B base), .slice ba bn bc, .slice ea en ec, .string (B tail)] 26) = w2) :
  Below w.heap.size w w2 /\ Cells w2 w.heap.size 26 #[.int .i64 (n : Int), .string (B base), .slice ba bn bc, .slice ea en ec, .string (B tail)] := by
 rw [<- h]; exact ⟨(Below.refl _ _).alloc (Nat.le_refl _) _, Cells.new _ _ _⟩
end Go.Proofs.YtbkeoiefolkjfaaGreatDoor.Bk
namespace Go.Proofs.YtbkeoiefolkjfaaGreatDoor
open Go.RowKit Go.Shelf Go.Maps Go.ChangeShapes Go.Joins Go.WideShapes
theorem wf_I64 {n : Int} (h : (Lit.int IntKind.i64 n).wf = true) : I64 n := by
 unfold Lit.wf at h
 rw [Bool.and_eq_true] at h
 exact ⟨by have := of_decide_eq_true h.1; exact this, by have := of_decide_eq_true h.2; exact this⟩
theorem edit_inB {H : Type} {enc : TypeId × Value -> H} {W : World} {base : Nat} {sp : Nat -> Bool} {held : Bool} {fuel : Nat} {cs : List Value} {x : DataW H × List MemPlace} (h : DataW.trod enc Tryz.prog W base sp held fuel 40 cs = some x) :
  ∃ k i fv, cs = [.int .i64 k, .int .i64 i, fv] /\ I64 i := by
 obtain ⟨xs, m, _, _, hl, hxl, hf⟩ := DataW.trod_struct Tryz.underlying40 h
 have hl2 : cs.length = 3 := hl.trans (by kernel_rfl)
 obtain ⟨c0, c1, c2, rfl⟩ := cells3 hl2
 have k3 : Tryz.prog.cellsOf 3 = 1 := by kernel_rfl
 have hx : ∀ i, i < 3 -> ∃ y, xs[i]? = some y := fun i hi => ⟨_, List.getElem?_eq_getElem (by rw [hxl]; exact hi)⟩
 obtain ⟨y0, e0⟩ := hx 0 (by decide)
 obtain ⟨y1, e1⟩ := hx 1 (by decide)
 have q0 : DataW.trod enc Tryz.prog W base sp held m 3 (List.take (Tryz.prog.cellsOf 3) [c0, c1, c2]) = _ := hf 0 _ rfl
 have q1 : DataW.trod enc Tryz.prog W base sp held m 3 (List.take (Tryz.prog.cellsOf 3) [c1, c2]) = _ := hf 1 _ rfl
 rw [k3, e0] at q0
 rw [k3, e1] at q1
 obtain ⟨kind, f0, _, _⟩ := DataW.trod_int Tryz.underlying3 q0
 obtain ⟨id, f1, _, hw⟩ := DataW.trod_int Tryz.underlying3 q1
 simp at f0 f1
 subst f0 f1
 exact ⟨kind, id, c2, rfl, wf_I64 hw⟩
theorem edits_inB {H : Type} {enc : TypeId × Value -> H} {W : World} {base : Nat} {sp : Nat -> Bool} {held : Bool} {fuel : Nat} {v : Value} {x : DataW H × List MemPlace} (h : DataW.trod enc Tryz.prog W base sp held fuel 37 [v] = some x) :
  ∃ eds, EdsIn W v eds /\ ∀ ed ∈ eds, I64 ed.id := by
 obtain ⟨eds, hE⟩ := edits_in h
 refine ⟨eds, hE, fun ed hm => ?_⟩
 obtain ⟨i, hi, e⟩ := List.mem_iff_getElem.1 hm
 have he : eds[i]? = some ed := by rw [List.getElem?_eq_getElem hi, e]
 obtain ⟨_, A, cap, rfl, hle, hc⟩ := hE
 obtain ⟨b, off, fv, rfl, hb, c0, c1, c2, _⟩ := hc i ed he
 rcases DataW.trod_slice Tryz.underlying37 h with ⟨q, _⟩ | ⟨a, len, cap', elems, rest, n, _, q, _, _, hl, hm', hlen, hel, _, _⟩
 ·simp at q
 obtain ⟨rfl, rfl, rfl⟩ : a = ⟨b, off, none⟩ /\ len = eds.length /\ cap' = cap := by
  simp at q
  obtain ⟨q1, q2, q3⟩ := q
  exact ⟨q1.symm, q2.symm, q3.symm⟩
 have k3 : Tryz.prog.cellsOf 40 = 3 := by kernel_rfl
 have h1 := hel i hi
 rw [k3, List.getElem?_eq_getElem (by omega)] at h1
 obtain ⟨cs, hcs, ht⟩ := Option.bind_eq_some_iff.1 h1
 obtain ⟨k, z, fv', rfl, hz⟩ := edit_inB ht
 obtain ⟨_, _, hat⟩ := World.cells?_some hcs
 have d1 := hat 1 (by decide)
 rw [WideShapes.add_plain] at d1
 have e2 : some (Value.int .i64 ed.id) = some (.int .i64 z) := by rw [<- c1]; simpa [WideShapes.add_plain] using d1
 have : ed.id = z := by injection e2 with e2; injection e2
 rw [this]; exact hz
end Go.Proofs.YtbkeoiefolkjfaaGreatDoor
namespace Go.Proofs.YtbkeoiefolkjfaaGreatDoor
theorem batchLs_sp {eds : List Ed} (h : ∀ ed ∈ eds, goodE ed = 0) : ∀ l ∈ batchLs eds, ∃ r, l = 32 :: r := by
 intro l hl
 obtain ⟨ed, h1, h2⟩ := List.mem_flatMap.1 hl
 rcases List.mem_cons.1 h2 with rfl | h2
 ·unfold lineA
  rw [if_pos (goodE_kind (h ed h1))]; exact ⟨_, rfl⟩
 obtain ⟨x, _, rfl⟩ := List.mem_map.1 h2
 exact ⟨_, rfl⟩
theorem textL_cons (l : List UInt8) (r : List (List UInt8)) : textL (l :: r) = l ++ 10 :: textL r := by unfold textL; simp
theorem text_last (ls : List (List UInt8)) (h0 : ls ≠ []) : (textL ls)[(textL ls).length - 1]? = some 10 := by
 rw [<- List.getLast?_eq_getElem?]
 rw [<- List.dropLast_concat_getLast h0]
 unfold textL; simp
end Go.Proofs.YtbkeoiefolkjfaaGreatDoor
namespace Go.Proofs.YtbkeoiefolkjfaaGreatDoor.Fr
theorem sp_text : ∀ ls : List (List UInt8), (∀ l ∈ ls, (10 : UInt8) ∉ l) -> (∀ l ∈ ls, ∃ r, l = 32 :: r) -> sp true (textL ls) = true
 | [], _, _ => rfl
 | l :: ls, hc, hs => by
  obtain ⟨r, hr⟩ := hs l List.mem_cons_self
  have e : textL (l :: ls) = (l ++ [10]) ++ textL ls := by rw [textL_cons]; simp
  rw [e, sp_append, sp_line l (hc l List.mem_cons_self), fresh_append l [10] true (by simp)]
  have e2 : fresh true ([10] : List UInt8) = true := rfl
  rw [e2, sp_text ls (fun x h => hc x (List.mem_cons_of_mem _ h)) (fun x h => hs x (List.mem_cons_of_mem _ h)), hr]
  rfl
theorem batch_body {eds : List Ed} (h0 : (chkB eds).2 = 0) (hl : (batchT eds).length <= 50000) : goodR (batchT eds) = true := by
 obtain ⟨⟨n1, _⟩, g1⟩ := chkB_good h0
 have hne : batchLs eds ≠ [] := by
  cases eds with
  | nil => simp at n1
  | cons x r => unfold batchLs edLs; simp
 have hs := batchLs_sp g1
 have hc := batchLs_clean g1
 rw [good_iff]
 unfold batchT at *
 have hlast : lastNl (textL (batchLs eds)) = true := by
  unfold lastNl
  rw [List.getLast?_eq_getElem?, text_last _ hne]; rfl
 refine ⟨?_, hl, hlast, sp_text _ hc hs⟩
 cases hL : batchLs eds with
 | nil => exact absurd hL hne
 | cons l ls =>
 obtain ⟨r, hr⟩ := hs l (by rw [hL]; exact List.mem_cons_self)
 rw [textL_cons, hr]
 simp
 omega
open Go.RowKit Go.Shelf
attribute [local go_sem] Oper.semAt_some
end Go.Proofs.YtbkeoiefolkjfaaGreatDoor.Fr
