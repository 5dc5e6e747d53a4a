/- Texts put together: AJ, EN, EH, EI, N0, EK, EV. -/
import Derived.ArgAppend
import Derived.OwnWalk
import Derived.Test.YtbkeoiefolkjfaaGreatDoorBbk14
import Derived.Test.YtbkeoiefolkjfaaGreatDoorBbk15
import Derived.Test.YtbkeoiefolkjfaaGreatDoorBbk16
import Derived.Test.YtbkeoiefolkjfaaGreatDoorBbk17
import Derived.Test.YtbkeoiefolkjfaaGreatDoorBbk18
set_option linter.unusedVariables false
set_option maxRecDepth 100000
set_option maxHeartbeats 16000000
namespace Go.Proofs.YtbkeoiefolkjfaaGreatDoor
open Go.RowKit Go.Shelf
attribute [local go_sem] Oper.semAt_some
theorem freeze_below {N : Nat} {w w' : World} (h : Below N w w') {p : Addr} (hp : N <= p.block) (k : Nat) : Below N w (w'.freeze p k) := by
  unfold World.freeze
  by_cases hk : k = 0
  . rw [if_pos hk]; exact h
  rw [if_neg hk]
  refine ⟨h.os, h.tape, h.output, ?_, fun j hj => ?_⟩
  . simp; exact h.size
  simp only [Array.getElem?_modify]
  rw [if_neg (by omega)]
  exact h.block j hj
theorem bytes_below (w : World) (e : TypeId) (s : ByteArray) : Below w.heap.size w (Lib.bytesWorld w e s) := by
  unfold Lib.bytesWorld
  exact freeze_below ((Below.refl _ w).drew.alloc (Nat.le_refl _) _) (Nat.le_refl _) _
theorem atoi_any (l : List UInt8) (hl : l.length <= 1000000) (w : World) (ht : Tabs w) :
    Calls Tryz.prog 97 #[.string (B l)] w fun e w' => (∃ T q, e = .returned (.tuple #[.int .i64 (atoiV l), .nilIface]) \/ e = .returned (.tuple #[.int .i64 (atoiV l), .iface T q])) /\ Below w.heap.size w w' := by
  cases h : Lib.atoiAll l with
  | ok v =>
    refine (Tryz.strconv_Atoi_ok (B l) (by rw [B_size]; omega) v (by rw [B_data]; exact h) w).mono ?_
    rintro e w' ⟨rfl, hw⟩
    refine ⟨⟨0, undef, .inl (by unfold atoiV; rw [h])⟩, ?_⟩
    rcases hw with rfl | ⟨t, rfl⟩
    . exact Below.refl _ _
    exact bytes_below _ _ _
  | range =>
    obtain ⟨tp, p, hv⟩ := ht.ran
    refine (Tryz.strconv_Atoi_range_var (B l) (by rw [B_size]; omega) (by rw [B_data]; exact h) tp p w hv).mono ?_
    rintro e w' ⟨N, rfl, _, _, hb⟩
    exact ⟨⟨_, _, .inr (by unfold atoiV; rw [h, B_data])⟩, hb⟩
  | _ =>
  obtain ⟨tp, p, hv⟩ := ht.syn
  refine (Tryz.strconv_Atoi_syntax_var (B l) (by rw [B_size]; omega) (by rw [B_data]; exact h) tp p w hv).mono ?_
  rintro e w' ⟨N, rfl, _, _, hb⟩
  exact ⟨⟨_, _, .inr (by unfold atoiV; rw [h])⟩, hb⟩
theorem results_cellE {fn : Func} {p : Tmp} {ty : TypeId} (h : fn.results = #[.cell p ty]) (tmps : Array Value) (P : Program) (w : World) :
    (results fn tmps).run P w = ((asAddr (tmps.getD p undef)).run P w).andThen fun a w₁ => (loadVar ty a).run P w₁ := by
  simp only [results, h]
  simp [Sem.run_bind, Result.andThen]
theorem ret_edit {fn : Func} {p : Tmp} (h : fn.results = #[.cell p 40]) (tmps : Array Value) (w : World) (b : Nat) (cur : Array Value) (hp : tmps.getD p undef = .pointer (some ⟨b, 0, none⟩))
    (hc : Cells w b 40 cur) (hz : cur.size = 3) : (results fn tmps).run Tryz.prog w = .ok (.agg cur) w := by
  have L := run_loadVar_row (P := Tryz.prog) w b 40 40 cur (0, 0) _ hc Tryz.underlying40 rfl (by rw [hz]; kernel_rfl)
  rw [results_cellE h, hp]
  show (loadVar _ _).run _ _ = _
  exact L
theorem trim_le (l p : List UInt8) : (Lib.trimPrefix l p).length <= l.length := by
  unfold Lib.trimPrefix
  split
  . rw [List.length_drop]; omega
  exact Nat.le_refl _
theorem takeW_le (l : List UInt8) (p : UInt8 -> Bool) : (l.takeWhile p).length <= l.length := (List.takeWhile_sublist p).length_le
def SaidV (lo : Nat) (t : List UInt8) (v : Value) (w : World) : Prop := ∃ u, v = .agg #[.int .i64 (saidE t).kind, .int .i64 (saidE t).id, u] /\ w.ownsRow lo 83 2 u (saidE t).fields.length (cellsF (saidE t).fields)
theorem asaid_any (t : List UInt8) (ht : t.length <= 60000) (w : World) (hT : Tabs w) :
    Calls Tryz.prog 112 #[.string (B t)] w fun e w' => ∃ v, e = .returned v /\ SaidV w.heap.size t v w' /\ Below w.heap.size w w' := by
  obtain ⟨wa, hwa⟩ : ∃ wa, wa = w.alloc (.cells #[.int .i64 0, .int .i64 0, .slice none 0 0] 40) := ⟨_, rfl⟩
  have hba : Below w.heap.size w wa := by rw [hwa]; exact (Below.refl _ w).alloc (Nat.le_refl _) _
  have hza : wa.heap.size = w.heap.size + 1 := by rw [hwa]; simp
  have CX := Lib.hid (show Cells wa w.heap.size 40 #[.int .i64 0, .int .i64 0, .slice none 0 0] by rw [hwa]; exact Cells.new _ _ _)
  have HBA := Lib.hid hba
  have l1 : (lineS t).length <= 60000 := by have := takeW_le t (· != 10); unfold lineS; omega
  have l2 := trim_le (lineS t) [32]
  have l3 : (nameS t).length <= 60000 := by have := takeW_le (Lib.trimPrefix (lineS t) [32]) (· != 32); unfold nameS; omega
  have l4 : (figS t).length <= 60000 := by unfold figS; rw [List.length_drop]; omega
  have l5 : (restD t).length <= 60000 := by unfold restD; rw [List.length_drop]; omega
  have C1 := Lib.hid (cut_byte t 10 (by omega) wa)
  rw [show t.takeWhile (· != 10) = lineS t from rfl, show t.drop ((lineS t).length + 1) = restD t from rfl] at C1
  have TP := Lib.hid (fun W => Tryz.strings_TrimPrefix (B (lineS t)) ⟨#[32]⟩ W)
  rw [B_data, show (⟨#[32]⟩ : ByteArray).data.toList = [32] from rfl] at TP
  rw [show (⟨(Lib.trimPrefix (lineS t) [32]).toArray⟩ : ByteArray) = B (Lib.trimPrefix (lineS t) [32]) from rfl] at TP
  have C2 := Lib.hid (fun W => cut_byte (Lib.trimPrefix (lineS t) [32]) 32 (by omega) W)
  rw [show (Lib.trimPrefix (lineS t) [32]).takeWhile (· != 32) = nameS t from rfl, show (Lib.trimPrefix (lineS t) [32]).drop ((nameS t).length + 1) = figS t from rfl] at C2
  have AT := Lib.hid (fun W (hW : Below w.heap.size w W) => atoi_any (figS t) (by omega) W (hT.below hW (Nat.le_refl _)))
  have KN := Lib.hid (fun W => akind_any (nameS t) W)
  have UF := Lib.hid (fun W => aunfold_any (restD t) l5 W)
  have SD : Hid (saidE t = ⟨kindOf (nameS t), atoiV (figS t), unfoldF (restD t)⟩) := rfl
  generalize lineS t = la at *
  generalize B (Lib.trimPrefix la [32]) = tl at *
  generalize restD t = re at *
  generalize nameS t = na at *
  generalize figS t = fi at *
  clear hba hT l1 l2 l3 l4 l5
  subst hwa
  go_enter Tryz.func112, Tryz.ntmps112
  go_wp2_with fail
  refine C1.out.mono ?_
  rintro e w1 ⟨⟨b1, rfl⟩, h1⟩
  have HB1 := Lib.hid (HBA.out.trans (h1.mono HBA.out.size))
  have K1 := Lib.hid (cells_kept CX.out h1 (by rw [hza]; omega))
  have z1 := h1.size
  rw [hza] at z1
  have TP1 := Lib.hid (TP.out w1)
  clear C1 h1 TP CX
  go_wp2_with fail
  refine TP1.out.mono ?_
  rintro e w2 ⟨rfl, rfl⟩
  have C22 := Lib.hid (C2.out w2)
  clear TP1 C2
  go_wp2_with fail
  refine C22.out.mono ?_
  rintro e w3 ⟨⟨b3, rfl⟩, h3⟩
  have HB3 := Lib.hid (HB1.out.trans (h3.mono HB1.out.size))
  have K3 := Lib.hid (cells_kept K1.out h3 (by omega))
  have z3 := h3.size
  have AT3 := Lib.hid (AT.out w3 HB3.out)
  clear C22 h3 K1 AT
  go_wp2_with fail
  refine AT3.out.mono ?_
  rintro e w4 ⟨⟨T, q, hq⟩, h4⟩
  have HB4 := Lib.hid (HB3.out.trans (h4.mono HB3.out.size))
  have K4 := Lib.hid (cells_kept K3.out h4 (by omega))
  have z4 := h4.size
  have KN4 := Lib.hid (KN.out w4)
  clear AT3 h4 K3 KN
  rcases hq with rfl | rfl
  all_goals
    go_wp2_with fail
    refine KN4.out.mono ?_
    rintro e w5 ⟨rfl, h5⟩
    have HB5 := Lib.hid (HB4.out.trans (h5.mono HB4.out.size))
    have K5 := Lib.hid (cells_kept K4.out h5 (by omega))
    have z5 := h5.size
    have UF5 := Lib.hid (UF.out w5)
    clear KN4 h5 K4 UF
    go_wp2_with fail
    refine UF5.out.mono ?_
    rintro e w6 ⟨u, rfl, hu, h6⟩
    have HB6 := Lib.hid (HB5.out.trans (h6.mono HB5.out.size))
    have K6 := cells_kept K5.out h6 (by omega)
    obtain ⟨ua, uc, rfl, _⟩ := own_slice hu
    have hlow : ∀ k, (Value.slice ua (unfoldF re).length uc).ownBlock = some k -> w.heap.size < k := fun k hk => by have := (hu.lt k hk).1; omega
    have k0 := K6.cell 0
    have k1 := K6.cell 1
    have k2 := K6.cell 2
    have f0 := K6.frozen 0
    have f1 := K6.frozen 1
    have f2 := K6.frozen 2
    have R7 := Lib.hid (((K6.set 0 (.int .i64 (kindOf na))).set 1 (.int .i64 (atoiV fi))).set 2 (.slice ua (unfoldF re).length uc))
    have HU := Lib.hid (rowBase (base' := w.heap.size) hu (by omega))
    have HL := Lib.hid hlow
    clear UF5 h6 K5 hu K6 hlow
    go_wp2_with fail
    refine bodyPost_ret (ret_edit rfl _ _ w.heap.size _ rfl R7.out rfl) rfl ?_
    refine ⟨_, rfl, ?_, ((HB6.out.setCell (p := ⟨w.heap.size, 0, none⟩) (Nat.le_refl _) _).setCell (p := ⟨w.heap.size, 1, none⟩) (Nat.le_refl _) _).setCell (p := ⟨w.heap.size, 2, none⟩) (Nat.le_refl _) _⟩
    rw [show SaidV w.heap.size t = fun v w' => ∃ u, v = .agg #[.int .i64 (saidE t).kind, .int .i64 (saidE t).id, u] /\ w'.ownsRow w.heap.size 83 2 u (saidE t).fields.length (cellsF (saidE t).fields) from rfl, SD.out]
    have hn : ∀ p : Addr, p.block = w.heap.size -> ∀ k, (Value.slice ua (unfoldF re).length uc).ownBlock = some k -> k ≠ p.block := fun p hp k hk => by have := HL.out k hk; omega
    exact ⟨_, rfl, row_cell (p := ⟨w.heap.size, 2, none⟩) (row_cell (p := ⟨w.heap.size, 1, none⟩) (row_cell (p := ⟨w.heap.size, 0, none⟩) HU.out (fun e => by have := HL.out _ e; simp at this) _) (fun e => by have := HL.out _ e; simp at this) _) (fun e => by have := HL.out _ e; simp at this) _⟩
end Go.Proofs.YtbkeoiefolkjfaaGreatDoor
namespace Go.Proofs.YtbkeoiefolkjfaaGreatDoor
open Go.RowKit Go.Shelf
def ops_ow5 : List Oper := [
  { dst := some 13, op := Op.move (Operand.tmp 3), type := 37, pos := "num.go:120", after := #[], guard := none },
  { dst := some 14, op := Op.fieldAddr 40 (Operand.tmp 5) 0, type := 0, pos := "num.go:120", after := #[], guard := none },
  { dst := some 15, op := Op.load 3 (Operand.tmp 14), type := 3, pos := "num.go:120", after := #[{ on := 1, ground := Ground.data }], guard := none },
  { dst := some 16, op := Op.fieldAddr 40 (Operand.tmp 5) 1, type := 0, pos := "num.go:120", after := #[], guard := none },
  { dst := some 17, op := Op.load 3 (Operand.tmp 16), type := 3, pos := "num.go:120", after := #[{ on := 3, ground := Ground.data }], guard := none },
  { dst := some 18, op := Op.fieldAddr 40 (Operand.tmp 5) 2, type := 0, pos := "num.go:120", after := #[], guard := none },
  { dst := some 19, op := Op.load 38 (Operand.tmp 18), type := 38, pos := "num.go:120", after := #[{ on := 5, ground := Ground.data }], guard := none },
  { dst := some 20, op := Op.call { callee := Callee.value (Operand.func 41), args := #[Operand.tmp 19], argTypes := #[38] }, type := 38, pos := "num.go:120", after := #[{ on := 6, ground := Ground.data }], guard := none },
  { dst := some 21, op := Op.build 40 #[(0, Operand.tmp 15), (1, Operand.tmp 17), (2, Operand.tmp 20)], type := 40, pos := "num.go:120", after := #[{ on := 2, ground := Ground.data }, { on := 4, ground := Ground.data }, { on := 7, ground := Ground.data }], guard := none },
  { dst := some 22, op := Op.buildSlice 37 1 #[(0, Operand.tmp 21)], type := 37, pos := "num.go:120", after := #[{ on := 8, ground := Ground.data }], guard := none },
  { dst := some 23, op := Op.call { callee := Callee.builtin Builtin.append, args := #[Operand.tmp 13, Operand.tmp 22], argTypes := #[37, 37] }, type := 37, pos := "num.go:120", after := #[{ on := 0, ground := Ground.data }, { on := 9, ground := Ground.data }, { on := 7, ground := Ground.chain }], guard := none },
  { dst := some 3, op := Op.assign (Operand.tmp 23), type := 37, pos := "num.go:120", after := #[{ on := 10, ground := Ground.data }, { on := 10, ground := Ground.chain }, { on := 0, ground := Ground.phase }, { on := 1, ground := Ground.phase }, { on := 2, ground := Ground.phase }, { on := 3, ground := Ground.phase }, { on := 4, ground := Ground.phase }, { on := 5, ground := Ground.phase }, { on := 6, ground := Ground.phase }, { on := 7, ground := Ground.phase }, { on := 8, ground := Ground.phase }, { on := 9, ground := Ground.phase }, { on := 10, ground := Ground.phase }], guard := none }]
def dst_ow5 (i : Nat) : Option Nat := (ops_ow5[i]?).bind (·.dst)
theorem inj_ow5 : ∀ i, i < 10 -> ∀ k, k < 10 -> dst_ow5 i ≠ none -> dst_ow5 i = dst_ow5 k -> i = k := by decide +kernel
theorem lt_ow5 : ∀ i, i < 10 -> (dst_ow5 i).getD 0 < 26 := by decide +kernel
theorem low_ow5 : ∀ i : Fin 12, ∀ e ∈ (ops_ow5[i.1]'(by exact i.2)).after, Region.binds .any e = true -> e.on < i.1 := by decide +kernel
def pv_ow5 (eb lo : Nat) (ov : Value) (k i : Int) (fa : Option Addr) (fn fc : Nat) (PL : Value -> World -> Prop) : List (Value -> World -> Prop) := [
  fun v w => v = ov,
  fun v w => v = .pointer (some ⟨eb, 0, none⟩),
  fun v w => v = .int .i64 k,
  fun v w => v = .pointer (some ⟨eb, 1, none⟩),
  fun v w => v = .int .i64 i,
  fun v w => v = .pointer (some ⟨eb, 2, none⟩),
  fun v w => v = .slice fa fn fc,
  fun v w => PL v w,
  fun v w => ∃ u, v = .agg #[.int .i64 k, .int .i64 i, u] /\ PL u w,
  fun v w => ∃ b u, v = .slice (some ⟨b, 0, none⟩) 1 1 /\ PL u w /\ lo <= b /\ Cells w b 40 #[.int .i64 k, .int .i64 i, u]]
theorem region_ow5 (a0 : Act) (w0 : World) (eb lo : Nat) (ov : Value) (k i : Int) (fa : Option Addr) (fn fc : Nat) (PL : Value -> World -> Prop) (Q : Exit -> Act -> World -> Prop)
    (hsz : a0.tmps.size = 26) (h3 : a0.tmps[3]? = some (ov)) (h5 : a0.tmps[5]? = some (.pointer (some ⟨eb, 0, none⟩)))
    (hE : ∀ W, Below w0.heap.size w0 W -> W.cell? ⟨eb, 0, none⟩ = some (.int .i64 k) /\ W.cell? ⟨eb, 1, none⟩ = some (.int .i64 i) /\ W.cell? ⟨eb, 2, none⟩ = some (.slice fa fn fc)) (hlo : lo <= w0.heap.size)
    (hPM : ∀ v x y, Below x.heap.size x y -> PL v x -> PL v y) (hPF : ∀ v w, PL v w -> ∃ fa fn fc, v = .slice fa fn fc)
    (hC7 : ∀ (W : World) (_ : Below w0.heap.size w0 W), Calls Tryz.prog 41 #[.slice fa fn fc] W fun e w => ∃ v, e = .returned v /\ (PL v w) /\ Below W.heap.size W w)
    (hQ : ∀ (y0 y1 y2 y3 y4 y5 y6 y7 y8 y9 : Value) (w : World), Below w0.heap.size w0 w -> ((fun (v : Value) (w : World) => v = ov) y0 w) -> ((fun (v : Value) (w : World) => ∃ b u, v = .slice (some ⟨b, 0, none⟩) 1 1 /\ PL u w /\ lo <= b /\ Cells w b 40 #[.int .i64 k, .int .i64 i, u]) y9 w) -> wpList Tryz.prog ops_ow5.toArray Q [{ dst := some 23, op := Op.call { callee := Callee.builtin Builtin.append, args := #[Operand.tmp 13, Operand.tmp 22], argTypes := #[37, 37] }, type := 37, pos := "num.go:120", after := #[{ on := 0, ground := Ground.data }, { on := 9, ground := Ground.data }, { on := 7, ground := Ground.chain }], guard := none }, { dst := some 3, op := Op.assign (Operand.tmp 23), type := 37, pos := "num.go:120", after := #[{ on := 10, ground := Ground.data }, { on := 10, ground := Ground.chain }, { on := 0, ground := Ground.phase }, { on := 1, ground := Ground.phase }, { on := 2, ground := Ground.phase }, { on := 3, ground := Ground.phase }, { on := 4, ground := Ground.phase }, { on := 5, ground := Ground.phase }, { on := 6, ground := Ground.phase }, { on := 7, ground := Ground.phase }, { on := 8, ground := Ground.phase }, { on := 9, ground := Ground.phase }, { on := 10, ground := Ground.phase }], guard := none }] { a0 with tmps := [(13, y0), (14, y1), (15, y2), (16, y3), (17, y4), (18, y5), (19, y6), (20, y7), (21, y8), (22, y9)].foldl (fun u p => u.setIfInBounds p.1 p.2) a0.tmps } w) :
    wpAny Tryz.prog .any ops_ow5.toArray Q ops_ow5.toArray.size (Array.replicate ops_ow5.toArray.size false) a0 w0 := by
  have M : AllM (pv_ow5 eb lo ov k i fa fn fc PL) := ⟨fun v x y hb h => h, fun v x y hb h => h, fun v x y hb h => h, fun v x y hb h => h, fun v x y hb h => h, fun v x y hb h => h, fun v x y hb h => h, fun v x y hb h => hPM v x y hb h, fun v x y hb h => by obtain ⟨u, e, h1⟩ := h; exact ⟨u, e, hPM u x y hb h1⟩, fun v x y hb h => by obtain ⟨b, u, e, h1, h2, h4⟩ := h; exact ⟨b, u, e, hPM u x y hb h1, h2, cells_kept h4 hb h4.lt⟩, trivial⟩
  refine wpAny_mono_tail 10 2 (by kernel_rfl) (by decide) a0 w0 dst_ow5 (pv_ow5 eb lo ov k i fa fn fc PL) M (by kernel_rfl) (by kernel_rfl) (by kernel_rfl)
    (fun i o _ ho => by unfold dst_ow5; rw [ho]; rfl)
    (fun i k d hi hk h1 h2 => inj_ow5 i hi k hk (by rw [h1]; intro q; cases q) (by rw [h1, h2]))
    (fun i d hi h => by have := lt_ow5 i hi; rw [h] at this; rw [hsz]; exact this)
    (fun i o e ho he hb => by
      obtain ⟨hi, rfl⟩ := List.getElem?_eq_some_iff.1 ho
      exact low_ow5 ⟨i, hi⟩ e he hb)
    ?step ?fin
  case fin =>
    intro a w hd hs hf hv hR
    obtain ⟨y0, hy0, pv0⟩ := hv 0 13 (by decide) rfl
    obtain ⟨y1, hy1, pv1⟩ := hv 1 14 (by decide) rfl
    obtain ⟨y2, hy2, pv2⟩ := hv 2 15 (by decide) rfl
    obtain ⟨y3, hy3, pv3⟩ := hv 3 16 (by decide) rfl
    obtain ⟨y4, hy4, pv4⟩ := hv 4 17 (by decide) rfl
    obtain ⟨y5, hy5, pv5⟩ := hv 5 18 (by decide) rfl
    obtain ⟨y6, hy6, pv6⟩ := hv 6 19 (by decide) rfl
    obtain ⟨y7, hy7, pv7⟩ := hv 7 20 (by decide) rfl
    obtain ⟨y8, hy8, pv8⟩ := hv 8 21 (by decide) rfl
    obtain ⟨y9, hy9, pv9⟩ := hv 9 22 (by decide) rfl
    rw [act_set' (a := a) (a0 := a0) [(13, y0), (14, y1), (15, y2), (16, y3), (17, y4), (18, y5), (19, y6), (20, y7), (21, y8), (22, y9)] hd hs (by
      intro p hp
      simp only [List.mem_cons, List.not_mem_nil, or_false] at hp
      rcases hp with rfl | rfl | rfl | rfl | rfl | rfl | rfl | rfl | rfl | rfl
      . exact hy0
      . exact hy1
      . exact hy2
      . exact hy3
      . exact hy4
      . exact hy5
      . exact hy6
      . exact hy7
      . exact hy8
      . exact hy9
      ) (fun j hj => hf j (fun k hk q => hj (by
        have : ∀ k, k < 10 -> (dst_ow5 k).all (fun d => [13, 14, 15, 16, 17, 18, 19, 20, 21, 22].contains d) = true := by decide +kernel
        have h1 := this k hk
        rw [q] at h1
        simpa using h1)))]
    exact hQ y0 y1 y2 y3 y4 y5 y6 y7 y8 y9 w hR pv0 pv9
  case step =>
  intro i o a w hi ho hs hf dep hR
  have e3 := evT ((hf 3 (by decide +kernel)).trans h3)
  have e5 := evT ((hf 5 (by decide +kernel)).trans h5)
  rcases (by omega : i = 0 \/ i = 1 \/ i = 2 \/ i = 3 \/ i = 4 \/ i = 5 \/ i = 6 \/ i = 7 \/ i = 8 \/ i = 9) with rfl | rfl | rfl | rfl | rfl | rfl | rfl | rfl | rfl | rfl
  . have ho2 : some _ = some o := ho
    obtain rfl := Option.some.inj ho2
    exact .inl ⟨wantN rfl, fun K hK => mo_move rfl e3 (hK _ _ (Below.refl _ _) rfl)⟩
  . have ho2 : some _ = some o := ho
    obtain rfl := Option.some.inj ho2
    exact .inl ⟨wantN rfl, fun K hK => mo_field (by simp [go_sem]) rfl e5 (hK _ _ (Below.refl _ _) rfl)⟩
  . have ho2 : some _ = some o := ho
    obtain rfl := Option.some.inj ho2
    obtain ⟨_, hv1, rfl⟩ : ∃ v, a.tmps[14]? = some v /\ (fun (v : Value) (w : World) => v = .pointer (some ⟨eb, 0, none⟩)) v w := dep ⟨1, Ground.data⟩ (by first | simp | simp [ops_ow5]) rfl 14 rfl
    exact .inl ⟨wantN rfl, fun K hK => mo_load (by simp [go_sem, (hE w hR).1]) rfl (evT hv1) (hK _ _ (Below.refl _ _) rfl)⟩
  . have ho2 : some _ = some o := ho
    obtain rfl := Option.some.inj ho2
    exact .inl ⟨wantN rfl, fun K hK => mo_field (by simp [go_sem]) rfl e5 (hK _ _ (Below.refl _ _) rfl)⟩
  . have ho2 : some _ = some o := ho
    obtain rfl := Option.some.inj ho2
    obtain ⟨_, hv3, rfl⟩ : ∃ v, a.tmps[16]? = some v /\ (fun (v : Value) (w : World) => v = .pointer (some ⟨eb, 1, none⟩)) v w := dep ⟨3, Ground.data⟩ (by first | simp | simp [ops_ow5]) rfl 16 rfl
    exact .inl ⟨wantN rfl, fun K hK => mo_load (by simp [go_sem, (hE w hR).2.1]) rfl (evT hv3) (hK _ _ (Below.refl _ _) rfl)⟩
  . have ho2 : some _ = some o := ho
    obtain rfl := Option.some.inj ho2
    exact .inl ⟨wantN rfl, fun K hK => mo_field (by simp [go_sem]) rfl e5 (hK _ _ (Below.refl _ _) rfl)⟩
  . have ho2 : some _ = some o := ho
    obtain rfl := Option.some.inj ho2
    obtain ⟨_, hv5, rfl⟩ : ∃ v, a.tmps[18]? = some v /\ (fun (v : Value) (w : World) => v = .pointer (some ⟨eb, 2, none⟩)) v w := dep ⟨5, Ground.data⟩ (by first | simp | simp [ops_ow5]) rfl 18 rfl
    exact .inl ⟨wantN rfl, fun K hK => mo_load (by simp [go_sem, (hE w hR).2.2]) rfl (evT hv5) (hK _ _ (Below.refl _ _) rfl)⟩
  . have ho2 : some _ = some o := ho
    obtain rfl := Option.some.inj ho2
    obtain ⟨_, hv6, rfl⟩ : ∃ v, a.tmps[19]? = some v /\ (fun (v : Value) (w : World) => v = .slice fa fn fc) v w := dep ⟨6, Ground.data⟩ (by first | simp | simp [ops_ow5]) rfl 19 rfl
    exact .inl ⟨wantN rfl, fun K hK => mo_call1 41 rfl (evT hv6) (enters_of (P := Tryz.prog) Tryz.func41 (by kernel_rfl) rfl) (hC7 w hR) (fun v w' h => hK v w' h.2 h.1)⟩
  . have ho2 : some _ = some o := ho
    obtain rfl := Option.some.inj ho2
    obtain ⟨_, hv2, rfl⟩ : ∃ v, a.tmps[15]? = some v /\ (fun (v : Value) (w : World) => v = .int .i64 k) v w := dep ⟨2, Ground.data⟩ (by first | simp | simp [ops_ow5]) rfl 15 rfl
    obtain ⟨_, hv4, rfl⟩ : ∃ v, a.tmps[17]? = some v /\ (fun (v : Value) (w : World) => v = .int .i64 i) v w := dep ⟨4, Ground.data⟩ (by first | simp | simp [ops_ow5]) rfl 17 rfl
    obtain ⟨z7, hv7, pv7⟩ : ∃ v, a.tmps[20]? = some v /\ (fun (v : Value) (w : World) => PL v w) v w := dep ⟨7, Ground.data⟩ (by first | simp | simp [ops_ow5]) rfl 20 rfl
    exact .inl ⟨wantN rfl, fun K hK => by obtain ⟨fa1, fn1, fc1, rfl⟩ := hPF _ _ pv7; exact mo_build3 rfl (evT hv2) (evT hv4) (evT hv7) (hK _ _ (Below.refl _ _) ⟨_, rfl, pv7⟩)⟩
  have ho2 : some _ = some o := ho
  obtain rfl := Option.some.inj ho2
  obtain ⟨z8, hv8, pv8⟩ : ∃ v, a.tmps[21]? = some v /\ (fun (v : Value) (w : World) => ∃ u, v = .agg #[.int .i64 k, .int .i64 i, u] /\ PL u w) v w := dep ⟨8, Ground.data⟩ (by first | simp | simp [ops_ow5]) rfl 21 rfl
  exact .inl ⟨wantN rfl, fun K hK => by obtain ⟨u1, rfl, h1⟩ := pv8; obtain ⟨fa1, fn1, fc1, rfl⟩ := hPF _ _ h1; exact mo_lit3 rfl (evT hv8) (hK _ _ ((Below.refl _ _).alloc (Nat.le_refl _) _) ⟨w.heap.size, _, rfl, hPM _ _ _ ((Below.refl _ _).alloc (Nat.le_refl _) _) h1, Nat.le_trans hlo hR.size, Cells.new _ _ _⟩)⟩
end Go.Proofs.YtbkeoiefolkjfaaGreatDoor
namespace Go.Proofs.YtbkeoiefolkjfaaGreatDoor
open Go.RowKit Go.Shelf
attribute [local go_sem] Oper.semAt_some
end Go.Proofs.YtbkeoiefolkjfaaGreatDoor
namespace Go.Proofs.YtbkeoiefolkjfaaGreatDoor
open Go.RowKit Go.Shelf
attribute [local go_sem] Oper.semAt_some
def encI (z : Int) : Value := .int .i64 z
theorem infoInt9 : (Tryz.prog.info? 3).map (fun i => (i.zero, i.size, i.bytes)) = some (some (.int .i64 0), 1, 8) := by kernel_rfl
end Go.Proofs.YtbkeoiefolkjfaaGreatDoor
namespace Go.Proofs.YtbkeoiefolkjfaaGreatDoor
open Go.RowKit Go.Shelf
attribute [local go_sem] Oper.semAt_some
end Go.Proofs.YtbkeoiefolkjfaaGreatDoor
namespace Go.Proofs.YtbkeoiefolkjfaaGreatDoor
open Go.RowKit Go.Shelf
attribute [local go_sem] Oper.semAt_some
end Go.Proofs.YtbkeoiefolkjfaaGreatDoor
namespace Go.Proofs.YtbkeoiefolkjfaaGreatDoor
open Go.RowKit Go.Shelf
attribute [local go_sem] Oper.semAt_some
def edRow : List Ed -> List Value -> List Value
  | ed :: r, fv :: q => .int .i64 ed.kind :: .int .i64 ed.id :: fv :: edRow r q
  | _, _ => []
theorem edRow_snoc : ∀ (l : List Ed) (vs : List Value) (ed : Ed) (v : Value), vs.length = l.length -> edRow (l ++ [ed]) (vs ++ [v]) = edRow l vs ++ [.int .i64 ed.kind, .int .i64 ed.id, v]
  | [], [], ed, v, _ => rfl
  | a :: l, b :: vs, ed, v, h => by
    show _ :: _ :: _ :: edRow (l ++ [ed]) (vs ++ [v]) = _
    rw [edRow_snoc l vs ed v (by simpa using h)]; rfl
  | [], _ :: _, _, _, h => by simp at h
  | _ :: _, [], _, _, h => by simp at h
theorem edRow_at : ∀ (l : List Ed) (vs : List Value) (i : Nat) (ed : Ed) (v : Value), l[i]? = some ed -> vs[i]? = some v -> (edRow l vs)[i * 3]? = some (.int .i64 ed.kind) /\ (edRow l vs)[i * 3 + 1]? = some (.int .i64 ed.id) /\ (edRow l vs)[i * 3 + 1 + 1]? = some v
  | [], _, i, _, _, h, _ => by simp at h
  | _ :: _, [], i, _, _, _, h => by simp at h
  | a :: l, b :: vs, 0, ed, v, h1, h2 => by simp at h1 h2; subst h1 h2; exact ⟨rfl, rfl, rfl⟩
  | a :: l, b :: vs, i + 1, ed, v, h1, h2 => by
    obtain ⟨x, y, z⟩ := edRow_at l vs i ed v (by simpa using h1) (by simpa using h2)
    rw [show (i + 1) * 3 = i * 3 + 3 by omega]
    exact ⟨x, y, z⟩
structure OwnE (lo : Nat) (w : World) (v : Value) (eds : List Ed) (fvs : List Value) : Prop where
  row : w.ownsRow lo 40 3 v eds.length (edRow eds fvs)
  len : fvs.length = eds.length
  each : ∀ (i : Nat) ed fv, eds[i]? = some ed -> fvs[i]? = some fv -> w.ownsRow lo 83 2 fv ed.fields.length (cellsF ed.fields)
theorem OwnE.below {lo : Nat} {w w' : World} {v : Value} {eds : List Ed} {fvs : List Value} {N : Nat} (h : OwnE lo w v eds fvs) (hb : Below N w w') (hN : w.heap.size <= N) : OwnE lo w' v eds fvs :=
  ⟨row_below h.row hb hN, h.len, fun i ed fv h1 h2 => row_below (h.each i ed fv h1 h2) hb hN⟩
theorem OwnE.edv {lo : Nat} {w : World} {v : Value} {eds : List Ed} {fvs : List Value} (h : OwnE lo w v eds fvs) : EdV w v eds := by
  by_cases h0 : eds = []
  . subst h0
    obtain ⟨A, c, rfl, hle⟩ := own_slice h.row
    exact ⟨A, c, rfl, hle, fun i ed hi => by simp at hi⟩
  have hn : eds.length ≠ 0 := fun e => h0 (List.length_eq_zero_iff.1 e)
  have hrow := h.row
  obtain ⟨g, cap, hug⟩ := Joins.ownsRow_form hrow (by omega)
  have hle : eds.length <= cap := by
    obtain ⟨A, c, e, hle⟩ := own_slice h.row
    rw [hug] at e; cases e; exact hle
  rw [hug] at hrow
  refine ⟨_, cap, hug, hle, fun i ed hi => ?_⟩
  have hil := (List.getElem?_eq_some_iff.1 hi).1
  obtain ⟨fv, hfv⟩ : ∃ fv, fvs[i]? = some fv := ⟨_, List.getElem?_eq_getElem (by rw [h.len]; exact hil)⟩
  obtain ⟨a0, a1, a2⟩ := edRow_at eds fvs i ed fv hi hfv
  refine ⟨g, 0, fv, rfl, (hrow.lt g rfl).2, ?_, ?_, ?_, FldR.own (h.each i ed fv hi hfv)⟩
  . rw [Nat.zero_add, World.ownsRow.cellAt hrow (i * 3) (by omega), a0]
  . rw [Nat.zero_add, World.ownsRow.cellAt hrow (i * 3 + 1) (by omega), a1]
  rw [Nat.zero_add, World.ownsRow.cellAt hrow (i * 3 + 1 + 1) (by omega), a2]
theorem infoEd9 : (Tryz.prog.info? 40).map (fun i => (i.zero, i.size, i.bytes)) = some (some (.agg #[.int .i64 0, .int .i64 0, .slice none 0 0]), 3, 40) := by kernel_rfl
theorem own_any (eds : List Ed) (v : Value) (w : World) (h : EdV w v eds) (hl : eds.length <= 51) (hf : Fines eds) :
    Calls Tryz.prog 20 #[v] w fun e w' => ∃ v' fvs, e = .returned v' /\ OwnE w.heap.size w' v' eds fvs /\ Below w.heap.size w w' := by
  obtain ⟨i0, hi, hz0, hz1, hz2⟩ := info_parts infoEd9
  obtain ⟨A, cap, rfl, hle, hc⟩ := h
  have PC := Lib.hid hc
  have HF := Lib.hid hf
  clear hc hf
  have hoN : Hid ((w.alloc (.cells #[] 40)).ownsRow w.heap.size 40 3 (.slice (some ⟨w.heap.size, 0, none⟩) 0 0) 0 []) := World.ownsRow_lit w #[] 0 (Nat.le_refl _) (by decide) rfl
  have hba := Lib.hid ((Below.refl w.heap.size w).alloc (Nat.le_refl _) (.cells #[] 40))
  go_enter Tryz.func20, Tryz.ntmps20
  go_wp2_with fail
  go_loopw [3, 9] (fun ox i wr => ∃ (k : Nat) (ov : Value) (fvs : List Value), ov = ox /\ k <= eds.length /\ i = .int .i64 k /\ OwnE w.heap.size wr ov (eds.take k) fvs /\ Below w.heap.size w wr) (fun _ i _ => eds.length - (intOf i).toNat)
  case atStart => exact ⟨0, _, [], rfl, Nat.zero_le _, rfl, ⟨hoN.out, rfl, fun i ed fv h1 _ => by simp at h1⟩, hba.out⟩
  case round =>
  obtain ⟨k, ov, fvs, rfl, hk, rfl, hO, hB⟩ := hrel
  by_cases hlt : k < eds.length
  . obtain ⟨ed, hed⟩ : ∃ ed, eds[k]? = some ed := ⟨_, List.getElem?_eq_getElem hlt⟩
    obtain ⟨b, off, fv, rfl, hbb, c0, c1, c2, hfl⟩ := PC.out k ed hed
    obtain ⟨fa, fc, rfl⟩ := hfl.form
    replace c0 := (hB.cell (p := ⟨b, off + k * 3, none⟩) hbb).trans c0
    replace c1 := (hB.cell (p := ⟨b, off + k * 3 + 1, none⟩) hbb).trans c1
    replace c2 := (hB.cell (p := ⟨b, off + k * 3 + 1 + 1, none⟩) hbb).trans c2
    obtain ⟨wa, hwa⟩ : ∃ wa, wa = wr.alloc (.cells #[.int .i64 ed.kind, .int .i64 ed.id, .slice fa ed.fields.length fc] 40) := ⟨_, rfl⟩
    have hb9 : Below wr.heap.size wr wa := by rw [hwa]; exact (Below.refl _ wr).alloc (Nat.le_refl _) _
    have hza : wa.heap.size = wr.heap.size + 1 := by rw [hwa]; simp
    have cE : Cells wa wr.heap.size 40 #[.int .i64 ed.kind, .int .i64 ed.id, .slice fa ed.fields.length fc] := by rw [hwa]; exact Cells.new _ _ _
    have hBa : Below w.heap.size w wa := hB.trans (hb9.mono hB.size)
    have hlen : (eds.take k).length = k := take_len hed
    obtain ⟨oa, oc, rfl⟩ : ∃ A c, ov = .slice A k c := by
      obtain ⟨A, c, e, _⟩ := own_slice hO.row
      rw [hlen] at e
      exact ⟨A, c, e⟩
    have HE9 : Hid (∀ W', Below wa.drew.heap.size wa.drew W' -> W'.cell? ⟨wr.heap.size, 0, none⟩ = some (.int .i64 ed.kind) /\ W'.cell? ⟨wr.heap.size, 1, none⟩ = some (.int .i64 ed.id) /\ W'.cell? ⟨wr.heap.size, 2, none⟩ = some (.slice fa ed.fields.length fc)) := fun W' hW' => by
      have := cells_kept cE.drew hW' (by show wr.heap.size < wa.heap.size; omega)
      exact ⟨by rw [this.cell]; rfl, by rw [this.cell]; rfl, by rw [this.cell]; rfl⟩
    have HL9 : Hid (w.heap.size <= wa.drew.heap.size) := show w.heap.size <= wa.heap.size from hBa.size
    have CP : Hid (∀ W', Below wa.drew.heap.size wa.drew W' -> Calls Tryz.prog 41 #[.slice fa ed.fields.length fc] W' fun e w' => ∃ v', e = .returned v' /\ (∃ A c, v' = .slice A ed.fields.length c /\ w'.ownsRow w.heap.size 83 2 v' ed.fields.length (cellsF ed.fields)) /\ Below W'.heap.size W' w') := fun W' hW' => by
      have hB' : Below w.heap.size w W' := hBa.drew.trans (hW'.mono hBa.size)
      have hfl' := hfl.below hB' (Nat.le_refl _)
      refine (copies_own ed.fields _ W' hfl'.1 hfl'.2 (by have := (HF.out ed (List.mem_of_getElem? hed)).len; omega)).mono ?_
      rintro e w' ⟨v', rfl, ho, hb⟩
      obtain ⟨A, c, e, _⟩ := own_slice ho
      exact ⟨v', rfl, ⟨A, c, e, rowBase ho hB'.size⟩, hb⟩
    have SN : Hid (eds.take (k + 1) = eds.take k ++ [ed]) := take_snoc hed
    have HO := Lib.hid hO
    have HBA := Lib.hid hBa
    have HB9 := Lib.hid hb9
    have HLEN := Lib.hid hlen
    clear hed hO hB hb9 cE hBa hfl
    subst hwa
    go_upto_region 5 with fail
    refine wp_region_any (by kernel_rfl) ?_
    refine region_ow5 _ (wr.alloc (.cells #[.int .i64 ed.kind, .int .i64 ed.id, .slice fa ed.fields.length fc] 40)).drew wr.heap.size w.heap.size (.slice oa k oc) ed.kind ed.id fa ed.fields.length fc
      (fun v w2 => ∃ A c, v = .slice A ed.fields.length c /\ w2.ownsRow w.heap.size 83 2 v ed.fields.length (cellsF ed.fields)) _ rfl rfl rfl HE9.out HL9.out ?hPM ?hPF CP.out ?hQ
    case hPM =>
      rintro v x y hb ⟨A, c, e, h1⟩
      exact ⟨A, c, e, row_below h1 hb (Nat.le_refl _)⟩
    case hPF =>
      rintro v w ⟨A, c, e, _⟩
      exact ⟨_, _, _, e⟩
    case hQ =>
    intro y0 y1 y2 y3 y4 y5 y6 y7 y8 y9 w2 hb2 hy0 hy9
    subst hy0
    obtain ⟨b9, u, rfl, ⟨A9, c9, rfl, hown9⟩, hlo9, hcb⟩ := hy9
    have hB2r : Below wr.heap.size wr w2 := HB9.out.drew.trans (hb2.mono HB9.out.size)
    have hB2 : Below w.heap.size w w2 := HBA.out.drew.trans (hb2.mono HBA.out.size)
    have HV : Hid (∀ (i : Nat) (u : Value), [Value.int .i64 ed.kind, .int .i64 ed.id, .slice A9 ed.fields.length c9][i]? = some u -> w2.cell? ((⟨b9, 0, none⟩ : Addr).add i) = some u) := fun i u h => by
      have ea : (⟨b9, 0, none⟩ : Addr).add i = ⟨b9, i, none⟩ := by unfold Addr.add; split <;> simp_all
      rw [ea, hcb.cell i]; simpa using h
    have hO2 := HO.out.below hB2r (Nat.le_refl _)
    have hrow2 := hO2.row
    rw [HLEN.out] at hrow2
    have HR := Lib.hid hrow2
    have HB2 := Lib.hid hB2
    have HO2 := Lib.hid hO2
    have HOWN := Lib.hid hown9
    have hlo2 := hB2.size
    clear hcb hb2 hB2r hB2 hO2 hrow2 hown9 HE9 HL9 CP HO HBA HB9
    simp only [List.foldl, List.setIfInBounds_toArray, List.set_cons_zero, List.set_cons_succ]
    go_wp2_with (at_builtin; refine wpList_append_at rfl _ _ 37 rfl w.heap.size 40 i0 _ 3 40 Tryz.underlying37 hi hz0 hz1 hz2 rfl (by decide) _ _ _ rfl HR.out ⟨b9, 0, none⟩ 1 1 _ rfl rfl HV.out (by intro u hu; simp at hu; rcases hu with rfl | rfl | rfl <;> rfl) (by unfold maxLen; omega) (by omega) hlo2 ?_)
    intro ov' w3 own3 grow3 at3
    have hge : ∀ r, (Value.slice oa k oc).ownBlock = some r -> w.heap.size <= r := fun r e => (HR.out.lt r e).1
    have B3 : Below w.heap.size w w3 := HB2.out.grown grow3 HB2.out.size hge
    have hty : ∀ (fx : Value) (n : Nat) (xs : List Value), w2.ownsRow w.heap.size 83 2 fx n xs -> w3.ownsRow w.heap.size 83 2 fx n xs := fun fx n xs hx =>
      row_same hx (fun r e => grow3.block r (hx.lt r e).2 (fun q => own_own_ne HR.out hx (by decide) r q.symm e))
    have OE : OwnE w.heap.size w3 ov' (eds.take (k + 1)) (fvs ++ [.slice A9 ed.fields.length c9]) := by
      have hl0 := HO2.out.len
      refine ⟨?_, by rw [SN.out, List.length_append, List.length_append, hl0]; rfl, fun i x fx h1 h2 => ?_⟩
      . rw [SN.out, edRow_snoc _ _ _ _ hl0, List.length_append, HLEN.out]; exact own3
      rw [SN.out] at h1
      rcases Nat.lt_or_ge i (eds.take k).length with q | q
      . rw [List.getElem?_append_left q] at h1
        rw [List.getElem?_append_left (by omega)] at h2
        exact hty _ _ _ (HO2.out.each i x fx h1 h2)
      rw [List.getElem?_append_right q] at h1
      rw [List.getElem?_append_right (by omega), hl0] at h2
      rcases hq : i - (eds.take k).length with _ | j
      . rw [hq] at h1 h2
        simp at h1 h2
        subst h1 h2
        exact hty _ _ _ HOWN.out
      rw [hq] at h1; simp at h1
    have HOE := Lib.hid OE
    have HB3 := Lib.hid B3
    obtain ⟨oa', on', oc', rfl⟩ : ∃ A n c, ov' = .slice A n c := by
      obtain ⟨A, c, e, _⟩ := own_slice own3
      exact ⟨A, _, c, e⟩
    clear own3 grow3 at3 OE B3 hty hge HR HV HO2 HOWN HB2
    go_wp2_with fail
    go_roundw
    case rel => exact ⟨k + 1, _, _, rfl, hlt, by go_num, HOE.out, HB3.out⟩
    case measure => simp [intOf]; omega
  obtain rfl : k = eds.length := by omega
  rw [List.take_length] at hO
  obtain ⟨oa, oc, rfl⟩ : ∃ A c, ov = .slice A eds.length c := by
    obtain ⟨A, c, e, _⟩ := own_slice hO.row
    exact ⟨A, c, e⟩
  have HO := Lib.hid hO
  clear PC hO
  go_wp2_with fail
  go_ret
  exact ⟨_, fvs, rfl, HO.out, hB⟩
end Go.Proofs.YtbkeoiefolkjfaaGreatDoor
