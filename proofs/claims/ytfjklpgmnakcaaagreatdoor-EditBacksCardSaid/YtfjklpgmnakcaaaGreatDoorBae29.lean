/- Texts put together: EU, ET, EL, EX, KQ, AB. -/
import Derived.Deep.RegionLaw
import Derived.Lib.AtoiAll
import Derived.Lib.ItoaLen
import Derived.Test.YtfjklpgmnakcaaaGreatDoorBae2
import Derived.Test.YtfjklpgmnakcaaaGreatDoorBae17
import Derived.Test.YtfjklpgmnakcaaaGreatDoorBae21
import Derived.Test.YtfjklpgmnakcaaaGreatDoorBae22
import Derived.Test.YtfjklpgmnakcaaaGreatDoorBae26
import Derived.Test.YtfjklpgmnakcaaaGreatDoorBae28
set_option linter.unusedVariables false
set_option maxRecDepth 100000
set_option maxHeartbeats 16000000
namespace Go.Proofs.YtfjklpgmnakcaaaGreatDoor
open Go.RowKit Go.Shelf
attribute [local go_sem] Oper.semAt_some
theorem wantU {ops : Array Oper} {o : Oper} {a : Act} {i d : Nat} {b : Bool} (hg : o.guard = some (i, b)) (hd : ((ops[i]?).bind (·.dst)) = some d) (h : a.tmps[d]? = some (.bool (!b))) : Region.wanted o (yielded ops a.tmps) = false := by
  have hy : yielded ops a.tmps i = some (!b) := by
    unfold yielded
    rw [hd]
    simp [h]
  unfold Region.wanted
  rw [hg]
  simp [hy]
section
variable {o : Oper} {a : Act} {w : World} {K : Act -> World -> Prop} {Q : Exit -> Act -> World -> Prop}
theorem op_nilE {x : Operand} (ho : o.op = Op.binOp BinOp.eql 32 x (Operand.const Value.nilIface) 32) (hx : a.eval x = .nilIface) (hK : K (a.put o.dst (.bool true)) w) : Oper.wp Tryz.prog o a w K Q := by
  refine mo_run ?_ hK
  have hc : a.eval (Operand.const Value.nilIface) = Value.nilIface := rfl
  generalize a.eval = ρ at hx hc ⊢
  simp only [execOp, ho, hx]
  simp [go_sem, Result.andThen, hc, eqGuard]
theorem op_notnilE {x : Operand} {T : TypeId} {p : Option Addr} (ho : o.op = Op.binOp BinOp.eql 32 x (Operand.const Value.nilIface) 32) (hx : a.eval x = .iface T (.pointer p)) (hK : K (a.put o.dst (.bool false)) w) : Oper.wp Tryz.prog o a w K Q := by
  refine mo_run ?_ hK
  have hc : a.eval (Operand.const Value.nilIface) = Value.nilIface := rfl
  generalize a.eval = ρ at hx hc ⊢
  simp only [execOp, ho, hx]
  simp [go_sem, Result.andThen, hc, eqGuard]
theorem op_ptrL {x : Operand} {p : Addr} (ho : o.op = Op.binOp BinOp.neq 25 x (Operand.const (Value.pointer none)) 25) (hx : a.eval x = .pointer (some p)) (hK : K (a.put o.dst (.bool true)) w) : Oper.wp Tryz.prog o a w K Q := by
  refine mo_run ?_ hK
  have hc : a.eval (Operand.const (Value.pointer none)) = Value.pointer none := rfl
  generalize a.eval = ρ at hx hc ⊢
  simp only [execOp, ho, hx]
  simp [go_sem, Result.andThen, hc]
end
def ops_liT : Array Oper := #[
  { dst := some 21, op := Op.move (Operand.tmp 5), type := 25, pos := "law.go:27", after := #[], guard := none },
  { dst := some 22, op := Op.load 28 (Operand.tmp 7), type := 28, pos := "law.go:27", after := #[{ on := 12, ground := Ground.gcOnly Departure.lateStores }], guard := none },
  { dst := some 23, op := Op.move (Operand.tmp 6), type := 32, pos := "law.go:27", after := #[], guard := none },
  { dst := some 24, op := Op.binOp BinOp.eql 32 (Operand.tmp 23) (Operand.const Value.nilIface) 32, type := 4, pos := "law.go:27", after := #[{ on := 2, ground := Ground.data }], guard := none },
  { dst := some 25, op := Op.move (Operand.tmp 24), type := 4, pos := "law.go:27", after := #[{ on := 3, ground := Ground.data }], guard := none },
  { dst := some 26, op := Op.move (Operand.tmp 5), type := 25, pos := "law.go:27", after := #[{ on := 4, ground := Ground.guard }], guard := some (4, true) },
  { dst := some 27, op := Op.binOp BinOp.neq 25 (Operand.tmp 26) (Operand.const (Value.pointer none)) 25, type := 4, pos := "law.go:27", after := #[{ on := 5, ground := Ground.data }, { on := 4, ground := Ground.guard }], guard := some (4, true) },
  { dst := some 28, op := Op.pick (Operand.tmp 25) (Operand.tmp 27) (Operand.const (Value.bool false)), type := 4, pos := "law.go:27", after := #[{ on := 4, ground := Ground.data }, { on := 6, ground := Ground.data }], guard := none },
  { dst := some 29, op := Op.move (Operand.tmp 28), type := 4, pos := "law.go:27", after := #[{ on := 7, ground := Ground.data }, { on := 4, ground := Ground.chain }], guard := none },
  { dst := some 30, op := Op.move (Operand.tmp 9), type := 3, pos := "law.go:27", after := #[{ on := 8, ground := Ground.guard }, { on := 13, ground := Ground.gcOnly Departure.lateStores }], guard := some (8, true) },
  { dst := some 31, op := Op.binOp BinOp.eql 3 (Operand.tmp 30) (Operand.const (Value.int IntKind.i64 0)) 3, type := 4, pos := "law.go:27", after := #[{ on := 9, ground := Ground.data }, { on := 8, ground := Ground.guard }, { on := 13, ground := Ground.gcOnly Departure.lateStores }], guard := some (8, true) },
  { dst := some 32, op := Op.pick (Operand.tmp 29) (Operand.tmp 31) (Operand.const (Value.bool false)), type := 4, pos := "law.go:27", after := #[{ on := 8, ground := Ground.data }, { on := 10, ground := Ground.data }, { on := 13, ground := Ground.gcOnly Departure.lateStores }], guard := none },
  { dst := some 2, op := Op.assign (Operand.tmp 21), type := 25, pos := "law.go:27", after := #[{ on := 0, ground := Ground.data }, { on := 8, ground := Ground.chain }, { on := 0, ground := Ground.phase }, { on := 1, ground := Ground.textOnly Departure.lateStores }, { on := 2, ground := Ground.textOnly Departure.lateStores }, { on := 3, ground := Ground.textOnly Departure.lateStores }, { on := 4, ground := Ground.textOnly Departure.lateStores }, { on := 5, ground := Ground.textOnly Departure.lateStores }, { on := 6, ground := Ground.textOnly Departure.lateStores }, { on := 7, ground := Ground.textOnly Departure.lateStores }, { on := 8, ground := Ground.textOnly Departure.lateStores }, { on := 9, ground := Ground.textOnly Departure.lateStores }, { on := 10, ground := Ground.textOnly Departure.lateStores }, { on := 11, ground := Ground.textOnly Departure.lateStores }], guard := none },
  { dst := none, op := Op.store 28 (Operand.tmp 3) (Operand.tmp 22), type := 0, pos := "law.go:27", after := #[{ on := 1, ground := Ground.data }, { on := 12, ground := Ground.chain }, { on := 0, ground := Ground.phase }, { on := 1, ground := Ground.phase }, { on := 2, ground := Ground.textOnly Departure.lateStores }, { on := 3, ground := Ground.textOnly Departure.lateStores }, { on := 4, ground := Ground.textOnly Departure.lateStores }, { on := 5, ground := Ground.textOnly Departure.lateStores }, { on := 6, ground := Ground.textOnly Departure.lateStores }, { on := 7, ground := Ground.textOnly Departure.lateStores }, { on := 8, ground := Ground.textOnly Departure.lateStores }, { on := 9, ground := Ground.textOnly Departure.lateStores }, { on := 10, ground := Ground.textOnly Departure.lateStores }, { on := 11, ground := Ground.textOnly Departure.lateStores }, { on := 12, ground := Ground.phase }], guard := none },
  { dst := some 4, op := Op.assign (Operand.tmp 32), type := 4, pos := "law.go:27", after := #[{ on := 11, ground := Ground.data }, { on := 13, ground := Ground.chain }, { on := 0, ground := Ground.phase }, { on := 1, ground := Ground.phase }, { on := 2, ground := Ground.phase }, { on := 3, ground := Ground.phase }, { on := 4, ground := Ground.phase }, { on := 5, ground := Ground.phase }, { on := 6, ground := Ground.phase }, { on := 7, ground := Ground.phase }, { on := 8, ground := Ground.phase }, { on := 9, ground := Ground.phase }, { on := 10, ground := Ground.phase }, { on := 11, ground := Ground.phase }, { on := 12, ground := Ground.phase }, { on := 13, ground := Ground.phase }], guard := none }]
def dst_liT (i : Nat) : Option Nat := (ops_liT[i]?).bind (·.dst)
theorem inj_liT : ∀ i, i < 15 -> ∀ k, k < 15 -> dst_liT i ≠ none -> dst_liT i = dst_liT k -> i = k := by decide +kernel
theorem lt_liT : ∀ i, i < 15 -> (dst_liT i).getD 0 < 33 := by decide +kernel
theorem low_liT : ∀ i : Fin 15, ∀ e ∈ (ops_liT[i.1]'(by exact i.2)).after, Region.binds .any e = true -> e.on < i.1 := by decide +kernel
def val_liT (lb mb rb : Nat) (fa : Option Addr) (fn fc : Nat) (nx : Int) : List Value := [.pointer (some ⟨lb, 0, none⟩), .agg #[.slice fa fn fc, .int .i64 nx], .nilIface, .bool true, .bool true, .pointer (some ⟨lb, 0, none⟩), .bool true, .bool true, .bool true, .int .i64 0, .bool true, .bool true, .pointer (some ⟨lb, 0, none⟩), undef, .bool true]
theorem region_liT (a0 : Act) (w0 : World) (lb mb rb : Nat) (fa : Option Addr) (fn fc : Nat) (nx : Int) (Q : Exit -> Act -> World -> Prop)
    (hsz : a0.tmps.size = 33) (h5 : a0.tmps[5]? = some (.pointer (some ⟨lb, 0, none⟩))) (h6 : a0.tmps[6]? = some (.nilIface)) (h7 : a0.tmps[7]? = some (.pointer (some ⟨mb, 0, none⟩))) (h9 : a0.tmps[9]? = some (.int .i64 0)) (h3 : a0.tmps[3]? = some (.pointer (some ⟨rb, 0, none⟩)))
    (hne : mb ≠ rb) (hM : Cells w0 mb 28 #[.slice fa fn fc, .int .i64 nx]) (hR : ∃ cur, Cells w0 rb 28 cur /\ cur.size = 2)
    (hQ : Q .normal { a0 with tmps := [(21, .pointer (some ⟨lb, 0, none⟩)), (22, .agg #[.slice fa fn fc, .int .i64 nx]), (23, .nilIface), (24, .bool true), (25, .bool true), (26, .pointer (some ⟨lb, 0, none⟩)), (27, .bool true), (28, .bool true), (29, .bool true), (30, .int .i64 0), (31, .bool true), (32, .bool true), (2, .pointer (some ⟨lb, 0, none⟩)), (4, .bool true)].foldl (fun u p => u.setIfInBounds p.1 p.2) a0.tmps } ((w0.setCell ⟨rb, 0, none⟩ (.slice fa fn fc)).setCell ⟨rb, 1, none⟩ (.int .i64 nx))) :
    wpAny Tryz.prog .any ops_liT Q ops_liT.size (Array.replicate ops_liT.size false) a0 w0 := by
  obtain ⟨W, hW⟩ : ∃ W : Bool -> World, W = fun b => if b = true then (w0.setCell ⟨rb, 0, none⟩ (.slice fa fn fc)).setCell ⟨rb, 1, none⟩ (.int .i64 nx) else w0 := ⟨_, rfl⟩
  have W0 : W false = w0 := by rw [hW]; rfl
  have W1 : W true = (w0.setCell ⟨rb, 0, none⟩ (.slice fa fn fc)).setCell ⟨rb, 1, none⟩ (.int .i64 nx) := by rw [hW]; rfl
  have MC : ∀ b, Cells (W b) mb 28 #[.slice fa fn fc, .int .i64 nx] := fun b => by
    cases b with
    | false => rw [W0]; exact hM
    | true => rw [W1]; exact (hM.other (p := ⟨rb, 0, none⟩) hne _).other (p := ⟨rb, 1, none⟩) hne _
  have R := wpAny_table (P := Tryz.prog) (ops := ops_liT) (Q := Q) a0 dst_liT (fun i => ((val_liT lb mb rb fa fn fc nx)[i]?).getD undef) 13 W
    (fun i o ho => by unfold dst_liT; rw [ho]; rfl)
    (fun i k d hi hk h1 h2 => inj_liT i hi k hk (by rw [h1]; intro q; cases q) (by rw [h1, h2]))
    (fun i d hi h => by have := lt_liT i hi; rw [h] at this; rw [hsz]; exact this)
    (fun i o e ho he hb => by
      obtain ⟨hi, rfl⟩ := Array.getElem?_eq_some_iff.1 ho
      exact low_liT ⟨i, hi⟩ e he hb)
    ?step ?fin (by decide)
  . rw [W0] at R; exact R
  case fin =>
    intro a hd hs hf hv
    rw [W1]
    rw [act_set' (a := a) (a0 := a0) [(21, .pointer (some ⟨lb, 0, none⟩)), (22, .agg #[.slice fa fn fc, .int .i64 nx]), (23, .nilIface), (24, .bool true), (25, .bool true), (26, .pointer (some ⟨lb, 0, none⟩)), (27, .bool true), (28, .bool true), (29, .bool true), (30, .int .i64 0), (31, .bool true), (32, .bool true), (2, .pointer (some ⟨lb, 0, none⟩)), (4, .bool true)] hd hs (by
      intro p hp
      simp only [List.mem_cons, List.not_mem_nil, or_false] at hp
      rcases hp with rfl | rfl | rfl | rfl | rfl | rfl | rfl | rfl | rfl | rfl | rfl | rfl | rfl | rfl
      . exact hv 0 21 (by decide) rfl
      . exact hv 1 22 (by decide) rfl
      . exact hv 2 23 (by decide) rfl
      . exact hv 3 24 (by decide) rfl
      . exact hv 4 25 (by decide) rfl
      . exact hv 5 26 (by decide) rfl
      . exact hv 6 27 (by decide) rfl
      . exact hv 7 28 (by decide) rfl
      . exact hv 8 29 (by decide) rfl
      . exact hv 9 30 (by decide) rfl
      . exact hv 10 31 (by decide) rfl
      . exact hv 11 32 (by decide) rfl
      . exact hv 12 2 (by decide) rfl
      . exact hv 14 4 (by decide) rfl
      ) (fun j hj => hf j (fun k hk q => hj (by
        have : ∀ k, k < 15 -> (dst_liT k).all (fun d => [21, 22, 23, 24, 25, 26, 27, 28, 29, 30, 31, 32, 2, 4].contains d) = true := by decide +kernel
        have h1 := this k hk
        rw [q] at h1
        simpa using h1)))]
    exact hQ
  case step =>
  intro i o a b ho hs hf dep hib
  have hi : i < 15 := (Array.getElem?_eq_some_iff.1 ho).1
  have e5 := evT ((hf 5 (by decide +kernel)).trans h5)
  have e6 := evT ((hf 6 (by decide +kernel)).trans h6)
  have e7 := evT ((hf 7 (by decide +kernel)).trans h7)
  have e9 := evT ((hf 9 (by decide +kernel)).trans h9)
  have e3 := evT ((hf 3 (by decide +kernel)).trans h3)
  rcases (by omega : i = 0 \/ i = 1 \/ i = 2 \/ i = 3 \/ i = 4 \/ i = 5 \/ i = 6 \/ i = 7 \/ i = 8 \/ i = 9 \/ i = 10 \/ i = 11 \/ i = 12 \/ i = 13 \/ i = 14) with rfl | rfl | rfl | rfl | rfl | rfl | rfl | rfl | rfl | rfl | rfl | rfl | rfl | rfl | rfl
  . have ho2 : some _ = some o := ho
    obtain rfl := Option.some.inj ho2
    exact .inl ⟨wantN rfl, fun K hK => op_move rfl e5 hK⟩
  . have ho2 : some _ = some o := ho
    obtain rfl := Option.some.inj ho2
    exact .inl ⟨wantN rfl, fun K hK => op_load2 rfl e7 ((MC b).cell 0) ((MC b).cell 1) hK⟩
  . have ho2 : some _ = some o := ho
    obtain rfl := Option.some.inj ho2
    exact .inl ⟨wantN rfl, fun K hK => op_move rfl e6 hK⟩
  . have ho2 : some _ = some o := ho
    obtain rfl := Option.some.inj ho2
    have hv2 : a.tmps[23]? = some (.nilIface) := dep ⟨2, Ground.data⟩ (by first | simp | simp [ops_liT]) rfl 23 rfl
    exact .inl ⟨wantN rfl, fun K hK => op_nilE rfl (evT hv2) hK⟩
  . have ho2 : some _ = some o := ho
    obtain rfl := Option.some.inj ho2
    have hv3 : a.tmps[24]? = some (.bool true) := dep ⟨3, Ground.data⟩ (by first | simp | simp [ops_liT]) rfl 24 rfl
    exact .inl ⟨wantN rfl, fun K hK => op_move rfl (evT hv3) hK⟩
  . have ho2 : some _ = some o := ho
    obtain rfl := Option.some.inj ho2
    have hv4 : a.tmps[25]? = some (.bool true) := dep ⟨4, Ground.guard⟩ (by first | simp | simp [ops_liT]) rfl 25 rfl
    exact .inl ⟨wantG (b := true) rfl (show ((ops_liT[4]?).bind (·.dst)) = some 25 from rfl) hv4, fun K hK => op_move rfl e5 hK⟩
  . have ho2 : some _ = some o := ho
    obtain rfl := Option.some.inj ho2
    have hv5 : a.tmps[26]? = some (.pointer (some ⟨lb, 0, none⟩)) := dep ⟨5, Ground.data⟩ (by first | simp | simp [ops_liT]) rfl 26 rfl
    have hv4 : a.tmps[25]? = some (.bool true) := dep ⟨4, Ground.guard⟩ (by first | simp | simp [ops_liT]) rfl 25 rfl
    exact .inl ⟨wantG (b := true) rfl (show ((ops_liT[4]?).bind (·.dst)) = some 25 from rfl) hv4, fun K hK => op_ptrL rfl (evT hv5) hK⟩
  . have ho2 : some _ = some o := ho
    obtain rfl := Option.some.inj ho2
    have hv4 : a.tmps[25]? = some (.bool true) := dep ⟨4, Ground.data⟩ (by first | simp | simp [ops_liT]) rfl 25 rfl
    have hv6 : a.tmps[27]? = some (.bool true) := dep ⟨6, Ground.data⟩ (by first | simp | simp [ops_liT]) rfl 27 rfl
    exact .inl ⟨wantN rfl, fun K hK => op_pick rfl (evT hv4) (evT hv6) rfl rfl hK⟩
  . have ho2 : some _ = some o := ho
    obtain rfl := Option.some.inj ho2
    have hv7 : a.tmps[28]? = some (.bool true) := dep ⟨7, Ground.data⟩ (by first | simp | simp [ops_liT]) rfl 28 rfl
    exact .inl ⟨wantN rfl, fun K hK => op_move rfl (evT hv7) hK⟩
  . have ho2 : some _ = some o := ho
    obtain rfl := Option.some.inj ho2
    have hv8 : a.tmps[29]? = some (.bool true) := dep ⟨8, Ground.guard⟩ (by first | simp | simp [ops_liT]) rfl 29 rfl
    exact .inl ⟨wantG (b := true) rfl (show ((ops_liT[8]?).bind (·.dst)) = some 29 from rfl) hv8, fun K hK => op_move rfl e9 hK⟩
  . have ho2 : some _ = some o := ho
    obtain rfl := Option.some.inj ho2
    have hv9 : a.tmps[30]? = some (.int .i64 0) := dep ⟨9, Ground.data⟩ (by first | simp | simp [ops_liT]) rfl 30 rfl
    have hv8 : a.tmps[29]? = some (.bool true) := dep ⟨8, Ground.guard⟩ (by first | simp | simp [ops_liT]) rfl 29 rfl
    exact .inl ⟨wantG (b := true) rfl (show ((ops_liT[8]?).bind (·.dst)) = some 29 from rfl) hv8, fun K hK => op_eql rfl (evT hv9) rfl (by decide) hK⟩
  . have ho2 : some _ = some o := ho
    obtain rfl := Option.some.inj ho2
    have hv8 : a.tmps[29]? = some (.bool true) := dep ⟨8, Ground.data⟩ (by first | simp | simp [ops_liT]) rfl 29 rfl
    have hv10 : a.tmps[31]? = some (.bool true) := dep ⟨10, Ground.data⟩ (by first | simp | simp [ops_liT]) rfl 31 rfl
    exact .inl ⟨wantN rfl, fun K hK => op_pick rfl (evT hv8) (evT hv10) rfl rfl hK⟩
  . have ho2 : some _ = some o := ho
    obtain rfl := Option.some.inj ho2
    have hv0 : a.tmps[21]? = some (.pointer (some ⟨lb, 0, none⟩)) := dep ⟨0, Ground.data⟩ (by first | simp | simp [ops_liT]) rfl 21 rfl
    exact .inl ⟨wantN rfl, fun K hK => op_assign rfl (evT hv0) hK⟩
  . have ho2 : some _ = some o := ho
    obtain rfl := Option.some.inj ho2
    have hv1 : a.tmps[22]? = some (.agg #[.slice fa fn fc, .int .i64 nx]) := dep ⟨1, Ground.data⟩ (by first | simp | simp [ops_liT]) rfl 22 rfl
    obtain rfl : b = false := hib rfl
    rw [W0]
    obtain ⟨cur, hcr, hcs⟩ := hR
    refine .inl ⟨wantN rfl, fun K hK => op_store2 rfl e3 (evT hv1) ((hcr.cell 0).trans (Array.getElem?_eq_getElem (by omega))) ((hcr.cell 1).trans (Array.getElem?_eq_getElem (by omega))) (hcr.frozen 0) (hcr.frozen 1) ?_⟩
    have : W (if 13 = 13 then true else false) = (w0.setCell ⟨rb, 0, none⟩ (.slice fa fn fc)).setCell ⟨rb, 1, none⟩ (.int .i64 nx) := by rw [if_pos rfl, W1]
    rw [this] at hK
    exact hK
  have ho2 : some _ = some o := ho
  obtain rfl := Option.some.inj ho2
  have hv11 : a.tmps[32]? = some (.bool true) := dep ⟨11, Ground.data⟩ (by first | simp | simp [ops_liT]) rfl 32 rfl
  exact .inl ⟨wantN rfl, fun K hK => op_assign rfl (evT hv11) hK⟩
def ops_liF : Array Oper := #[
  { dst := some 21, op := Op.move (Operand.tmp 5), type := 25, pos := "law.go:27", after := #[], guard := none },
  { dst := some 22, op := Op.load 28 (Operand.tmp 7), type := 28, pos := "law.go:27", after := #[{ on := 12, ground := Ground.gcOnly Departure.lateStores }], guard := none },
  { dst := some 23, op := Op.move (Operand.tmp 6), type := 32, pos := "law.go:27", after := #[], guard := none },
  { dst := some 24, op := Op.binOp BinOp.eql 32 (Operand.tmp 23) (Operand.const Value.nilIface) 32, type := 4, pos := "law.go:27", after := #[{ on := 2, ground := Ground.data }], guard := none },
  { dst := some 25, op := Op.move (Operand.tmp 24), type := 4, pos := "law.go:27", after := #[{ on := 3, ground := Ground.data }], guard := none },
  { dst := some 26, op := Op.move (Operand.tmp 5), type := 25, pos := "law.go:27", after := #[{ on := 4, ground := Ground.guard }], guard := some (4, true) },
  { dst := some 27, op := Op.binOp BinOp.neq 25 (Operand.tmp 26) (Operand.const (Value.pointer none)) 25, type := 4, pos := "law.go:27", after := #[{ on := 5, ground := Ground.data }, { on := 4, ground := Ground.guard }], guard := some (4, true) },
  { dst := some 28, op := Op.pick (Operand.tmp 25) (Operand.tmp 27) (Operand.const (Value.bool false)), type := 4, pos := "law.go:27", after := #[{ on := 4, ground := Ground.data }, { on := 6, ground := Ground.data }], guard := none },
  { dst := some 29, op := Op.move (Operand.tmp 28), type := 4, pos := "law.go:27", after := #[{ on := 7, ground := Ground.data }, { on := 4, ground := Ground.chain }], guard := none },
  { dst := some 30, op := Op.move (Operand.tmp 9), type := 3, pos := "law.go:27", after := #[{ on := 8, ground := Ground.guard }, { on := 13, ground := Ground.gcOnly Departure.lateStores }], guard := some (8, true) },
  { dst := some 31, op := Op.binOp BinOp.eql 3 (Operand.tmp 30) (Operand.const (Value.int IntKind.i64 0)) 3, type := 4, pos := "law.go:27", after := #[{ on := 9, ground := Ground.data }, { on := 8, ground := Ground.guard }, { on := 13, ground := Ground.gcOnly Departure.lateStores }], guard := some (8, true) },
  { dst := some 32, op := Op.pick (Operand.tmp 29) (Operand.tmp 31) (Operand.const (Value.bool false)), type := 4, pos := "law.go:27", after := #[{ on := 8, ground := Ground.data }, { on := 10, ground := Ground.data }, { on := 13, ground := Ground.gcOnly Departure.lateStores }], guard := none },
  { dst := some 2, op := Op.assign (Operand.tmp 21), type := 25, pos := "law.go:27", after := #[{ on := 0, ground := Ground.data }, { on := 8, ground := Ground.chain }, { on := 0, ground := Ground.phase }, { on := 1, ground := Ground.textOnly Departure.lateStores }, { on := 2, ground := Ground.textOnly Departure.lateStores }, { on := 3, ground := Ground.textOnly Departure.lateStores }, { on := 4, ground := Ground.textOnly Departure.lateStores }, { on := 5, ground := Ground.textOnly Departure.lateStores }, { on := 6, ground := Ground.textOnly Departure.lateStores }, { on := 7, ground := Ground.textOnly Departure.lateStores }, { on := 8, ground := Ground.textOnly Departure.lateStores }, { on := 9, ground := Ground.textOnly Departure.lateStores }, { on := 10, ground := Ground.textOnly Departure.lateStores }, { on := 11, ground := Ground.textOnly Departure.lateStores }], guard := none },
  { dst := none, op := Op.store 28 (Operand.tmp 3) (Operand.tmp 22), type := 0, pos := "law.go:27", after := #[{ on := 1, ground := Ground.data }, { on := 12, ground := Ground.chain }, { on := 0, ground := Ground.phase }, { on := 1, ground := Ground.phase }, { on := 2, ground := Ground.textOnly Departure.lateStores }, { on := 3, ground := Ground.textOnly Departure.lateStores }, { on := 4, ground := Ground.textOnly Departure.lateStores }, { on := 5, ground := Ground.textOnly Departure.lateStores }, { on := 6, ground := Ground.textOnly Departure.lateStores }, { on := 7, ground := Ground.textOnly Departure.lateStores }, { on := 8, ground := Ground.textOnly Departure.lateStores }, { on := 9, ground := Ground.textOnly Departure.lateStores }, { on := 10, ground := Ground.textOnly Departure.lateStores }, { on := 11, ground := Ground.textOnly Departure.lateStores }, { on := 12, ground := Ground.phase }], guard := none },
  { dst := some 4, op := Op.assign (Operand.tmp 32), type := 4, pos := "law.go:27", after := #[{ on := 11, ground := Ground.data }, { on := 13, ground := Ground.chain }, { on := 0, ground := Ground.phase }, { on := 1, ground := Ground.phase }, { on := 2, ground := Ground.phase }, { on := 3, ground := Ground.phase }, { on := 4, ground := Ground.phase }, { on := 5, ground := Ground.phase }, { on := 6, ground := Ground.phase }, { on := 7, ground := Ground.phase }, { on := 8, ground := Ground.phase }, { on := 9, ground := Ground.phase }, { on := 10, ground := Ground.phase }, { on := 11, ground := Ground.phase }, { on := 12, ground := Ground.phase }, { on := 13, ground := Ground.phase }], guard := none }]
def dst_liF (i : Nat) : Option Nat := (ops_liF[i]?).bind (·.dst)
theorem inj_liF : ∀ i, i < 15 -> ∀ k, k < 15 -> dst_liF i ≠ none -> dst_liF i = dst_liF k -> i = k := by decide +kernel
theorem lt_liF : ∀ i, i < 15 -> (dst_liF i).getD 0 < 33 := by decide +kernel
theorem low_liF : ∀ i : Fin 15, ∀ e ∈ (ops_liF[i.1]'(by exact i.2)).after, Region.binds .any e = true -> e.on < i.1 := by decide +kernel
def val_liF (mb rb : Nat) (fa : Option Addr) (fn fc : Nat) (nx : Int) (T : TypeId) (p : Option Addr) (n : Int) : List Value := [.pointer none, .agg #[.slice fa fn fc, .int .i64 nx], .iface T (.pointer p), .bool false, .bool false, undef, undef, .bool false, .bool false, undef, undef, .bool false, .pointer none, undef, .bool false]
theorem region_liF (a0 : Act) (w0 : World) (mb rb : Nat) (fa : Option Addr) (fn fc : Nat) (nx : Int) (T : TypeId) (p : Option Addr) (n : Int) (Q : Exit -> Act -> World -> Prop)
    (hsz : a0.tmps.size = 33) (h5 : a0.tmps[5]? = some (.pointer none)) (h6 : a0.tmps[6]? = some (.iface T (.pointer p))) (h7 : a0.tmps[7]? = some (.pointer (some ⟨mb, 0, none⟩))) (h9 : a0.tmps[9]? = some (.int .i64 n)) (h3 : a0.tmps[3]? = some (.pointer (some ⟨rb, 0, none⟩)))
    (hne : mb ≠ rb) (hM : Cells w0 mb 28 #[.slice fa fn fc, .int .i64 nx]) (hR : ∃ cur, Cells w0 rb 28 cur /\ cur.size = 2)
    (hQ : Q .normal { a0 with tmps := [(21, .pointer none), (22, .agg #[.slice fa fn fc, .int .i64 nx]), (23, .iface T (.pointer p)), (24, .bool false), (25, .bool false), (26, undef), (27, undef), (28, .bool false), (29, .bool false), (30, undef), (31, undef), (32, .bool false), (2, .pointer none), (4, .bool false)].foldl (fun u p => u.setIfInBounds p.1 p.2) a0.tmps } ((w0.setCell ⟨rb, 0, none⟩ (.slice fa fn fc)).setCell ⟨rb, 1, none⟩ (.int .i64 nx))) :
    wpAny Tryz.prog .any ops_liF Q ops_liF.size (Array.replicate ops_liF.size false) a0 w0 := by
  obtain ⟨W, hW⟩ : ∃ W : Bool -> World, W = fun b => if b = true then (w0.setCell ⟨rb, 0, none⟩ (.slice fa fn fc)).setCell ⟨rb, 1, none⟩ (.int .i64 nx) else w0 := ⟨_, rfl⟩
  have W0 : W false = w0 := by rw [hW]; rfl
  have W1 : W true = (w0.setCell ⟨rb, 0, none⟩ (.slice fa fn fc)).setCell ⟨rb, 1, none⟩ (.int .i64 nx) := by rw [hW]; rfl
  have MC : ∀ b, Cells (W b) mb 28 #[.slice fa fn fc, .int .i64 nx] := fun b => by
    cases b with
    | false => rw [W0]; exact hM
    | true => rw [W1]; exact (hM.other (p := ⟨rb, 0, none⟩) hne _).other (p := ⟨rb, 1, none⟩) hne _
  have R := wpAny_table (P := Tryz.prog) (ops := ops_liF) (Q := Q) a0 dst_liF (fun i => ((val_liF mb rb fa fn fc nx T p n)[i]?).getD undef) 13 W
    (fun i o ho => by unfold dst_liF; rw [ho]; rfl)
    (fun i k d hi hk h1 h2 => inj_liF i hi k hk (by rw [h1]; intro q; cases q) (by rw [h1, h2]))
    (fun i d hi h => by have := lt_liF i hi; rw [h] at this; rw [hsz]; exact this)
    (fun i o e ho he hb => by
      obtain ⟨hi, rfl⟩ := Array.getElem?_eq_some_iff.1 ho
      exact low_liF ⟨i, hi⟩ e he hb)
    ?step ?fin (by decide)
  . rw [W0] at R; exact R
  case fin =>
    intro a hd hs hf hv
    rw [W1]
    rw [act_set' (a := a) (a0 := a0) [(21, .pointer none), (22, .agg #[.slice fa fn fc, .int .i64 nx]), (23, .iface T (.pointer p)), (24, .bool false), (25, .bool false), (26, undef), (27, undef), (28, .bool false), (29, .bool false), (30, undef), (31, undef), (32, .bool false), (2, .pointer none), (4, .bool false)] hd hs (by
      intro p hp
      simp only [List.mem_cons, List.not_mem_nil, or_false] at hp
      rcases hp with rfl | rfl | rfl | rfl | rfl | rfl | rfl | rfl | rfl | rfl | rfl | rfl | rfl | rfl
      . exact hv 0 21 (by decide) rfl
      . exact hv 1 22 (by decide) rfl
      . exact hv 2 23 (by decide) rfl
      . exact hv 3 24 (by decide) rfl
      . exact hv 4 25 (by decide) rfl
      . exact hv 5 26 (by decide) rfl
      . exact hv 6 27 (by decide) rfl
      . exact hv 7 28 (by decide) rfl
      . exact hv 8 29 (by decide) rfl
      . exact hv 9 30 (by decide) rfl
      . exact hv 10 31 (by decide) rfl
      . exact hv 11 32 (by decide) rfl
      . exact hv 12 2 (by decide) rfl
      . exact hv 14 4 (by decide) rfl
      ) (fun j hj => hf j (fun k hk q => hj (by
        have : ∀ k, k < 15 -> (dst_liF k).all (fun d => [21, 22, 23, 24, 25, 26, 27, 28, 29, 30, 31, 32, 2, 4].contains d) = true := by decide +kernel
        have h1 := this k hk
        rw [q] at h1
        simpa using h1)))]
    exact hQ
  case step =>
  intro i o a b ho hs hf dep hib
  have hi : i < 15 := (Array.getElem?_eq_some_iff.1 ho).1
  have e5 := evT ((hf 5 (by decide +kernel)).trans h5)
  have e6 := evT ((hf 6 (by decide +kernel)).trans h6)
  have e7 := evT ((hf 7 (by decide +kernel)).trans h7)
  have e9 := evT ((hf 9 (by decide +kernel)).trans h9)
  have e3 := evT ((hf 3 (by decide +kernel)).trans h3)
  rcases (by omega : i = 0 \/ i = 1 \/ i = 2 \/ i = 3 \/ i = 4 \/ i = 5 \/ i = 6 \/ i = 7 \/ i = 8 \/ i = 9 \/ i = 10 \/ i = 11 \/ i = 12 \/ i = 13 \/ i = 14) with rfl | rfl | rfl | rfl | rfl | rfl | rfl | rfl | rfl | rfl | rfl | rfl | rfl | rfl | rfl
  . have ho2 : some _ = some o := ho
    obtain rfl := Option.some.inj ho2
    exact .inl ⟨wantN rfl, fun K hK => op_move rfl e5 hK⟩
  . have ho2 : some _ = some o := ho
    obtain rfl := Option.some.inj ho2
    exact .inl ⟨wantN rfl, fun K hK => op_load2 rfl e7 ((MC b).cell 0) ((MC b).cell 1) hK⟩
  . have ho2 : some _ = some o := ho
    obtain rfl := Option.some.inj ho2
    exact .inl ⟨wantN rfl, fun K hK => op_move rfl e6 hK⟩
  . have ho2 : some _ = some o := ho
    obtain rfl := Option.some.inj ho2
    have hv2 : a.tmps[23]? = some (.iface T (.pointer p)) := dep ⟨2, Ground.data⟩ (by first | simp | simp [ops_liF]) rfl 23 rfl
    exact .inl ⟨wantN rfl, fun K hK => op_notnilE rfl (evT hv2) hK⟩
  . have ho2 : some _ = some o := ho
    obtain rfl := Option.some.inj ho2
    have hv3 : a.tmps[24]? = some (.bool false) := dep ⟨3, Ground.data⟩ (by first | simp | simp [ops_liF]) rfl 24 rfl
    exact .inl ⟨wantN rfl, fun K hK => op_move rfl (evT hv3) hK⟩
  . have ho2 : some _ = some o := ho
    obtain rfl := Option.some.inj ho2
    have hv4 : a.tmps[25]? = some (.bool false) := dep ⟨4, Ground.guard⟩ (by first | simp | simp [ops_liF]) rfl 25 rfl
    exact .inr ⟨wantU (b := true) rfl (show ((ops_liF[4]?).bind (·.dst)) = some 25 from rfl) hv4, rfl, by decide⟩
  . have ho2 : some _ = some o := ho
    obtain rfl := Option.some.inj ho2
    have hv4 : a.tmps[25]? = some (.bool false) := dep ⟨4, Ground.guard⟩ (by first | simp | simp [ops_liF]) rfl 25 rfl
    exact .inr ⟨wantU (b := true) rfl (show ((ops_liF[4]?).bind (·.dst)) = some 25 from rfl) hv4, rfl, by decide⟩
  . have ho2 : some _ = some o := ho
    obtain rfl := Option.some.inj ho2
    have hv4 : a.tmps[25]? = some (.bool false) := dep ⟨4, Ground.data⟩ (by first | simp | simp [ops_liF]) rfl 25 rfl
    have hv6 : a.tmps[27]? = some (undef) := dep ⟨6, Ground.data⟩ (by first | simp | simp [ops_liF]) rfl 27 rfl
    exact .inl ⟨wantN rfl, fun K hK => op_pick rfl (evT hv4) (evT hv6) rfl rfl hK⟩
  . have ho2 : some _ = some o := ho
    obtain rfl := Option.some.inj ho2
    have hv7 : a.tmps[28]? = some (.bool false) := dep ⟨7, Ground.data⟩ (by first | simp | simp [ops_liF]) rfl 28 rfl
    exact .inl ⟨wantN rfl, fun K hK => op_move rfl (evT hv7) hK⟩
  . have ho2 : some _ = some o := ho
    obtain rfl := Option.some.inj ho2
    have hv8 : a.tmps[29]? = some (.bool false) := dep ⟨8, Ground.guard⟩ (by first | simp | simp [ops_liF]) rfl 29 rfl
    exact .inr ⟨wantU (b := true) rfl (show ((ops_liF[8]?).bind (·.dst)) = some 29 from rfl) hv8, rfl, by decide⟩
  . have ho2 : some _ = some o := ho
    obtain rfl := Option.some.inj ho2
    have hv8 : a.tmps[29]? = some (.bool false) := dep ⟨8, Ground.guard⟩ (by first | simp | simp [ops_liF]) rfl 29 rfl
    exact .inr ⟨wantU (b := true) rfl (show ((ops_liF[8]?).bind (·.dst)) = some 29 from rfl) hv8, rfl, by decide⟩
  . have ho2 : some _ = some o := ho
    obtain rfl := Option.some.inj ho2
    have hv8 : a.tmps[29]? = some (.bool false) := dep ⟨8, Ground.data⟩ (by first | simp | simp [ops_liF]) rfl 29 rfl
    have hv10 : a.tmps[31]? = some (undef) := dep ⟨10, Ground.data⟩ (by first | simp | simp [ops_liF]) rfl 31 rfl
    exact .inl ⟨wantN rfl, fun K hK => op_pick rfl (evT hv8) (evT hv10) rfl rfl hK⟩
  . have ho2 : some _ = some o := ho
    obtain rfl := Option.some.inj ho2
    have hv0 : a.tmps[21]? = some (.pointer none) := dep ⟨0, Ground.data⟩ (by first | simp | simp [ops_liF]) rfl 21 rfl
    exact .inl ⟨wantN rfl, fun K hK => op_assign rfl (evT hv0) hK⟩
  . have ho2 : some _ = some o := ho
    obtain rfl := Option.some.inj ho2
    have hv1 : a.tmps[22]? = some (.agg #[.slice fa fn fc, .int .i64 nx]) := dep ⟨1, Ground.data⟩ (by first | simp | simp [ops_liF]) rfl 22 rfl
    obtain rfl : b = false := hib rfl
    rw [W0]
    obtain ⟨cur, hcr, hcs⟩ := hR
    refine .inl ⟨wantN rfl, fun K hK => op_store2 rfl e3 (evT hv1) ((hcr.cell 0).trans (Array.getElem?_eq_getElem (by omega))) ((hcr.cell 1).trans (Array.getElem?_eq_getElem (by omega))) (hcr.frozen 0) (hcr.frozen 1) ?_⟩
    have : W (if 13 = 13 then true else false) = (w0.setCell ⟨rb, 0, none⟩ (.slice fa fn fc)).setCell ⟨rb, 1, none⟩ (.int .i64 nx) := by rw [if_pos rfl, W1]
    rw [this] at hK
    exact hK
  have ho2 : some _ = some o := ho
  obtain rfl := Option.some.inj ho2
  have hv11 : a.tmps[32]? = some (.bool false) := dep ⟨11, Ground.data⟩ (by first | simp | simp [ops_liF]) rfl 32 rfl
  exact .inl ⟨wantN rfl, fun K hK => op_assign rfl (evT hv11) hK⟩
end Go.Proofs.YtfjklpgmnakcaaaGreatDoor
namespace Go.Proofs.YtfjklpgmnakcaaaGreatDoor
open Go.RowKit Go.Shelf
attribute [local go_sem] Oper.semAt_some
theorem results_t3 {fn : Func} {p u z : Tmp} {ty : TypeId} (h : fn.results = #[.tmp u, .cell p ty, .tmp z]) (tmps : Array Value) (P : Program) (w : World) :
    (results fn tmps).run P w = ((asAddr (tmps.getD p undef)).run P w).andThen fun a w₁ => ((loadVar ty a).run P w₁).andThen fun v w₂ => .ok (.tuple #[tmps.getD u undef, v, tmps.getD z undef]) w₂ := by
  simp only [results, h]
  simp [Sem.run_bind, Result.andThen]
theorem ret_t3 {fn : Func} {p u z : Tmp} (h : fn.results = #[.tmp u, .cell p 28, .tmp z]) (tmps : Array Value) (w : World) (b : Nat) (cur : Array Value) (hp : tmps.getD p undef = .pointer (some ⟨b, 0, none⟩))
    (hc : Cells w b 28 cur) (hz : cur.size = 2) : (results fn tmps).run Tryz.prog w = .ok (.tuple #[tmps.getD u undef, .agg cur, tmps.getD z undef]) w := by
  have L := run_loadVar_row (P := Tryz.prog) w b 28 28 cur (0, 0) _ hc Tryz.underlying28 rfl (by rw [hz]; kernel_rfl)
  rw [results_t3 h, hp]
  show ((loadVar _ _).run _ _).andThen _ = _
  rw [L]; rfl
theorem fld_not {w : World} {v : Value} {fs : List Fld} {b : Nat} {T : TypeId} {cur : Array Value} (h : Flds w v fs) (hne : fs ≠ []) (hb : v.ownBlock = some b) (hc : Cells w b T cur) (hn : ∀ x ∈ cur, ∀ s, x ≠ .string s) : False := by
  obtain ⟨A, cap, rfl, hle, hcs⟩ := h
  obtain ⟨f, hf⟩ : ∃ f, fs[0]? = some f := by
    cases fs with
    | nil => exact absurd rfl hne
    | cons a r => exact ⟨a, rfl⟩
  obtain ⟨b', off, rfl, _, c0, _⟩ := hcs 0 f hf
  have e : b' = b := by cases hb; rfl
  subst e
  rw [Nat.zero_mul, Nat.add_zero, hc.cell off] at c0
  exact hn _ (Array.mem_of_getElem? c0) _ rfl
def ListsR (w : World) (t : List UInt8) (e : Ending) (w' : World) : Prop :=
  Below w.heap.size w w' /\ match parseL t with
    | .error _ => e = .returned (.tuple #[.pointer none, .agg #[.slice none 0 0, .int .i64 0], .bool false])
    | .ok its => ∃ lb ev ps v qs, e = .returned (.tuple #[ptr lb, .agg #[v, .int .i64 (fromL its).next], .bool true]) /\ Carry w.heap.size w' lb ev ps (fromL its) 3000 /\ EntsQ w' v qs /\ qs.map Prod.fst = (fromL its).es
theorem lists_any (s : ByteArray) (hs : s.size <= 3000) (w : World) : Calls Tryz.prog 6 #[.string s] w fun e w' => ListsR w s.data.toList e w' := by
  obtain ⟨wa, hwa⟩ : ∃ wa, wa = w.alloc (.cells #[.slice none 0 0, .int .i64 0] 28) := ⟨_, rfl⟩
  have hba : Below w.heap.size w wa := by rw [hwa]; exact (Below.refl _ w).alloc (Nat.le_refl _) _
  have hza : wa.heap.size = w.heap.size + 1 := by rw [hwa]; simp
  have c3a : Cells wa w.heap.size 28 #[.slice none 0 0, .int .i64 0] := by rw [hwa]; exact Cells.new _ _ _
  have OF := Lib.hid (of_any s (by omega) wa)
  have RO_ := Lib.hid (fun W => refOf7_any s (by omega) W)
  have HBA := Lib.hid hba
  have HC3 := Lib.hid c3a
  clear hba c3a
  subst hwa
  go_enter Tryz.func6, Tryz.ntmps6
  go_wp2_with fail
  refine OF.out.mono ?_
  rintro e w1 hof
  have RO1 := Lib.hid (RO_.out w1)
  clear OF RO_
  cases hp : parseL s.data.toList with
  | error an =>
    obtain ⟨a, n⟩ := an
    obtain ⟨b1, u, rfl, hf⟩ := hof.no hp
    obtain ⟨q, _, rfl, _⟩ := hf
    have hn0 := (parse_no hp).1
    have HP := Lib.hid hp
    have HB1 := Lib.hid b1
    clear hof hp b1
    go_wp2_with fail
    refine RO1.out.mono ?_
    rintro e w2 ⟨b2, h2⟩
    rw [HP.out] at h2
    subst h2
    have B2 : Below (w.alloc (.cells #[.slice none 0 0, .int .i64 0] 28)).heap.size (w.alloc (.cells #[.slice none 0 0, .int .i64 0] 28)) w2 := HB1.out.trans (b2.mono HB1.out.size)
    obtain ⟨w3, hw3⟩ : ∃ w3, w3 = (w2.alloc (.cells #[.slice none 0 0, .int .i64 0] 28)) := ⟨_, rfl⟩
    have cM : Cells w3 w2.heap.size 28 #[.slice none 0 0, .int .i64 0] := by rw [hw3]; exact Cells.new _ _ _
    have B3 : Below (w.alloc (.cells #[.slice none 0 0, .int .i64 0] 28)).heap.size (w.alloc (.cells #[.slice none 0 0, .int .i64 0] 28)) w3 := by rw [hw3]; exact B2.alloc B2.size _
    have c3 := cells_kept HC3.out B3 (by omega)
    have hz2 := B2.size
    have B3w : Below w.heap.size w w3 := HBA.out.trans (B3.mono HBA.out.size)
    have RE := Lib.hid ((c3.drew.set 0 (.slice none 0 0)).set 1 (.int .i64 0))
    have FIN : Hid (Below w.heap.size w ((w3.drew.setCell ⟨w.heap.size, 0, none⟩ (.slice none 0 0)).setCell ⟨w.heap.size, 1, none⟩ (.int .i64 0))) := (B3w.drew.setCell (p := ⟨w.heap.size, 0, none⟩) (Nat.le_refl _) _).setCell (p := ⟨w.heap.size, 1, none⟩) (Nat.le_refl _) _
    have HM := Lib.hid cM.drew
    have HR3 := Lib.hid c3.drew
    have hne : w2.heap.size ≠ w.heap.size := by omega
    clear B2 B3 c3 cM b2 RO1 HC3 HBA HB1 B3w
    subst hw3
    go_upto_region 3 with fail
    refine wp_region_any (by kernel_rfl) ?_
    refine region_liF _ (w2.alloc (.cells #[.slice none 0 0, .int .i64 0] 28)).drew w2.heap.size w.heap.size none 0 0 0 _ _ _ _ rfl rfl rfl rfl rfl rfl hne HM.out ⟨_, HR3.out, rfl⟩ ?_
    simp only [List.foldl, List.setIfInBounds_toArray, List.set_cons_zero, List.set_cons_succ]
    go_wp2_with fail
    refine bodyPost_ret (ret_t3 rfl _ _ w.heap.size _ rfl RE.out rfl) rfl ?_
    refine ⟨FIN.out, ?_⟩
    rw [HP.out]; rfl
  | ok its =>
  obtain ⟨b1, lb, ev, ps, rfl, hlb, hev, hla, hps⟩ := hof.yes hp
  have hlen : (fromL its).es.length <= 3000 /\ (fromL its).next <= 3001 := by
    have h1 := (parse_join hp).2.1
    rw [<- Lib.size_eq] at h1
    have h2 : (fromL its).es.length = its.length := from_len 1 its
    have h3 := (from_next 1 its).2
    have h4 : (fromL its).next = fromNext 1 its := rfl
    omega
  have CA : Carry w.heap.size w1 lb ev ps (fromL its) 3000 := by
    refine ⟨hla, hps, from_ok hp, fun e he => ?_, by omega, (fun b e => by have := hev b e; omega), hlen.1, hlen.2⟩
    have h1 := (parse_join hp).2.2
    have h2 : e.1 ∈ its := by rw [<- from_items 1 its]; exact List.mem_map_of_mem he
    obtain ⟨q1, q2⟩ := h1 _ h2
    rw [<- Lib.size_eq] at q2
    exact ⟨by omega, by omega⟩
  have HP := Lib.hid hp
  have HB1 := Lib.hid b1
  have HCA := Lib.hid CA
  have hev' := hev
  have hz1 := b1.size
  clear hof hp b1 hla hps hev CA hlen
  unfold ptr
  go_wp2_with fail
  refine RO1.out.mono ?_
  rintro e w2 ⟨b2, h2⟩
  rw [HP.out] at h2
  obtain ⟨v, qs, rfl, hq, hqe, hqv, hqb⟩ := h2
  obtain ⟨va, vc, rfl, _⟩ := hq.empty
  have B2 : Below (w.alloc (.cells #[.slice none 0 0, .int .i64 0] 28)).heap.size (w.alloc (.cells #[.slice none 0 0, .int .i64 0] 28)) w2 := HB1.out.trans (b2.mono HB1.out.size)
  obtain ⟨w3, hw3⟩ : ∃ w3, w3 = (w2.alloc (.cells #[.slice va qs.length vc, .int .i64 (fromL its).next] 28)) := ⟨_, rfl⟩
  have cM : Cells w3 w2.heap.size 28 #[.slice va qs.length vc, .int .i64 (fromL its).next] := by rw [hw3]; exact Cells.new _ _ _
  have B23 : Below w2.heap.size w2 w3 := by rw [hw3]; exact (Below.refl _ _).alloc (Nat.le_refl _) _
  have B3 : Below (w.alloc (.cells #[.slice none 0 0, .int .i64 0] 28)).heap.size (w.alloc (.cells #[.slice none 0 0, .int .i64 0] 28)) w3 := by rw [hw3]; exact B2.alloc B2.size _
  have c3 := cells_kept HC3.out B3 (by omega)
  have hz2 := B2.size
  have B3w : Below w.heap.size w w3 := HBA.out.trans (B3.mono HBA.out.size)
  have RE := Lib.hid ((c3.drew.set 0 (.slice va qs.length vc)).set 1 (.int .i64 (fromL its).next))
  have HM := Lib.hid cM.drew
  have HR3 := Lib.hid c3.drew
  have hne : w2.heap.size ≠ w.heap.size := by omega
  have o3 : Only (· = w.heap.size) w3 ((w3.drew.setCell ⟨w.heap.size, 0, none⟩ (.slice va qs.length vc)).setCell ⟨w.heap.size, 1, none⟩ (.int .i64 (fromL its).next)) := (((Only.refl (· = w.heap.size) w3).drew).cellS 0 _).cellS 1 _
  have hCA3 := (HCA.out.below b2 (Nat.le_refl _)).below B23 (Nat.le_refl _)
  have FIN : Hid (Below w.heap.size w ((w3.drew.setCell ⟨w.heap.size, 0, none⟩ (.slice va qs.length vc)).setCell ⟨w.heap.size, 1, none⟩ (.int .i64 (fromL its).next)) /\ ∃ lb' ev ps v qs', Ending.returned (.tuple #[.pointer (some ⟨lb, 0, none⟩), .agg #[.slice va qs.length vc, .int .i64 (fromL its).next], .bool true]) = .returned (.tuple #[ptr lb', .agg #[v, .int .i64 (fromL its).next], .bool true]) /\ Carry w.heap.size ((w3.drew.setCell ⟨w.heap.size, 0, none⟩ (.slice va qs.length vc)).setCell ⟨w.heap.size, 1, none⟩ (.int .i64 (fromL its).next)) lb' ev ps (fromL its) 3000 /\ EntsQ ((w3.drew.setCell ⟨w.heap.size, 0, none⟩ (.slice va qs.length vc)).setCell ⟨w.heap.size, 1, none⟩ (.int .i64 (fromL its).next)) v qs' /\ qs'.map Prod.fst = (fromL its).es) := by
    have hblk : ∀ r, BlkR lb ev ps (.slice none 0 0) [] r -> ¬ r = w.heap.size := by
      rintro r (e | e | e | ⟨p, hp, hne, hb⟩ | ⟨p, hp, _⟩) q
      . omega
      . have := hev' r e; omega
      . cases e
      . exact fld_not (hCA3.la.lr.ents.each p hp).1 hne hb (by rw [q]; exact c3) (by intro x hx; simp at hx; rcases hx with rfl | rfl <;> (intro s e; cases e))
      cases hp
    have hq3 : EntsQ w3 (.slice va qs.length vc) qs := hq.below B23 (Nat.le_refl _)
    refine ⟨(B3w.drew.setCell (p := ⟨w.heap.size, 0, none⟩) (Nat.le_refl _) _).setCell (p := ⟨w.heap.size, 1, none⟩) (Nat.le_refl _) _, lb, ev, ps, _, qs, rfl, hCA3.only o3 hblk, hq3.only o3 (fun b e => by have := hqv b e; omega) (fun p hp _ b e => by have := hqb p hp b e; omega), hqe⟩
  clear B2 B3 c3 cM b2 RO1 HC3 HBA HB1 B3w hq hqe hqv hqb B23 o3 HCA hCA3 hev'
  subst hw3
  go_upto_region 3 with fail
  refine wp_region_any (by kernel_rfl) ?_
  refine region_liT _ (w2.alloc (.cells #[.slice va qs.length vc, .int .i64 (fromL its).next] 28)).drew lb w2.heap.size w.heap.size va qs.length vc (fromL its).next _ rfl rfl rfl rfl rfl rfl hne HM.out ⟨_, HR3.out, rfl⟩ ?_
  simp only [List.foldl, List.setIfInBounds_toArray, List.set_cons_zero, List.set_cons_succ]
  go_wp2_with fail
  refine bodyPost_ret (ret_t3 rfl _ _ w.heap.size _ rfl RE.out rfl) rfl ?_
  refine ⟨FIN.out.1, ?_⟩
  rw [HP.out]; exact FIN.out.2
end Go.Proofs.YtfjklpgmnakcaaaGreatDoor
namespace Go.Proofs.YtfjklpgmnakcaaaGreatDoor
open Go.RowKit Go.Shelf
attribute [local go_sem] Oper.semAt_some
def edsA9 : List Ed := [⟨2, 1, []⟩, ⟨1, 1, [([65], [])]⟩]
theorem doA9 : doB ⟨[(⟨3, [65, 58, 32, 49, 10], [([65], [49])]⟩, 1)], 2⟩ edsA9 = (1, 7) := by decide +kernel
theorem okA9 : OkL ⟨[(⟨3, [65, 58, 32, 49, 10], [([65], [49])]⟩, 1)], 2⟩ := ⟨wfA7, by decide, by decide, by decide, by decide⟩
theorem alive9_any (w : World) (hg : ErrT w) : Calls Tryz.prog 4 #[] w fun e w' => e = .returned (.bool true) /\ Below w.heap.size w w' := by
  have OF := Lib.hid (of_any ⟨#[65, 58, 32, 49, 10]⟩ (by decide) w)
  have HG := Lib.hid hg
  clear hg
  go_enter Tryz.func4, Tryz.ntmps4
  go_wp2_with fail
  refine OF.out.mono ?_
  rintro e w1 hof
  obtain ⟨b1, lb, ev, ps, rfl, hlb, hev, hla, hps⟩ := hof.yes parseA7
  rw [fromA7] at hla hps
  dsimp only at hla hps
  obtain ⟨wa, hwa⟩ : ∃ wa, wa = (w1.alloc (.cells #[.string ⟨#[65]⟩, .string ⟨#[]⟩] 55)).alloc (.cells #[.int .i64 2, .int .i64 1, .slice none 0 0, .int .i64 1, .int .i64 1, .slice (some ⟨w1.heap.size, 0, none⟩) 1 1] 53) := ⟨_, rfl⟩
  have hba : Below w1.heap.size w1 wa := by rw [hwa]; exact ((Below.refl _ w1).alloc (Nat.le_refl _) _).alloc (by simp) _
  have hB : Below w.heap.size w wa := b1.trans (hba.mono b1.size)
  have cE : Cells wa (w1.heap.size + 1) 53 #[.int .i64 2, .int .i64 1, .slice none 0 0, .int .i64 1, .int .i64 1, .slice (some ⟨w1.heap.size, 0, none⟩) 1 1] := by
    rw [hwa]
    have := Cells.new (w1.alloc (.cells #[.string ⟨#[65]⟩, .string ⟨#[]⟩] 55)) 53 #[.int .i64 2, .int .i64 1, .slice none 0 0, .int .i64 1, .int .i64 1, .slice (some ⟨w1.heap.size, 0, none⟩) 1 1]
    simpa using this
  have hfs : wa.ownsRow w1.heap.size 55 2 (sl w1.heap.size 1 1) 1 (cellsF [([65], [])]) := by
    refine ⟨rfl, .inr ⟨w1.heap.size, 1, _, rfl, Nat.le_refl _, by rw [hwa]; exact (Cells.new w1 _ _).alloc _, Nat.le_refl _, by decide, rfl, rfl⟩⟩
  have hV : EdV wa (.slice (some ⟨w1.heap.size + 1, 0, none⟩) 2 2) edsA9 := by
    refine ⟨_, 2, rfl, Nat.le_refl _, fun i ed hi => ?_⟩
    have hlt : w1.heap.size + 1 < wa.heap.size := cE.lt
    match i, hi with
    | 0, hi =>
      simp [edsA9] at hi; subst hi
      exact ⟨_, 0, .slice none 0 0, rfl, hlt, by rw [cE.cell]; rfl, by rw [cE.cell]; rfl, by rw [cE.cell]; rfl, ⟨none, 0, rfl, Nat.le_refl _, fun i f h => by simp at h⟩, fun n c h => by cases h; rfl⟩
    | 1, hi =>
      simp [edsA9] at hi; subst hi
      exact ⟨_, 0, sl w1.heap.size 1 1, rfl, hlt, by rw [cE.cell]; rfl, by rw [cE.cell]; rfl, by rw [cE.cell]; rfl, FldR.own hfs⟩
    | i + 2, hi => simp [edsA9] at hi
  have C : Carry w.heap.size wa lb ev ps ⟨[(⟨3, [65, 58, 32, 49, 10], [([65], [49])]⟩, 1)], 2⟩ 10 := by
    refine ⟨hla.below hba (Nat.le_refl _), hps, okA9, fun e he => ?_, hlb, hev, by decide, by decide⟩
    rw [List.mem_singleton.1 he]; decide
  have DO := Do_any edsA9 _ hV (by decide) (fun ed he => by
      rcases List.mem_cons.1 he with rfl | he
      . exact ⟨by decide, fun f hf => by cases hf⟩
      . rw [List.mem_singleton.1 he]; exact ⟨by decide, fun f hf => by rw [List.mem_singleton.1 hf]; decide⟩) (fun ed he => by
      rcases List.mem_cons.1 he with rfl | he
      . decide
      rw [List.mem_singleton.1 he]; decide) (HG.out.below hB (Nat.le_refl _)) C (by decide)
  have LN : Hid (∀ W, Below wa.heap.size wa W -> Calls Tryz.prog 18 #[ptr lb] W fun e w' => e = .returned (.int .i64 1) /\ Below W.heap.size W w') := by
    intro W hW
    have := len_R lb ev ps 2 W ((hla.below hba (Nat.le_refl _)).lr.below hW (Nat.le_refl _)) (by rw [hps]; exact wfA7) (by have := congrArg List.length hps; simp at this; omega)
    rw [hps] at this
    exact this
  have HDO := Lib.hid DO
  have HB := Lib.hid hB
  clear DO hB hV C hfs cE hba hps hla hof b1 OF
  unfold ptr at HDO LN
  unfold ptr
  subst hwa
  go_wp2_with fail
  refine HDO.out.mono ?_
  rintro e w2 ⟨b2, ⟨h0, u, rfl, hz⟩ | ⟨h1, _⟩⟩
  rotate_left
  . rw [doA9] at h1; cases h1
  rw [doA9] at hz
  have LN2 := Lib.hid (LN.out w2 b2)
  have B2 := Lib.hid (HB.out.trans (b2.mono HB.out.size))
  have NU := Lib.hid (num_z hz)
  have AT := Lib.hid (at_z hz)
  have IS : Hid (Calls Tryz.prog 17 #[u, .int .i64 7] w2 fun e w' => e = .returned (.bool true) /\ w2 = w') := by
    show Calls _ _ _ _ _
    go_enter Tryz.func17, Tryz.ntmps17
    go_wp2_with fail
    refine NU.out.mono ?_
    rintro e w' ⟨rfl, rfl⟩
    go_wp2_with fail
    go_ret
    exact ⟨rfl, rfl⟩
  clear hz b2 HDO LN NU h0
  go_wp2_with fail
  refine IS.out.mono ?_
  rintro e w' ⟨rfl, rfl⟩
  go_wp2_with fail
  refine AT.out.mono ?_
  rintro e w' ⟨rfl, rfl⟩
  go_wp2_with fail
  refine LN2.out.mono ?_
  rintro e w4 ⟨rfl, b4⟩
  have B4 := Lib.hid (B2.out.trans (b4.mono B2.out.size))
  clear LN2 b4
  go_wp2_with fail
  go_ret
  exact ⟨rfl, B4.out⟩
end Go.Proofs.YtfjklpgmnakcaaaGreatDoor
namespace Go.Proofs.YtfjklpgmnakcaaaGreatDoor
open Go.RowKit Go.Shelf
attribute [local go_sem] Oper.semAt_some
theorem err_form {lo : Nat} {w : World} {u : Value} {a : Int} {n : Nat} (h : ErrZ lo w u a n) (hn : n ≠ 0) : (∃ z, u = .iface 57 (.int .i64 z)) \/ ∃ q, u = .iface 73 (.pointer (some ⟨q, 0, none⟩)) := by
  obtain ⟨_, ⟨rfl, _⟩ | ⟨_, ⟨q, _, rfl, _⟩, _, _⟩⟩ := h
  . rw [errV_pos _ (by omega)]; exact .inl ⟨_, rfl⟩
  exact .inr ⟨q, rfl⟩
end Go.Proofs.YtfjklpgmnakcaaaGreatDoor
namespace Go.Proofs.YtfjklpgmnakcaaaGreatDoor
open Go.RowKit Go.Shelf
attribute [local go_sem] Oper.semAt_some
def BackR (w w' : World) (l : LS) (eds : List Ed) (e : Ending) : Prop :=
  Below w.heap.size w w' /\
  (((doB l eds).2 ≠ 0 /\ ∃ u, e = .returned (.tuple #[.slice none 0 0, u]) /\ ErrZ w.heap.size w' u (doB l eds).1 (doB l eds).2) \/
  (doB l eds = (-9, 0) /\ chkB eds = (-9, 0) /\ okOn l eds /\ ∃ u, e = .returned (.tuple #[u, .nilIface]) /\ EdV w' u (backB l eds)))
theorem goodE_kinds {eds : List Ed} (h : chkB eds = (-9, 0)) : ∀ ed ∈ eds, ed.kind = 1 \/ ed.kind = 2 \/ ed.kind = 3 := by
  intro ed hm
  have hg := (chkB_good (by rw [h])).2 ed hm
  unfold goodE at hg
  by_cases h1 : ed.kind = 1 \/ ed.kind = 3
  . rcases h1 with h | h
    . exact .inl h
    exact .inr (.inr h)
  by_cases h2 : ed.kind = 2
  . exact .inr (.inl h2)
  simp [h1, h2] at hg
theorem outC_row (os : List (Ed × Value)) : os.flatMap outC = edRow (os.map Prod.fst) (os.map Prod.snd) := by
  induction os with
  | nil => rfl
  | cons o os ih =>
  show outC o ++ os.flatMap outC = _
  rw [ih]
  rfl
theorem aheadZ_mem (rs : List (Int × List Fld)) (id : Int) : aheadZ rs id = 0 \/ aheadZ rs id ∈ rs.map Prod.fst := by
  unfold aheadZ
  split
  . rename_i k _
    cases h : rs[k]? with
    | none => left; simp
    | some s => right; simp; exact ⟨s.2, List.mem_of_getElem? h⟩
  exact .inl rfl
theorem wf_small {n : Int} (h1 : -1000000 <= n) (h2 : n <= 1000000) : (Lit.int .i64 n).wf = true := by
  simp [Lit.wf, IntKind.min, IntKind.max, IntKind.signed, IntKind.bits]; omega
theorem outC_len (os : List (Ed × Value)) : (os.flatMap outC).length = os.length * 3 := by
  induction os with
  | nil => rfl
  | cons o os ih => show (outC o ++ os.flatMap outC).length = _; rw [List.length_append, ih]; simp [outC]; omega
theorem step_ok {l : LS} {eds : List Ed} {N i m : Nat} {W : World} {c : StC} {ed : Ed} (ok : StOk l eds N W i c ed) (hl : eds.length <= 51) (okl : OkL l) (hnx : l.next <= m + 1) (hm : m <= 5000) (hids : ∀ ed ∈ eds, (Lit.int .i64 ed.id).wf = true) (hk : ∀ ed ∈ eds, ed.kind = 1 \/ ed.kind = 2 \/ ed.kind = 3) : StepOk (st6 c) := by
  have hmem := List.mem_of_getElem? ok.at_
  have okl' := okl.on (eds.take i)
  have hn := on_len l (eds.take i)
  have hp := okl'.pos
  have htl : (eds.take i).length <= 51 := by rw [List.length_take]; omega
  refine ⟨by show c.k = 1 \/ c.k = 2 \/ c.k = 3; rw [ok.k]; exact hk ed hmem, by show (Lit.int .i64 c.i).wf = true; rw [ok.id_]; exact hids ed hmem, ?_, ?_, ok.form.1, by obtain ⟨A, m, e⟩ := ok.form.2; exact ⟨A, _, m, e⟩⟩
  . show (Lit.int .i64 c.ah).wf = true
    rw [ok.ah]
    unfold stepAhead
    split
    . rcases aheadZ_mem (szE (lsOn l (eds.take i)).es) ed.id with h | h
      . rw [h]; decide
      rw [szE_nums] at h
      have h1 := okl'.lt _ h
      have h2 : 0 < aheadZ (szE (lsOn l (eds.take i)).es) ed.id := by unfold nums at h; simpa using (List.mem_filter.1 h).2
      exact wf_small (by omega) (by omega)
    decide
  show (Lit.int .i64 c.gv).wf = true
  rw [ok.gv]
  unfold stepGiven
  split
  . exact wf_small (by omega) (by omega)
  decide
theorem Back_any {S00 : Nat} {w : World} (eds : List Ed) (v : Value) (hv : EdV w v eds) (hl : eds.length <= 51) (hf : Fines eds) (hsm : Smalls eds) (hg : ErrT w) (hids : ∀ ed ∈ eds, (Lit.int .i64 ed.id).wf = true)
    {lb0 : Nat} {ev0 : Value} {ps0 : List Pr} {l : LS} {m : Nat} (C : Carry S00 w lb0 ev0 ps0 l m) (hm : m <= 5000) :
    Calls Tryz.prog 7 #[ptr lb0, v] w fun e w' => BackR w w' l eds e := by
  obtain ⟨w1, hw1⟩ : ∃ z, w.alloc (.cells #[.slice none 0 0] 62) = z := ⟨_, rfl⟩
  have hb1 : Below w.heap.size w w1 := by rw [<- hw1]; exact (Below.refl _ _).alloc (Nat.le_refl _) _
  have C1 : Cells w1 w.heap.size 62 #[.slice none 0 0] := by rw [<- hw1]; exact Cells.new _ _ _
  have P0 : StepsD w.heap.size w.heap.size l eds 0 w1 (zOf w.heap.size (.slice none 0 0) []) :=
    ⟨.slice none 0 0, [], rfl, rfl, Nat.le_refl _, C1, ⟨rfl, .inl ⟨rfl, rfl⟩⟩, (fun i c h => by simp at h), fun c h => by cases h⟩
  have PL := Lib.hid (play_any hb1 eds v hv hl hf hsm hg (C.below hb1 (Nat.le_refl _)) hm (shows_steps (N1 := w1.heap.size) (sb := w.heap.size) (N := w.heap.size) (l0 := l) (eds := eds) (Nat.le_refl _) (by omega)) P0)
  obtain ⟨A, cap, rfl, _⟩ := hv
  have HW1 := Lib.hid hw1
  have HB1 := Lib.hid hb1
  have OKL := C.ok
  have HNX := C.nx
  unfold ptr at *
  clear hf hsm hg C C1 P0 hw1 hb1
  go_enter Tryz.func7, Tryz.ntmps7
  go_wp2_with fail
  rw [HW1.out]
  refine PL.out.mono ?_
  rintro e w2 ⟨b2, hs2, ⟨h0, u, rfl, hz⟩ | ⟨h1, h2, h3, lb, ev, ps, gv, Z, rfl, hC, hP, hK, hown⟩⟩
  . have R : Hid (BackR w w2 l eds (.returned (.tuple #[.slice none 0 0, u]))) := ⟨b2, .inl ⟨h0, u, rfl, hz.mono HB1.out.size⟩⟩
    rcases err_form hz h0 with ⟨z, rfl⟩ | ⟨q, rfl⟩
    all_goals
      clear hz b2 PL
      go_wp2_with fail
      go_ret2
      exact R.out
  obtain ⟨sv, cs, rfl, hcl, _, hc, ho, he, _⟩ := hP
  have hkk := goodE_kinds h2
  have hon := on_len l eds
  have hpos := (OKL.on eds).pos
  have hok6 : ∀ c ∈ cs.map st6, StepOk c := by
    intro c hcm
    obtain ⟨d, hd, rfl⟩ := List.mem_map.1 hcm
    obtain ⟨i, hi⟩ := List.getElem?_of_mem hd
    obtain ⟨ed, ok⟩ := he i d hi
    exact step_ok ok hl OKL HNX hm hids hkk
  obtain ⟨sa, sc, rfl, _⟩ := own_slice ho
  have hl6 : (cs.map st6).length = eds.length := by rw [List.length_map, hcl]
  have WB0 := fun (W : World) (hb : Below w2.heap.size w2 W) => wayback_any (cs.map st6) (.slice sa eds.length sc) (lsOn l eds).next w.heap.size W (by omega) (by rw [hl6, <- stRow_6]; exact row_below ho hb (Nat.le_refl _)) hok6 (by omega) (by omega)
  rw [hl6] at WB0
  have WB := Lib.hid WB0
  clear WB0
  have NX := Lib.hid (fun (W : World) (hb : Below w2.heap.size w2 W) => next_any lb ev ps (lsOn l eds).next W (hC.la.lr.below hb (Nat.le_refl _)) (by omega))
  have FIN : Hid (∀ (u : Value) (W w' : World), Below w2.heap.size w2 W -> W = w2.drew -> w'.ownsRow W.heap.size 53 3 u eds.length (wsAll (lsOn l eds).next (bkL (cs.map st6))).out -> Below W.heap.size W w' -> BackR w w' l eds (.returned (.tuple #[u, .nilIface]))) := by
    intro u W w' hbW _ hr hb'
    have hbw : Below w2.heap.size w2 w' := hbW.trans (hb'.mono hbW.size)
    refine ⟨b2.trans (hbw.mono b2.size), .inr ⟨h1, h2, h3, u, rfl, ?_⟩⟩
    obtain ⟨os, ht⟩ := tie_all (W := w') (N := w.heap.size) hcl (fun i c hi => by obtain ⟨ed, ok⟩ := he i c hi; exact ⟨ed, ok.at_, ok.k, ok.id_, ok.ah, ok.gv, ok.fs, ok.flds.below hbw (Nat.le_refl _), ok.low, ok.form⟩) hkk eds.length (Nat.le_refl _)
    rw [List.take_of_length_le (by rw [bkL_len]; omega)] at ht
    rw [ht.out, outC_row, ht.eds] at hr
    have hlen : os.length = eds.length := by
      have h9 := hr.1
      rw [<- ht.eds, <- outC_row, outC_len] at h9
      omega
    have hbo : (backB l eds).length = eds.length := by unfold backB; rw [<- ht.eds, List.length_map, hlen]
    refine edv_row (fvs := os.map Prod.snd) (by rw [hbo]; exact hr) (by rw [List.length_map, hlen, hbo]) ?_
    intro i ed fv hi hf
    have hi' : (os.map Prod.fst)[i]? = some ed := by rw [ht.eds]; exact hi
    rw [List.getElem?_map] at hi' hf
    cases hoi : os[i]? with
    | none => rw [hoi] at hi'; cases hi'
    | some o =>
    rw [hoi] at hi' hf
    obtain rfl := Option.some.inj hi'
    obtain rfl := Option.some.inj hf
    exact ht.flds o (List.mem_of_getElem? hoi)
  have c6 : w2.cell? ⟨w.heap.size, 0, none⟩ = some (.slice sa eds.length sc) := hc.cell 0
  unfold ptr at *
  clear PL b2 hs2 h1 h2 h3 hC hK hown hc ho he hkk hok6 hids OKL
  go_wp2_with fail
  go_region_law (first
    | (go_simp; go_at_call 25; refine (NX.out _ (Below.refl _ _).drew).mono ?_; rintro e w5 ⟨rfl, rfl⟩)
    | (go_simp; go_at_call 24; refine (WB.out _ (Below.refl _ _).drew).mono ?_; rintro e w6 ⟨u, rfl, hr6, hb6⟩; obtain ⟨ua, uc, rfl, _⟩ := own_slice hr6; have R6 := Lib.hid (FIN.out _ _ w6 (Below.refl _ _).drew rfl hr6 hb6); clear hr6 hb6))
  all_goals go_wp2_with fail
  all_goals
    go_ret2
    exact R6.out
end Go.Proofs.YtfjklpgmnakcaaaGreatDoor
namespace Go.Proofs.YtfjklpgmnakcaaaGreatDoor
open Go.Lib
def I64 (n : Int) : Prop := -9223372036854775808 <= n /\ n <= 9223372036854775807
end Go.Proofs.YtfjklpgmnakcaaaGreatDoor
