/- Texts put together: EU, ET. -/
import Derived.Test.YtflnlenkgbphpaaGreatDoorBaf1
import Derived.Test.YtflnlenkgbphpaaGreatDoorBaf2
import Derived.Test.YtflnlenkgbphpaaGreatDoorBaf3
import Derived.Test.YtflnlenkgbphpaaGreatDoorBaf4
import Derived.Test.YtflnlenkgbphpaaGreatDoorBaf5
import Derived.Test.YtflnlenkgbphpaaGreatDoorBaf6
import Derived.Test.YtflnlenkgbphpaaGreatDoorBaf7
import Derived.Test.YtflnlenkgbphpaaGreatDoorBaf8
import Derived.Test.YtflnlenkgbphpaaGreatDoorBaf9
import Derived.Test.YtflnlenkgbphpaaGreatDoorBaf10
import Derived.Test.YtflnlenkgbphpaaGreatDoorBaf11
import Derived.Test.YtflnlenkgbphpaaGreatDoorBaf12
import Derived.Test.YtflnlenkgbphpaaGreatDoorBaf13
import Derived.Test.YtflnlenkgbphpaaGreatDoorBaf14
import Derived.Test.YtflnlenkgbphpaaGreatDoorBaf15
import Derived.Test.YtflnlenkgbphpaaGreatDoorBaf16
import Derived.Test.YtflnlenkgbphpaaGreatDoorBaf17
import Derived.Test.YtflnlenkgbphpaaGreatDoorBaf18
import Derived.Test.YtflnlenkgbphpaaGreatDoorBaf19
import Derived.Test.YtflnlenkgbphpaaGreatDoorBag1
import Derived.Test.YtflnlenkgbphpaaGreatDoorBag2
import Derived.Test.YtflnlenkgbphpaaGreatDoorBag5
import Derived.Test.YtflnlenkgbphpaaGreatDoorBag6
import Derived.Test.YtflnlenkgbphpaaGreatDoorBag7
import Derived.Test.YtflnlenkgbphpaaGreatDoorBag8
import Derived.Test.YtflnlenkgbphpaaGreatDoorBag9
import Derived.Test.YtflnlenkgbphpaaGreatDoorBag11
import Derived.Test.YtflnlenkgbphpaaGreatDoorBag12
import Derived.Test.YtflnlenkgbphpaaGreatDoorBag13
import Derived.Test.YtflnlenkgbphpaaGreatDoorBag14
import Derived.Test.YtflnlenkgbphpaaGreatDoorBag15
set_option linter.unusedVariables false
namespace Go.Proofs.YtflnlenkgbphpaaGreatDoor
open Go.RowKit Go.Shelf
attribute [local go_sem] Oper.semAt_some

theorem wantU {ops : Array Oper} {o : Oper} {a : Act} {i d : Nat} {b : Bool} (hg : o.guard = some (i, b)) (hd : ((ops[i]?).bind (·.dst)) = some d) (h : a.tmps[d]? = some (.bool (!b))) : Region.wanted o (yielded ops a.tmps) = false := by
  have hy : yielded ops a.tmps i = some (!b) := by
    unfold yielded
    rw [hd]
    simp [h]
  unfold Region.wanted
  rw [hg]
  simp [hy]
section
variable {o : Oper} {a : Act} {w : World} {K : Act → World → Prop} {Q : Exit → Act → World → Prop}
theorem op_nilE {x : Operand} (ho : o.op = Op.binOp BinOp.eql 27 x (Operand.const Value.nilIface) 27) (hx : a.eval x = .nilIface) (hK : K (a.put o.dst (.bool true)) w) : Oper.wp Tryz.prog o a w K Q := by
  refine mo_run ?_ hK
  have hc : a.eval (Operand.const Value.nilIface) = Value.nilIface := rfl
  generalize a.eval = ρ at hx hc ⊢
  simp only [execOp, ho, hx]
  simp [go_sem, Result.andThen, hc, eqGuard]
theorem op_notnilE {x : Operand} {T : TypeId} {p : Option Addr} (ho : o.op = Op.binOp BinOp.eql 27 x (Operand.const Value.nilIface) 27) (hx : a.eval x = .iface T (.pointer p)) (hK : K (a.put o.dst (.bool false)) w) : Oper.wp Tryz.prog o a w K Q := by
  refine mo_run ?_ hK
  have hc : a.eval (Operand.const Value.nilIface) = Value.nilIface := rfl
  generalize a.eval = ρ at hx hc ⊢
  simp only [execOp, ho, hx]
  simp [go_sem, Result.andThen, hc, eqGuard]
theorem op_ptrL {x : Operand} {p : Addr} (ho : o.op = Op.binOp BinOp.neq 40 x (Operand.const (Value.pointer none)) 40) (hx : a.eval x = .pointer (some p)) (hK : K (a.put o.dst (.bool true)) w) : Oper.wp Tryz.prog o a w K Q := by
  refine mo_run ?_ hK
  have hc : a.eval (Operand.const (Value.pointer none)) = Value.pointer none := rfl
  generalize a.eval = ρ at hx hc ⊢
  simp only [execOp, ho, hx]
  simp [go_sem, Result.andThen, hc]
end

def ops_liT : Array Oper := #[
  { dst := some 21, op := Op.move (Operand.tmp 5), type := 40, pos := "law.go:27", after := #[], guard := none },
  { dst := some 22, op := Op.load 43 (Operand.tmp 7), type := 43, pos := "law.go:27", after := #[{ on := 12, ground := Ground.gcOnly Departure.lateStores }], guard := none },
  { dst := some 23, op := Op.move (Operand.tmp 6), type := 27, pos := "law.go:27", after := #[], guard := none },
  { dst := some 24, op := Op.binOp BinOp.eql 27 (Operand.tmp 23) (Operand.const Value.nilIface) 27, type := 4, pos := "law.go:27", after := #[{ on := 2, ground := Ground.data }], guard := none },
  { dst := some 25, op := Op.move (Operand.tmp 24), type := 4, pos := "law.go:27", after := #[{ on := 3, ground := Ground.data }], guard := none },
  { dst := some 26, op := Op.move (Operand.tmp 5), type := 40, pos := "law.go:27", after := #[{ on := 4, ground := Ground.guard }], guard := some (4, true) },
  { dst := some 27, op := Op.binOp BinOp.neq 40 (Operand.tmp 26) (Operand.const (Value.pointer none)) 40, type := 4, pos := "law.go:27", after := #[{ on := 5, ground := Ground.data }, { on := 4, ground := Ground.guard }], guard := some (4, true) },
  { dst := some 28, op := Op.pick (Operand.tmp 25) (Operand.tmp 27) (Operand.const (Value.bool false)), type := 4, pos := "law.go:27", after := #[{ on := 4, ground := Ground.data }, { on := 6, ground := Ground.data }], guard := none },
  { dst := some 29, op := Op.move (Operand.tmp 28), type := 4, pos := "law.go:27", after := #[{ on := 7, ground := Ground.data }, { on := 4, ground := Ground.chain }], guard := none },
  { dst := some 30, op := Op.move (Operand.tmp 9), type := 3, pos := "law.go:27", after := #[{ on := 8, ground := Ground.guard }, { on := 13, ground := Ground.gcOnly Departure.lateStores }], guard := some (8, true) },
  { dst := some 31, op := Op.binOp BinOp.eql 3 (Operand.tmp 30) (Operand.const (Value.int IntKind.i64 0)) 3, type := 4, pos := "law.go:27", after := #[{ on := 9, ground := Ground.data }, { on := 8, ground := Ground.guard }, { on := 13, ground := Ground.gcOnly Departure.lateStores }], guard := some (8, true) },
  { dst := some 32, op := Op.pick (Operand.tmp 29) (Operand.tmp 31) (Operand.const (Value.bool false)), type := 4, pos := "law.go:27", after := #[{ on := 8, ground := Ground.data }, { on := 10, ground := Ground.data }, { on := 13, ground := Ground.gcOnly Departure.lateStores }], guard := none },
  { dst := some 2, op := Op.assign (Operand.tmp 21), type := 40, pos := "law.go:27", after := #[{ on := 0, ground := Ground.data }, { on := 8, ground := Ground.chain }, { on := 0, ground := Ground.phase }, { on := 1, ground := Ground.textOnly Departure.lateStores }, { on := 2, ground := Ground.textOnly Departure.lateStores }, { on := 3, ground := Ground.textOnly Departure.lateStores }, { on := 4, ground := Ground.textOnly Departure.lateStores }, { on := 5, ground := Ground.textOnly Departure.lateStores }, { on := 6, ground := Ground.textOnly Departure.lateStores }, { on := 7, ground := Ground.textOnly Departure.lateStores }, { on := 8, ground := Ground.textOnly Departure.lateStores }, { on := 9, ground := Ground.textOnly Departure.lateStores }, { on := 10, ground := Ground.textOnly Departure.lateStores }, { on := 11, ground := Ground.textOnly Departure.lateStores }], guard := none },
  { dst := none, op := Op.store 43 (Operand.tmp 3) (Operand.tmp 22), type := 0, pos := "law.go:27", after := #[{ on := 1, ground := Ground.data }, { on := 12, ground := Ground.chain }, { on := 0, ground := Ground.phase }, { on := 1, ground := Ground.phase }, { on := 2, ground := Ground.textOnly Departure.lateStores }, { on := 3, ground := Ground.textOnly Departure.lateStores }, { on := 4, ground := Ground.textOnly Departure.lateStores }, { on := 5, ground := Ground.textOnly Departure.lateStores }, { on := 6, ground := Ground.textOnly Departure.lateStores }, { on := 7, ground := Ground.textOnly Departure.lateStores }, { on := 8, ground := Ground.textOnly Departure.lateStores }, { on := 9, ground := Ground.textOnly Departure.lateStores }, { on := 10, ground := Ground.textOnly Departure.lateStores }, { on := 11, ground := Ground.textOnly Departure.lateStores }, { on := 12, ground := Ground.phase }], guard := none },
  { dst := some 4, op := Op.assign (Operand.tmp 32), type := 4, pos := "law.go:27", after := #[{ on := 11, ground := Ground.data }, { on := 13, ground := Ground.chain }, { on := 0, ground := Ground.phase }, { on := 1, ground := Ground.phase }, { on := 2, ground := Ground.phase }, { on := 3, ground := Ground.phase }, { on := 4, ground := Ground.phase }, { on := 5, ground := Ground.phase }, { on := 6, ground := Ground.phase }, { on := 7, ground := Ground.phase }, { on := 8, ground := Ground.phase }, { on := 9, ground := Ground.phase }, { on := 10, ground := Ground.phase }, { on := 11, ground := Ground.phase }, { on := 12, ground := Ground.phase }, { on := 13, ground := Ground.phase }], guard := none }]
def dst_liT (i : Nat) : Option Nat := (ops_liT[i]?).bind (·.dst)
theorem inj_liT : ∀ i, i < 15 → ∀ k, k < 15 → dst_liT i ≠ none → dst_liT i = dst_liT k → i = k := by decide +kernel
theorem lt_liT : ∀ i, i < 15 → (dst_liT i).getD 0 < 33 := by decide +kernel
theorem low_liT : ∀ i : Fin 15, ∀ e ∈ (ops_liT[i.1]'(by exact i.2)).after, Region.binds .any e = true → e.on < i.1 := by decide +kernel
def val_liT (lb mb rb : Nat) (fa : Option Addr) (fn fc : Nat) (nx : Int) : List Value := [.pointer (some ⟨lb, 0, none⟩), .agg #[.slice fa fn fc, .int .i64 nx], .nilIface, .bool true, .bool true, .pointer (some ⟨lb, 0, none⟩), .bool true, .bool true, .bool true, .int .i64 0, .bool true, .bool true, .pointer (some ⟨lb, 0, none⟩), undef, .bool true]
set_option maxRecDepth 100000 in
set_option maxHeartbeats 4000000 in
theorem region_liT (a0 : Act) (w0 : World) (lb mb rb : Nat) (fa : Option Addr) (fn fc : Nat) (nx : Int) (Q : Exit → Act → World → Prop)
    (hsz : a0.tmps.size = 33) (h5 : a0.tmps[5]? = some (.pointer (some ⟨lb, 0, none⟩))) (h6 : a0.tmps[6]? = some (.nilIface)) (h7 : a0.tmps[7]? = some (.pointer (some ⟨mb, 0, none⟩))) (h9 : a0.tmps[9]? = some (.int .i64 0)) (h3 : a0.tmps[3]? = some (.pointer (some ⟨rb, 0, none⟩)))
    (hne : mb ≠ rb) (hM : Cells w0 mb 43 #[.slice fa fn fc, .int .i64 nx]) (hR : ∃ cur, Cells w0 rb 43 cur ∧ cur.size = 2)
    
    (hQ : Q .normal { a0 with tmps := [(21, .pointer (some ⟨lb, 0, none⟩)), (22, .agg #[.slice fa fn fc, .int .i64 nx]), (23, .nilIface), (24, .bool true), (25, .bool true), (26, .pointer (some ⟨lb, 0, none⟩)), (27, .bool true), (28, .bool true), (29, .bool true), (30, .int .i64 0), (31, .bool true), (32, .bool true), (2, .pointer (some ⟨lb, 0, none⟩)), (4, .bool true)].foldl (fun u p => u.setIfInBounds p.1 p.2) a0.tmps } ((w0.setCell ⟨rb, 0, none⟩ (.slice fa fn fc)).setCell ⟨rb, 1, none⟩ (.int .i64 nx))) :
    wpAny Tryz.prog .any ops_liT Q ops_liT.size (Array.replicate ops_liT.size false) a0 w0 := by
  obtain ⟨W, hW⟩ : ∃ W : Bool → World, W = fun b => if b = true then (w0.setCell ⟨rb, 0, none⟩ (.slice fa fn fc)).setCell ⟨rb, 1, none⟩ (.int .i64 nx) else w0 := ⟨_, rfl⟩
  have W0 : W false = w0 := by rw [hW]; rfl
  have W1 : W true = (w0.setCell ⟨rb, 0, none⟩ (.slice fa fn fc)).setCell ⟨rb, 1, none⟩ (.int .i64 nx) := by rw [hW]; rfl
  have MC : ∀ b, Cells (W b) mb 43 #[.slice fa fn fc, .int .i64 nx] := fun b => by
    cases b with
    | false => rw [W0]; exact hM
    | true => rw [W1]; exact (hM.other (p := ⟨rb, 0, none⟩) hne _).other (p := ⟨rb, 1, none⟩) hne _
  have R := wpAny_table (P := Tryz.prog) (ops := ops_liT) (Q := Q) a0 dst_liT (fun i => ((val_liT lb mb rb fa fn fc nx)[i]?).getD undef) 13 W
    (fun i o ho => by unfold dst_liT; rw [ho]; rfl)
    (fun i k d hi hk h1 h2 => inj_liT i hi k hk (by rw [h1]; intro q; cases q) (by rw [h1, h2]))
    (fun i d hi h => by have := lt_liT i hi; rw [h] at this; rw [hsz]; exact this)
    (fun i o e ho he hb => by
      obtain ⟨hi, rfl⟩ := Array.getElem?_eq_some_iff.1 ho
      exact low_liT ⟨i, hi⟩ e he hb)
    ?step ?fin (by decide)
  · rw [W0] at R; exact R
  case fin =>
    intro a hd hs hf hv
    rw [W1]
    rw [act_set' (a := a) (a0 := a0) [(21, .pointer (some ⟨lb, 0, none⟩)), (22, .agg #[.slice fa fn fc, .int .i64 nx]), (23, .nilIface), (24, .bool true), (25, .bool true), (26, .pointer (some ⟨lb, 0, none⟩)), (27, .bool true), (28, .bool true), (29, .bool true), (30, .int .i64 0), (31, .bool true), (32, .bool true), (2, .pointer (some ⟨lb, 0, none⟩)), (4, .bool true)] hd hs (by
      intro p hp
      simp only [List.mem_cons, List.not_mem_nil, or_false] at hp
      rcases hp with rfl | rfl | rfl | rfl | rfl | rfl | rfl | rfl | rfl | rfl | rfl | rfl | rfl | rfl
      · exact hv 0 21 (by decide) rfl
      · exact hv 1 22 (by decide) rfl
      · exact hv 2 23 (by decide) rfl
      · exact hv 3 24 (by decide) rfl
      · exact hv 4 25 (by decide) rfl
      · exact hv 5 26 (by decide) rfl
      · exact hv 6 27 (by decide) rfl
      · exact hv 7 28 (by decide) rfl
      · exact hv 8 29 (by decide) rfl
      · exact hv 9 30 (by decide) rfl
      · exact hv 10 31 (by decide) rfl
      · exact hv 11 32 (by decide) rfl
      · exact hv 12 2 (by decide) rfl
      · exact hv 14 4 (by decide) rfl
      ) (fun j hj => hf j (fun k hk q => hj (by
        have : ∀ k, k < 15 → (dst_liT k).all (fun d => [21, 22, 23, 24, 25, 26, 27, 28, 29, 30, 31, 32, 2, 4].contains d) = true := by decide +kernel
        have h1 := this k hk
        rw [q] at h1
        simpa using h1)))]
    exact hQ
  case step =>
    intro i o a b ho hs hf dep hib
    have hi : i < 15 := (Array.getElem?_eq_some_iff.1 ho).1
    have e5 := evT ((hf 5 (by decide +kernel)).trans h5)
    have e6 := evT ((hf 6 (by decide +kernel)).trans h6)
    have e7 := evT ((hf 7 (by decide +kernel)).trans h7)
    have e9 := evT ((hf 9 (by decide +kernel)).trans h9)
    have e3 := evT ((hf 3 (by decide +kernel)).trans h3)
    rcases (by omega : i = 0 ∨ i = 1 ∨ i = 2 ∨ i = 3 ∨ i = 4 ∨ i = 5 ∨ i = 6 ∨ i = 7 ∨ i = 8 ∨ i = 9 ∨ i = 10 ∨ i = 11 ∨ i = 12 ∨ i = 13 ∨ i = 14) with rfl | rfl | rfl | rfl | rfl | rfl | rfl | rfl | rfl | rfl | rfl | rfl | rfl | rfl | rfl
    · have ho2 : some _ = some o := ho
      obtain rfl := Option.some.inj ho2
      exact .inl ⟨wantN rfl, fun K hK => op_move rfl e5 hK⟩
    · have ho2 : some _ = some o := ho
      obtain rfl := Option.some.inj ho2
      exact .inl ⟨wantN rfl, fun K hK => op_load2 rfl e7 ((MC b).cell 0) ((MC b).cell 1) hK⟩
    · have ho2 : some _ = some o := ho
      obtain rfl := Option.some.inj ho2
      exact .inl ⟨wantN rfl, fun K hK => op_move rfl e6 hK⟩
    · have ho2 : some _ = some o := ho
      obtain rfl := Option.some.inj ho2
      have hv2 : a.tmps[23]? = some (.nilIface) := dep ⟨2, Ground.data⟩ (by first | simp | simp [ops_liT]) rfl 23 rfl
      exact .inl ⟨wantN rfl, fun K hK => op_nilE rfl (evT hv2) hK⟩
    · have ho2 : some _ = some o := ho
      obtain rfl := Option.some.inj ho2
      have hv3 : a.tmps[24]? = some (.bool true) := dep ⟨3, Ground.data⟩ (by first | simp | simp [ops_liT]) rfl 24 rfl
      exact .inl ⟨wantN rfl, fun K hK => op_move rfl (evT hv3) hK⟩
    · have ho2 : some _ = some o := ho
      obtain rfl := Option.some.inj ho2
      have hv4 : a.tmps[25]? = some (.bool true) := dep ⟨4, Ground.guard⟩ (by first | simp | simp [ops_liT]) rfl 25 rfl
      exact .inl ⟨wantG (b := true) rfl (show ((ops_liT[4]?).bind (·.dst)) = some 25 from rfl) hv4, fun K hK => op_move rfl e5 hK⟩
    · have ho2 : some _ = some o := ho
      obtain rfl := Option.some.inj ho2
      have hv5 : a.tmps[26]? = some (.pointer (some ⟨lb, 0, none⟩)) := dep ⟨5, Ground.data⟩ (by first | simp | simp [ops_liT]) rfl 26 rfl
      have hv4 : a.tmps[25]? = some (.bool true) := dep ⟨4, Ground.guard⟩ (by first | simp | simp [ops_liT]) rfl 25 rfl
      exact .inl ⟨wantG (b := true) rfl (show ((ops_liT[4]?).bind (·.dst)) = some 25 from rfl) hv4, fun K hK => op_ptrL rfl (evT hv5) hK⟩
    · have ho2 : some _ = some o := ho
      obtain rfl := Option.some.inj ho2
      have hv4 : a.tmps[25]? = some (.bool true) := dep ⟨4, Ground.data⟩ (by first | simp | simp [ops_liT]) rfl 25 rfl
      have hv6 : a.tmps[27]? = some (.bool true) := dep ⟨6, Ground.data⟩ (by first | simp | simp [ops_liT]) rfl 27 rfl
      exact .inl ⟨wantN rfl, fun K hK => op_pick rfl (evT hv4) (evT hv6) rfl rfl hK⟩
    · have ho2 : some _ = some o := ho
      obtain rfl := Option.some.inj ho2
      have hv7 : a.tmps[28]? = some (.bool true) := dep ⟨7, Ground.data⟩ (by first | simp | simp [ops_liT]) rfl 28 rfl
      exact .inl ⟨wantN rfl, fun K hK => op_move rfl (evT hv7) hK⟩
    · have ho2 : some _ = some o := ho
      obtain rfl := Option.some.inj ho2
      have hv8 : a.tmps[29]? = some (.bool true) := dep ⟨8, Ground.guard⟩ (by first | simp | simp [ops_liT]) rfl 29 rfl
      exact .inl ⟨wantG (b := true) rfl (show ((ops_liT[8]?).bind (·.dst)) = some 29 from rfl) hv8, fun K hK => op_move rfl e9 hK⟩
    · have ho2 : some _ = some o := ho
      obtain rfl := Option.some.inj ho2
      have hv9 : a.tmps[30]? = some (.int .i64 0) := dep ⟨9, Ground.data⟩ (by first | simp | simp [ops_liT]) rfl 30 rfl
      have hv8 : a.tmps[29]? = some (.bool true) := dep ⟨8, Ground.guard⟩ (by first | simp | simp [ops_liT]) rfl 29 rfl
      exact .inl ⟨wantG (b := true) rfl (show ((ops_liT[8]?).bind (·.dst)) = some 29 from rfl) hv8, fun K hK => op_eql rfl (evT hv9) rfl (by decide) hK⟩
    · have ho2 : some _ = some o := ho
      obtain rfl := Option.some.inj ho2
      have hv8 : a.tmps[29]? = some (.bool true) := dep ⟨8, Ground.data⟩ (by first | simp | simp [ops_liT]) rfl 29 rfl
      have hv10 : a.tmps[31]? = some (.bool true) := dep ⟨10, Ground.data⟩ (by first | simp | simp [ops_liT]) rfl 31 rfl
      exact .inl ⟨wantN rfl, fun K hK => op_pick rfl (evT hv8) (evT hv10) rfl rfl hK⟩
    · have ho2 : some _ = some o := ho
      obtain rfl := Option.some.inj ho2
      have hv0 : a.tmps[21]? = some (.pointer (some ⟨lb, 0, none⟩)) := dep ⟨0, Ground.data⟩ (by first | simp | simp [ops_liT]) rfl 21 rfl
      exact .inl ⟨wantN rfl, fun K hK => op_assign rfl (evT hv0) hK⟩
    · have ho2 : some _ = some o := ho
      obtain rfl := Option.some.inj ho2
      have hv1 : a.tmps[22]? = some (.agg #[.slice fa fn fc, .int .i64 nx]) := dep ⟨1, Ground.data⟩ (by first | simp | simp [ops_liT]) rfl 22 rfl
      obtain rfl : b = false := hib rfl
      rw [W0]
      obtain ⟨cur, hcr, hcs⟩ := hR
      refine .inl ⟨wantN rfl, fun K hK => op_store2 rfl e3 (evT hv1) ((hcr.cell 0).trans (Array.getElem?_eq_getElem (by omega))) ((hcr.cell 1).trans (Array.getElem?_eq_getElem (by omega))) (hcr.frozen 0) (hcr.frozen 1) ?_⟩
      have : W (if 13 = 13 then true else false) = (w0.setCell ⟨rb, 0, none⟩ (.slice fa fn fc)).setCell ⟨rb, 1, none⟩ (.int .i64 nx) := by rw [if_pos rfl, W1]
      rw [this] at hK
      exact hK
    · have ho2 : some _ = some o := ho
      obtain rfl := Option.some.inj ho2
      have hv11 : a.tmps[32]? = some (.bool true) := dep ⟨11, Ground.data⟩ (by first | simp | simp [ops_liT]) rfl 32 rfl
      exact .inl ⟨wantN rfl, fun K hK => op_assign rfl (evT hv11) hK⟩
def ops_liF : Array Oper := #[
  { dst := some 21, op := Op.move (Operand.tmp 5), type := 40, pos := "law.go:27", after := #[], guard := none },
  { dst := some 22, op := Op.load 43 (Operand.tmp 7), type := 43, pos := "law.go:27", after := #[{ on := 12, ground := Ground.gcOnly Departure.lateStores }], guard := none },
  { dst := some 23, op := Op.move (Operand.tmp 6), type := 27, pos := "law.go:27", after := #[], guard := none },
  { dst := some 24, op := Op.binOp BinOp.eql 27 (Operand.tmp 23) (Operand.const Value.nilIface) 27, type := 4, pos := "law.go:27", after := #[{ on := 2, ground := Ground.data }], guard := none },
  { dst := some 25, op := Op.move (Operand.tmp 24), type := 4, pos := "law.go:27", after := #[{ on := 3, ground := Ground.data }], guard := none },
  { dst := some 26, op := Op.move (Operand.tmp 5), type := 40, pos := "law.go:27", after := #[{ on := 4, ground := Ground.guard }], guard := some (4, true) },
  { dst := some 27, op := Op.binOp BinOp.neq 40 (Operand.tmp 26) (Operand.const (Value.pointer none)) 40, type := 4, pos := "law.go:27", after := #[{ on := 5, ground := Ground.data }, { on := 4, ground := Ground.guard }], guard := some (4, true) },
  { dst := some 28, op := Op.pick (Operand.tmp 25) (Operand.tmp 27) (Operand.const (Value.bool false)), type := 4, pos := "law.go:27", after := #[{ on := 4, ground := Ground.data }, { on := 6, ground := Ground.data }], guard := none },
  { dst := some 29, op := Op.move (Operand.tmp 28), type := 4, pos := "law.go:27", after := #[{ on := 7, ground := Ground.data }, { on := 4, ground := Ground.chain }], guard := none },
  { dst := some 30, op := Op.move (Operand.tmp 9), type := 3, pos := "law.go:27", after := #[{ on := 8, ground := Ground.guard }, { on := 13, ground := Ground.gcOnly Departure.lateStores }], guard := some (8, true) },
  { dst := some 31, op := Op.binOp BinOp.eql 3 (Operand.tmp 30) (Operand.const (Value.int IntKind.i64 0)) 3, type := 4, pos := "law.go:27", after := #[{ on := 9, ground := Ground.data }, { on := 8, ground := Ground.guard }, { on := 13, ground := Ground.gcOnly Departure.lateStores }], guard := some (8, true) },
  { dst := some 32, op := Op.pick (Operand.tmp 29) (Operand.tmp 31) (Operand.const (Value.bool false)), type := 4, pos := "law.go:27", after := #[{ on := 8, ground := Ground.data }, { on := 10, ground := Ground.data }, { on := 13, ground := Ground.gcOnly Departure.lateStores }], guard := none },
  { dst := some 2, op := Op.assign (Operand.tmp 21), type := 40, pos := "law.go:27", after := #[{ on := 0, ground := Ground.data }, { on := 8, ground := Ground.chain }, { on := 0, ground := Ground.phase }, { on := 1, ground := Ground.textOnly Departure.lateStores }, { on := 2, ground := Ground.textOnly Departure.lateStores }, { on := 3, ground := Ground.textOnly Departure.lateStores }, { on := 4, ground := Ground.textOnly Departure.lateStores }, { on := 5, ground := Ground.textOnly Departure.lateStores }, { on := 6, ground := Ground.textOnly Departure.lateStores }, { on := 7, ground := Ground.textOnly Departure.lateStores }, { on := 8, ground := Ground.textOnly Departure.lateStores }, { on := 9, ground := Ground.textOnly Departure.lateStores }, { on := 10, ground := Ground.textOnly Departure.lateStores }, { on := 11, ground := Ground.textOnly Departure.lateStores }], guard := none },
  { dst := none, op := Op.store 43 (Operand.tmp 3) (Operand.tmp 22), type := 0, pos := "law.go:27", after := #[{ on := 1, ground := Ground.data }, { on := 12, ground := Ground.chain }, { on := 0, ground := Ground.phase }, { on := 1, ground := Ground.phase }, { on := 2, ground := Ground.textOnly Departure.lateStores }, { on := 3, ground := Ground.textOnly Departure.lateStores }, { on := 4, ground := Ground.textOnly Departure.lateStores }, { on := 5, ground := Ground.textOnly Departure.lateStores }, { on := 6, ground := Ground.textOnly Departure.lateStores }, { on := 7, ground := Ground.textOnly Departure.lateStores }, { on := 8, ground := Ground.textOnly Departure.lateStores }, { on := 9, ground := Ground.textOnly Departure.lateStores }, { on := 10, ground := Ground.textOnly Departure.lateStores }, { on := 11, ground := Ground.textOnly Departure.lateStores }, { on := 12, ground := Ground.phase }], guard := none },
  { dst := some 4, op := Op.assign (Operand.tmp 32), type := 4, pos := "law.go:27", after := #[{ on := 11, ground := Ground.data }, { on := 13, ground := Ground.chain }, { on := 0, ground := Ground.phase }, { on := 1, ground := Ground.phase }, { on := 2, ground := Ground.phase }, { on := 3, ground := Ground.phase }, { on := 4, ground := Ground.phase }, { on := 5, ground := Ground.phase }, { on := 6, ground := Ground.phase }, { on := 7, ground := Ground.phase }, { on := 8, ground := Ground.phase }, { on := 9, ground := Ground.phase }, { on := 10, ground := Ground.phase }, { on := 11, ground := Ground.phase }, { on := 12, ground := Ground.phase }, { on := 13, ground := Ground.phase }], guard := none }]
def dst_liF (i : Nat) : Option Nat := (ops_liF[i]?).bind (·.dst)
theorem inj_liF : ∀ i, i < 15 → ∀ k, k < 15 → dst_liF i ≠ none → dst_liF i = dst_liF k → i = k := by decide +kernel
theorem lt_liF : ∀ i, i < 15 → (dst_liF i).getD 0 < 33 := by decide +kernel
theorem low_liF : ∀ i : Fin 15, ∀ e ∈ (ops_liF[i.1]'(by exact i.2)).after, Region.binds .any e = true → e.on < i.1 := by decide +kernel
def val_liF (mb rb : Nat) (fa : Option Addr) (fn fc : Nat) (nx : Int) (T : TypeId) (p : Option Addr) (n : Int) : List Value := [.pointer none, .agg #[.slice fa fn fc, .int .i64 nx], .iface T (.pointer p), .bool false, .bool false, undef, undef, .bool false, .bool false, undef, undef, .bool false, .pointer none, undef, .bool false]
set_option maxRecDepth 100000 in
set_option maxHeartbeats 4000000 in
theorem region_liF (a0 : Act) (w0 : World) (mb rb : Nat) (fa : Option Addr) (fn fc : Nat) (nx : Int) (T : TypeId) (p : Option Addr) (n : Int) (Q : Exit → Act → World → Prop)
    (hsz : a0.tmps.size = 33) (h5 : a0.tmps[5]? = some (.pointer none)) (h6 : a0.tmps[6]? = some (.iface T (.pointer p))) (h7 : a0.tmps[7]? = some (.pointer (some ⟨mb, 0, none⟩))) (h9 : a0.tmps[9]? = some (.int .i64 n)) (h3 : a0.tmps[3]? = some (.pointer (some ⟨rb, 0, none⟩)))
    (hne : mb ≠ rb) (hM : Cells w0 mb 43 #[.slice fa fn fc, .int .i64 nx]) (hR : ∃ cur, Cells w0 rb 43 cur ∧ cur.size = 2)
    
    (hQ : Q .normal { a0 with tmps := [(21, .pointer none), (22, .agg #[.slice fa fn fc, .int .i64 nx]), (23, .iface T (.pointer p)), (24, .bool false), (25, .bool false), (26, undef), (27, undef), (28, .bool false), (29, .bool false), (30, undef), (31, undef), (32, .bool false), (2, .pointer none), (4, .bool false)].foldl (fun u p => u.setIfInBounds p.1 p.2) a0.tmps } ((w0.setCell ⟨rb, 0, none⟩ (.slice fa fn fc)).setCell ⟨rb, 1, none⟩ (.int .i64 nx))) :
    wpAny Tryz.prog .any ops_liF Q ops_liF.size (Array.replicate ops_liF.size false) a0 w0 := by
  obtain ⟨W, hW⟩ : ∃ W : Bool → World, W = fun b => if b = true then (w0.setCell ⟨rb, 0, none⟩ (.slice fa fn fc)).setCell ⟨rb, 1, none⟩ (.int .i64 nx) else w0 := ⟨_, rfl⟩
  have W0 : W false = w0 := by rw [hW]; rfl
  have W1 : W true = (w0.setCell ⟨rb, 0, none⟩ (.slice fa fn fc)).setCell ⟨rb, 1, none⟩ (.int .i64 nx) := by rw [hW]; rfl
  have MC : ∀ b, Cells (W b) mb 43 #[.slice fa fn fc, .int .i64 nx] := fun b => by
    cases b with
    | false => rw [W0]; exact hM
    | true => rw [W1]; exact (hM.other (p := ⟨rb, 0, none⟩) hne _).other (p := ⟨rb, 1, none⟩) hne _
  have R := wpAny_table (P := Tryz.prog) (ops := ops_liF) (Q := Q) a0 dst_liF (fun i => ((val_liF mb rb fa fn fc nx T p n)[i]?).getD undef) 13 W
    (fun i o ho => by unfold dst_liF; rw [ho]; rfl)
    (fun i k d hi hk h1 h2 => inj_liF i hi k hk (by rw [h1]; intro q; cases q) (by rw [h1, h2]))
    (fun i d hi h => by have := lt_liF i hi; rw [h] at this; rw [hsz]; exact this)
    (fun i o e ho he hb => by
      obtain ⟨hi, rfl⟩ := Array.getElem?_eq_some_iff.1 ho
      exact low_liF ⟨i, hi⟩ e he hb)
    ?step ?fin (by decide)
  · rw [W0] at R; exact R
  case fin =>
    intro a hd hs hf hv
    rw [W1]
    rw [act_set' (a := a) (a0 := a0) [(21, .pointer none), (22, .agg #[.slice fa fn fc, .int .i64 nx]), (23, .iface T (.pointer p)), (24, .bool false), (25, .bool false), (26, undef), (27, undef), (28, .bool false), (29, .bool false), (30, undef), (31, undef), (32, .bool false), (2, .pointer none), (4, .bool false)] hd hs (by
      intro p hp
      simp only [List.mem_cons, List.not_mem_nil, or_false] at hp
      rcases hp with rfl | rfl | rfl | rfl | rfl | rfl | rfl | rfl | rfl | rfl | rfl | rfl | rfl | rfl
      · exact hv 0 21 (by decide) rfl
      · exact hv 1 22 (by decide) rfl
      · exact hv 2 23 (by decide) rfl
      · exact hv 3 24 (by decide) rfl
      · exact hv 4 25 (by decide) rfl
      · exact hv 5 26 (by decide) rfl
      · exact hv 6 27 (by decide) rfl
      · exact hv 7 28 (by decide) rfl
      · exact hv 8 29 (by decide) rfl
      · exact hv 9 30 (by decide) rfl
      · exact hv 10 31 (by decide) rfl
      · exact hv 11 32 (by decide) rfl
      · exact hv 12 2 (by decide) rfl
      · exact hv 14 4 (by decide) rfl
      ) (fun j hj => hf j (fun k hk q => hj (by
        have : ∀ k, k < 15 → (dst_liF k).all (fun d => [21, 22, 23, 24, 25, 26, 27, 28, 29, 30, 31, 32, 2, 4].contains d) = true := by decide +kernel
        have h1 := this k hk
        rw [q] at h1
        simpa using h1)))]
    exact hQ
  case step =>
    intro i o a b ho hs hf dep hib
    have hi : i < 15 := (Array.getElem?_eq_some_iff.1 ho).1
    have e5 := evT ((hf 5 (by decide +kernel)).trans h5)
    have e6 := evT ((hf 6 (by decide +kernel)).trans h6)
    have e7 := evT ((hf 7 (by decide +kernel)).trans h7)
    have e9 := evT ((hf 9 (by decide +kernel)).trans h9)
    have e3 := evT ((hf 3 (by decide +kernel)).trans h3)
    rcases (by omega : i = 0 ∨ i = 1 ∨ i = 2 ∨ i = 3 ∨ i = 4 ∨ i = 5 ∨ i = 6 ∨ i = 7 ∨ i = 8 ∨ i = 9 ∨ i = 10 ∨ i = 11 ∨ i = 12 ∨ i = 13 ∨ i = 14) with rfl | rfl | rfl | rfl | rfl | rfl | rfl | rfl | rfl | rfl | rfl | rfl | rfl | rfl | rfl
    · have ho2 : some _ = some o := ho
      obtain rfl := Option.some.inj ho2
      exact .inl ⟨wantN rfl, fun K hK => op_move rfl e5 hK⟩
    · have ho2 : some _ = some o := ho
      obtain rfl := Option.some.inj ho2
      exact .inl ⟨wantN rfl, fun K hK => op_load2 rfl e7 ((MC b).cell 0) ((MC b).cell 1) hK⟩
    · have ho2 : some _ = some o := ho
      obtain rfl := Option.some.inj ho2
      exact .inl ⟨wantN rfl, fun K hK => op_move rfl e6 hK⟩
    · have ho2 : some _ = some o := ho
      obtain rfl := Option.some.inj ho2
      have hv2 : a.tmps[23]? = some (.iface T (.pointer p)) := dep ⟨2, Ground.data⟩ (by first | simp | simp [ops_liF]) rfl 23 rfl
      exact .inl ⟨wantN rfl, fun K hK => op_notnilE rfl (evT hv2) hK⟩
    · have ho2 : some _ = some o := ho
      obtain rfl := Option.some.inj ho2
      have hv3 : a.tmps[24]? = some (.bool false) := dep ⟨3, Ground.data⟩ (by first | simp | simp [ops_liF]) rfl 24 rfl
      exact .inl ⟨wantN rfl, fun K hK => op_move rfl (evT hv3) hK⟩
    · have ho2 : some _ = some o := ho
      obtain rfl := Option.some.inj ho2
      have hv4 : a.tmps[25]? = some (.bool false) := dep ⟨4, Ground.guard⟩ (by first | simp | simp [ops_liF]) rfl 25 rfl
      exact .inr ⟨wantU (b := true) rfl (show ((ops_liF[4]?).bind (·.dst)) = some 25 from rfl) hv4, rfl, by decide⟩
    · have ho2 : some _ = some o := ho
      obtain rfl := Option.some.inj ho2
      have hv4 : a.tmps[25]? = some (.bool false) := dep ⟨4, Ground.guard⟩ (by first | simp | simp [ops_liF]) rfl 25 rfl
      exact .inr ⟨wantU (b := true) rfl (show ((ops_liF[4]?).bind (·.dst)) = some 25 from rfl) hv4, rfl, by decide⟩
    · have ho2 : some _ = some o := ho
      obtain rfl := Option.some.inj ho2
      have hv4 : a.tmps[25]? = some (.bool false) := dep ⟨4, Ground.data⟩ (by first | simp | simp [ops_liF]) rfl 25 rfl
      have hv6 : a.tmps[27]? = some (undef) := dep ⟨6, Ground.data⟩ (by first | simp | simp [ops_liF]) rfl 27 rfl
      exact .inl ⟨wantN rfl, fun K hK => op_pick rfl (evT hv4) (evT hv6) rfl rfl hK⟩
    · have ho2 : some _ = some o := ho
      obtain rfl := Option.some.inj ho2
      have hv7 : a.tmps[28]? = some (.bool false) := dep ⟨7, Ground.data⟩ (by first | simp | simp [ops_liF]) rfl 28 rfl
      exact .inl ⟨wantN rfl, fun K hK => op_move rfl (evT hv7) hK⟩
    · have ho2 : some _ = some o := ho
      obtain rfl := Option.some.inj ho2
      have hv8 : a.tmps[29]? = some (.bool false) := dep ⟨8, Ground.guard⟩ (by first | simp | simp [ops_liF]) rfl 29 rfl
      exact .inr ⟨wantU (b := true) rfl (show ((ops_liF[8]?).bind (·.dst)) = some 29 from rfl) hv8, rfl, by decide⟩
    · have ho2 : some _ = some o := ho
      obtain rfl := Option.some.inj ho2
      have hv8 : a.tmps[29]? = some (.bool false) := dep ⟨8, Ground.guard⟩ (by first | simp | simp [ops_liF]) rfl 29 rfl
      exact .inr ⟨wantU (b := true) rfl (show ((ops_liF[8]?).bind (·.dst)) = some 29 from rfl) hv8, rfl, by decide⟩
    · have ho2 : some _ = some o := ho
      obtain rfl := Option.some.inj ho2
      have hv8 : a.tmps[29]? = some (.bool false) := dep ⟨8, Ground.data⟩ (by first | simp | simp [ops_liF]) rfl 29 rfl
      have hv10 : a.tmps[31]? = some (undef) := dep ⟨10, Ground.data⟩ (by first | simp | simp [ops_liF]) rfl 31 rfl
      exact .inl ⟨wantN rfl, fun K hK => op_pick rfl (evT hv8) (evT hv10) rfl rfl hK⟩
    · have ho2 : some _ = some o := ho
      obtain rfl := Option.some.inj ho2
      have hv0 : a.tmps[21]? = some (.pointer none) := dep ⟨0, Ground.data⟩ (by first | simp | simp [ops_liF]) rfl 21 rfl
      exact .inl ⟨wantN rfl, fun K hK => op_assign rfl (evT hv0) hK⟩
    · have ho2 : some _ = some o := ho
      obtain rfl := Option.some.inj ho2
      have hv1 : a.tmps[22]? = some (.agg #[.slice fa fn fc, .int .i64 nx]) := dep ⟨1, Ground.data⟩ (by first | simp | simp [ops_liF]) rfl 22 rfl
      obtain rfl : b = false := hib rfl
      rw [W0]
      obtain ⟨cur, hcr, hcs⟩ := hR
      refine .inl ⟨wantN rfl, fun K hK => op_store2 rfl e3 (evT hv1) ((hcr.cell 0).trans (Array.getElem?_eq_getElem (by omega))) ((hcr.cell 1).trans (Array.getElem?_eq_getElem (by omega))) (hcr.frozen 0) (hcr.frozen 1) ?_⟩
      have : W (if 13 = 13 then true else false) = (w0.setCell ⟨rb, 0, none⟩ (.slice fa fn fc)).setCell ⟨rb, 1, none⟩ (.int .i64 nx) := by rw [if_pos rfl, W1]
      rw [this] at hK
      exact hK
    · have ho2 : some _ = some o := ho
      obtain rfl := Option.some.inj ho2
      have hv11 : a.tmps[32]? = some (.bool false) := dep ⟨11, Ground.data⟩ (by first | simp | simp [ops_liF]) rfl 32 rfl
      exact .inl ⟨wantN rfl, fun K hK => op_assign rfl (evT hv11) hK⟩
end Go.Proofs.YtflnlenkgbphpaaGreatDoor

namespace Go.Proofs.YtflnlenkgbphpaaGreatDoor
open Go.RowKit Go.Shelf
attribute [local go_sem] Oper.semAt_some

theorem results_t3 {fn : Func} {p u z : Tmp} {ty : TypeId} (h : fn.results = #[.tmp u, .cell p ty, .tmp z]) (tmps : Array Value) (P : Program) (w : World) :
    (results fn tmps).run P w = ((asAddr (tmps.getD p undef)).run P w).andThen fun a w₁ => ((loadVar ty a).run P w₁).andThen fun v w₂ => .ok (.tuple #[tmps.getD u undef, v, tmps.getD z undef]) w₂ := by
  simp only [results, h]
  simp [Sem.run_bind, Result.andThen]
set_option maxRecDepth 100000 in
theorem ret_t3 {fn : Func} {p u z : Tmp} (h : fn.results = #[.tmp u, .cell p 43, .tmp z]) (tmps : Array Value) (w : World) (b : Nat) (cur : Array Value) (hp : tmps.getD p undef = .pointer (some ⟨b, 0, none⟩))
    (hc : Cells w b 43 cur) (hz : cur.size = 2) : (results fn tmps).run Tryz.prog w = .ok (.tuple #[tmps.getD u undef, .agg cur, tmps.getD z undef]) w := by
  have L := run_loadVar_row (P := Tryz.prog) w b 43 43 cur (0, 0) _ hc Tryz.underlying43 rfl (by rw [hz]; kernel_rfl)
  rw [results_t3 h, hp]
  show ((loadVar _ _).run _ _).andThen _ = _
  rw [L]; rfl
/-- Fields don't lie where no texts lie. -/
theorem fld_not {w : World} {v : Value} {fs : List Fld} {b : Nat} {T : TypeId} {cur : Array Value} (h : Flds w v fs) (hne : fs ≠ []) (hb : v.ownBlock = some b) (hc : Cells w b T cur) (hn : ∀ x ∈ cur, ∀ s, x ≠ .string s) : False := by
  obtain ⟨A, cap, rfl, hle, hcs⟩ := h
  obtain ⟨f, hf⟩ : ∃ f, fs[0]? = some f := by
    cases fs with
    | nil => exact absurd rfl hne
    | cons a r => exact ⟨a, rfl⟩
  obtain ⟨b', off, rfl, _, c0, _⟩ := hcs 0 f hf
  have e : b' = b := by cases hb; rfl
  subst e
  rw [Nat.zero_mul, Nat.add_zero, hc.cell off] at c0
  exact hn _ (Array.mem_of_getElem? c0) _ rfl
/-- What lists comes to. -/
def ListsR (w : World) (t : List UInt8) (e : Ending) (w' : World) : Prop :=
  Below w.heap.size w w' ∧ match parseL t with
    | .error _ => e = .returned (.tuple #[.pointer none, .agg #[.slice none 0 0, .int .i64 0], .bool false])
    | .ok its => ∃ lb ev ps v qs, e = .returned (.tuple #[ptr lb, .agg #[v, .int .i64 (fromL its).next], .bool true]) ∧ Carry w.heap.size w' lb ev ps (fromL its) 3000 ∧ EntsQ w' v qs ∧ qs.map Prod.fst = (fromL its).es
set_option maxRecDepth 100000 in
set_option maxHeartbeats 4000000 in
theorem lists_any (s : ByteArray) (hs : s.size ≤ 3000) (w : World) : Calls Tryz.prog 20 #[.string s] w fun e w' => ListsR w s.data.toList e w' := by
  obtain ⟨wa, hwa⟩ : ∃ wa, wa = w.alloc (.cells #[.slice none 0 0, .int .i64 0] 43) := ⟨_, rfl⟩
  have hba : Below w.heap.size w wa := by rw [hwa]; exact (Below.refl _ w).alloc (Nat.le_refl _) _
  have hza : wa.heap.size = w.heap.size + 1 := by rw [hwa]; simp
  have c3a : Cells wa w.heap.size 43 #[.slice none 0 0, .int .i64 0] := by rw [hwa]; exact Cells.new _ _ _
  have OF := Lib.hid (of_any s (by omega) wa)
  have RO_ := Lib.hid (fun W => refOf7_any s (by omega) W)
  have HBA := Lib.hid hba
  have HC3 := Lib.hid c3a
  clear hba c3a
  subst hwa
  go_enter Tryz.func20, Tryz.ntmps20
  go_wp2_with fail
  refine OF.out.mono ?_
  rintro e w1 hof
  have RO1 := Lib.hid (RO_.out w1)
  clear OF RO_
  cases hp : parseL s.data.toList with
  | error an =>
    obtain ⟨a, n⟩ := an
    obtain ⟨b1, u, rfl, hf⟩ := hof.no hp
    obtain ⟨q, _, rfl, _⟩ := hf
    have hn0 := (parse_no hp).1
    have HP := Lib.hid hp
    have HB1 := Lib.hid b1
    clear hof hp b1
    go_wp2_with fail
    refine RO1.out.mono ?_
    rintro e w2 ⟨b2, h2⟩
    rw [HP.out] at h2
    subst h2
    have B2 : Below (w.alloc (.cells #[.slice none 0 0, .int .i64 0] 43)).heap.size (w.alloc (.cells #[.slice none 0 0, .int .i64 0] 43)) w2 := HB1.out.trans (b2.mono HB1.out.size)
    obtain ⟨w3, hw3⟩ : ∃ w3, w3 = (w2.alloc (.cells #[.slice none 0 0, .int .i64 0] 43)) := ⟨_, rfl⟩
    have cM : Cells w3 w2.heap.size 43 #[.slice none 0 0, .int .i64 0] := by rw [hw3]; exact Cells.new _ _ _
    have B3 : Below (w.alloc (.cells #[.slice none 0 0, .int .i64 0] 43)).heap.size (w.alloc (.cells #[.slice none 0 0, .int .i64 0] 43)) w3 := by rw [hw3]; exact B2.alloc B2.size _
    have c3 := cells_kept HC3.out B3 (by omega)
    have hz2 := B2.size
    have B3w : Below w.heap.size w w3 := HBA.out.trans (B3.mono HBA.out.size)
    have RE := Lib.hid ((c3.drew.set 0 (.slice none 0 0)).set 1 (.int .i64 0))
    have FIN : Hid (Below w.heap.size w ((w3.drew.setCell ⟨w.heap.size, 0, none⟩ (.slice none 0 0)).setCell ⟨w.heap.size, 1, none⟩ (.int .i64 0))) := (B3w.drew.setCell (p := ⟨w.heap.size, 0, none⟩) (Nat.le_refl _) _).setCell (p := ⟨w.heap.size, 1, none⟩) (Nat.le_refl _) _
    have HM := Lib.hid cM.drew
    have HR3 := Lib.hid c3.drew
    have hne : w2.heap.size ≠ w.heap.size := by omega
    clear B2 B3 c3 cM b2 RO1 HC3 HBA HB1 B3w
    subst hw3
    go_upto_region 3 with fail
    refine wp_region_any (by kernel_rfl) ?_
    refine region_liF _ (w2.alloc (.cells #[.slice none 0 0, .int .i64 0] 43)).drew w2.heap.size w.heap.size none 0 0 0 _ _ _ _ rfl rfl rfl rfl rfl rfl hne HM.out ⟨_, HR3.out, rfl⟩ ?_
    simp only [List.foldl, List.setIfInBounds_toArray, List.set_cons_zero, List.set_cons_succ]
    go_wp2_with fail
    refine bodyPost_ret (ret_t3 rfl _ _ w.heap.size _ rfl RE.out rfl) rfl ?_
    refine ⟨FIN.out, ?_⟩
    rw [HP.out]; rfl
  | ok its =>
    obtain ⟨b1, lb, ev, ps, rfl, hlb, hev, hla, hps⟩ := hof.yes hp
    have hlen : (fromL its).es.length ≤ 3000 ∧ (fromL its).next ≤ 3001 := by
      have h1 := (parse_join hp).2.1
      rw [← Lib.size_eq] at h1
      have h2 : (fromL its).es.length = its.length := from_len 1 its
      have h3 := (from_next 1 its).2
      have h4 : (fromL its).next = fromNext 1 its := rfl
      omega
    have CA : Carry w.heap.size w1 lb ev ps (fromL its) 3000 := by
      refine ⟨hla, hps, from_ok hp, fun e he => ?_, by omega, (fun b e => by have := hev b e; omega), hlen.1, hlen.2⟩
      have h1 := (parse_join hp).2.2
      have h2 : e.1 ∈ its := by rw [← from_items 1 its]; exact List.mem_map_of_mem he
      obtain ⟨q1, q2⟩ := h1 _ h2
      rw [← Lib.size_eq] at q2
      exact ⟨by omega, by omega⟩
    have HP := Lib.hid hp
    have HB1 := Lib.hid b1
    have HCA := Lib.hid CA
    have hev' := hev
    have hz1 := b1.size
    clear hof hp b1 hla hps hev CA hlen
    unfold ptr
    go_wp2_with fail
    refine RO1.out.mono ?_
    rintro e w2 ⟨b2, h2⟩
    rw [HP.out] at h2
    obtain ⟨v, qs, rfl, hq, hqe, hqv, hqb⟩ := h2
    obtain ⟨va, vc, rfl, _⟩ := hq.empty
    have B2 : Below (w.alloc (.cells #[.slice none 0 0, .int .i64 0] 43)).heap.size (w.alloc (.cells #[.slice none 0 0, .int .i64 0] 43)) w2 := HB1.out.trans (b2.mono HB1.out.size)
    obtain ⟨w3, hw3⟩ : ∃ w3, w3 = (w2.alloc (.cells #[.slice va qs.length vc, .int .i64 (fromL its).next] 43)) := ⟨_, rfl⟩
    have cM : Cells w3 w2.heap.size 43 #[.slice va qs.length vc, .int .i64 (fromL its).next] := by rw [hw3]; exact Cells.new _ _ _
    have B23 : Below w2.heap.size w2 w3 := by rw [hw3]; exact (Below.refl _ _).alloc (Nat.le_refl _) _
    have B3 : Below (w.alloc (.cells #[.slice none 0 0, .int .i64 0] 43)).heap.size (w.alloc (.cells #[.slice none 0 0, .int .i64 0] 43)) w3 := by rw [hw3]; exact B2.alloc B2.size _
    have c3 := cells_kept HC3.out B3 (by omega)
    have hz2 := B2.size
    have B3w : Below w.heap.size w w3 := HBA.out.trans (B3.mono HBA.out.size)
    have RE := Lib.hid ((c3.drew.set 0 (.slice va qs.length vc)).set 1 (.int .i64 (fromL its).next))
    have HM := Lib.hid cM.drew
    have HR3 := Lib.hid c3.drew
    have hne : w2.heap.size ≠ w.heap.size := by omega
    have o3 : Only (· = w.heap.size) w3 ((w3.drew.setCell ⟨w.heap.size, 0, none⟩ (.slice va qs.length vc)).setCell ⟨w.heap.size, 1, none⟩ (.int .i64 (fromL its).next)) := (((Only.refl (· = w.heap.size) w3).drew).cellS 0 _).cellS 1 _
    have hCA3 := (HCA.out.below b2 (Nat.le_refl _)).below B23 (Nat.le_refl _)
    have FIN : Hid (Below w.heap.size w ((w3.drew.setCell ⟨w.heap.size, 0, none⟩ (.slice va qs.length vc)).setCell ⟨w.heap.size, 1, none⟩ (.int .i64 (fromL its).next)) ∧ ∃ lb' ev ps v qs', Ending.returned (.tuple #[.pointer (some ⟨lb, 0, none⟩), .agg #[.slice va qs.length vc, .int .i64 (fromL its).next], .bool true]) = .returned (.tuple #[ptr lb', .agg #[v, .int .i64 (fromL its).next], .bool true]) ∧ Carry w.heap.size ((w3.drew.setCell ⟨w.heap.size, 0, none⟩ (.slice va qs.length vc)).setCell ⟨w.heap.size, 1, none⟩ (.int .i64 (fromL its).next)) lb' ev ps (fromL its) 3000 ∧ EntsQ ((w3.drew.setCell ⟨w.heap.size, 0, none⟩ (.slice va qs.length vc)).setCell ⟨w.heap.size, 1, none⟩ (.int .i64 (fromL its).next)) v qs' ∧ qs'.map Prod.fst = (fromL its).es) := by
      have hblk : ∀ r, BlkR lb ev ps (.slice none 0 0) [] r → ¬ r = w.heap.size := by
        rintro r (e | e | e | ⟨p, hp, hne, hb⟩ | ⟨p, hp, _⟩) q
        · omega
        · have := hev' r e; omega
        · cases e
        · exact fld_not (hCA3.la.lr.ents.each p hp).1 hne hb (by rw [q]; exact c3) (by intro x hx; simp at hx; rcases hx with rfl | rfl <;> (intro s e; cases e))
        · cases hp
      have hq3 : EntsQ w3 (.slice va qs.length vc) qs := hq.below B23 (Nat.le_refl _)
      refine ⟨(B3w.drew.setCell (p := ⟨w.heap.size, 0, none⟩) (Nat.le_refl _) _).setCell (p := ⟨w.heap.size, 1, none⟩) (Nat.le_refl _) _, lb, ev, ps, _, qs, rfl, hCA3.only o3 hblk, hq3.only o3 (fun b e => by have := hqv b e; omega) (fun p hp _ b e => by have := hqb p hp b e; omega), hqe⟩
    clear B2 B3 c3 cM b2 RO1 HC3 HBA HB1 B3w hq hqe hqv hqb B23 o3 HCA hCA3 hev'
    subst hw3
    go_upto_region 3 with fail
    refine wp_region_any (by kernel_rfl) ?_
    refine region_liT _ (w2.alloc (.cells #[.slice va qs.length vc, .int .i64 (fromL its).next] 43)).drew lb w2.heap.size w.heap.size va qs.length vc (fromL its).next _ rfl rfl rfl rfl rfl rfl hne HM.out ⟨_, HR3.out, rfl⟩ ?_
    simp only [List.foldl, List.setIfInBounds_toArray, List.set_cons_zero, List.set_cons_succ]
    go_wp2_with fail
    refine bodyPost_ret (ret_t3 rfl _ _ w.heap.size _ rfl RE.out rfl) rfl ?_
    refine ⟨FIN.out.1, ?_⟩
    rw [HP.out]; exact FIN.out.2
end Go.Proofs.YtflnlenkgbphpaaGreatDoor

