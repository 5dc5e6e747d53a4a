/- Texts put together: AC, ED, EE, EF, EG, AE. -/
import Derived.Lib.Strings
import Derived.Test.YtbkeoiefolkjfaaGreatDoorProg
import Derived.WalkKit
import Derived.LaidEql
import Derived.Stop.Asserts
import Derived.RowKitTokens
import Derived.Below
import Derived.Lib.Hide
import Derived.Test.YtbkeoiefolkjfaaGreatDoorBbk1
import Derived.Test.YtbkeoiefolkjfaaGreatDoorBbk9
import Derived.Test.YtbkeoiefolkjfaaGreatDoorBbk13
import Derived.Test.YtbkeoiefolkjfaaGreatDoorBbk15
set_option linter.unusedVariables false
set_option maxRecDepth 100000
set_option maxHeartbeats 16000000
namespace Go.Proofs.YtbkeoiefolkjfaaGreatDoor
def wordL (k : Int) : List UInt8 := if k = 1 then [114, 101, 112, 108, 97, 99, 101] else if k = 2 then [100, 101, 108, 101, 116, 101] else if k = 3 then [105, 110, 115, 101, 114, 116] else []
def lineA (k id : Int) : List UInt8 := if k = 1 \/ k = 2 \/ k = 3 then 32 :: (wordL k ++ 32 :: Lib.itoa id) else []
def ind2 (l : List UInt8) : List UInt8 := 32 :: 32 :: l
def edLs (ed : Ed) : List (List UInt8) := lineA ed.kind ed.id :: (linesFs ed.fields).map ind2
def edT (ed : Ed) : List UInt8 := textL (edLs ed)
def batchLs (eds : List Ed) : List (List UInt8) := eds.flatMap edLs
def batchT (eds : List Ed) : List UInt8 := textL (batchLs eds)
theorem wordL_no {k : Int} {c : UInt8} (h : c.toNat < 97) : c ∉ wordL k := by
  unfold wordL
  have key : ∀ l : List UInt8, (∀ x ∈ l, 97 <= x.toNat) -> c ∉ l := fun l hl hc => by have := hl c hc; omega
  split
  . exact key _ (by decide)
  split
  . exact key _ (by decide)
  split
  . exact key _ (by decide)
  simp
theorem lineA_clean (k id : Int) : (10 : UInt8) ∉ lineA k id := by
  unfold lineA
  split
  . intro h
    rcases List.mem_cons.1 h with h | h
    . exact absurd h (by decide)
    rcases List.mem_append.1 h with h | h
    . exact wordL_no (by decide) h
    rcases List.mem_cons.1 h with h | h
    . exact absurd h (by decide)
    exact itoa_no (by decide) (.inl (by decide)) h
  simp
theorem ind2_clean {l : List UInt8} (h : (10 : UInt8) ∉ l) : (10 : UInt8) ∉ ind2 l := by
  unfold ind2
  intro hm
  rcases List.mem_cons.1 hm with hm | hm
  . exact absurd hm (by decide)
  rcases List.mem_cons.1 hm with hm | hm
  . exact absurd hm (by decide)
  exact h hm
structure GoodF (fs : List Fld) : Prop where
  each : ∀ f ∈ fs, goodKey f.1 = true /\ f.2.length <= 1000
  len : fs.length <= 40
theorem goodE_F {ed : Ed} (h : goodE ed = 0) : GoodF ed.fields := by
  unfold goodE at h
  split at h
  . obtain ⟨_, h2, h3⟩ := chkN_zero h
    exact ⟨foldN_good _ h3, h2⟩
  split at h
  . rename_i q
    rw [List.length_eq_zero_iff.1 q.2]
    exact ⟨fun f hf => (by cases hf), Nat.zero_le _⟩
  cases h
theorem GoodF.clean {fs : List Fld} (h : GoodF fs) : ∀ l ∈ linesFs fs, (10 : UInt8) ∉ l := by
  intro l hl
  unfold linesFs at hl
  obtain ⟨f, hf1, hf2⟩ := List.mem_flatMap.1 hl
  exact linesL_clean _ (h.each f hf1).1 l hf2
theorem edLs_clean {ed : Ed} (h : GoodF ed.fields) : ∀ l ∈ edLs ed, (10 : UInt8) ∉ l := by
  intro l hl
  rcases List.mem_cons.1 hl with rfl | hl
  . exact lineA_clean _ _
  obtain ⟨x, hx, rfl⟩ := List.mem_map.1 hl
  exact ind2_clean (h.clean x hx)
theorem batchLs_clean {eds : List Ed} (h : ∀ ed ∈ eds, goodE ed = 0) : ∀ l ∈ batchLs eds, (10 : UInt8) ∉ l := by
  intro l hl
  obtain ⟨ed, h1, h2⟩ := List.mem_flatMap.1 hl
  exact edLs_clean (goodE_F (h ed h1)) l h2
theorem batchT_cons (ed : Ed) (r : List Ed) : batchT (ed :: r) = edT ed ++ batchT r := by
  unfold batchT batchLs edT; rw [List.flatMap_cons, textL_append]
theorem batchT_nil : batchT [] = [] := rfl
theorem batchT_append (a b : List Ed) : batchT (a ++ b) = batchT a ++ batchT b := by
  unfold batchT batchLs; rw [List.flatMap_append, textL_append]
theorem batchT_snoc (a : List Ed) (ed : Ed) : batchT (a ++ [ed]) = batchT a ++ edT ed := by
  rw [batchT_append, batchT_cons, batchT_nil, List.append_nil]
theorem ind_text (ls : List (List UInt8)) (h : ∀ l ∈ ls, (10 : UInt8) ∉ l) : (linesOf (textL ls)).flatMap (fun x => [32, 32] ++ x.bytes) = textL (ls.map ind2) := by
  show (linesOn 0 0 (textL ls)).flatMap _ = _
  rw [linesOn_num ls 0 0 h]
  suffices ∀ (ls : List (List UInt8)) (no c : Nat), (num no c ls).flatMap (fun x => [32, 32] ++ x.bytes) = textL (ls.map ind2) from this ls 0 0
  intro ls
  induction ls with
  | nil => intro no c; rfl
  | cons l r ih =>
  intro no c
  show ([32, 32] ++ (⟨no, c, l, true⟩ : Ln).bytes) ++ (num (no + 1) (c + l.length + 1) r).flatMap _ = _
  rw [ih]
  unfold textL ind2 Ln.bytes
  simp
theorem foldG_text (fs : List Fld) : foldG fs = textL (linesFs fs) := by
  unfold foldG textL linesFs; rw [List.flatMap_assoc]
theorem edT_eq {ed : Ed} (h : GoodF ed.fields) : edT ed = lineA ed.kind ed.id ++ 10 :: (linesOf (foldG ed.fields)).flatMap (fun x => [32, 32] ++ x.bytes) := by
  rw [foldG_text, ind_text _ h.clean]
  show textL (_ :: _) = _
  unfold textL; simp
def kindOf (l : List UInt8) : Int := if l = wordL 1 then 1 else if l = wordL 2 then 2 else if l = wordL 3 then 3 else 0
theorem kindOf_word {k : Int} (h : k = 1 \/ k = 2 \/ k = 3) : kindOf (wordL k) = k := by
  rcases h with rfl | rfl | rfl <;> decide
def unfoldF (t : List UInt8) : List Fld := match parseL (dd [32, 32] ((linesOf t).map sees)).1 with | .error _ => [] | .ok its => (recs its).flatten
def lineS (t : List UInt8) : List UInt8 := t.takeWhile (· != 10)
def restD (t : List UInt8) : List UInt8 := t.drop ((lineS t).length + 1)
def nameS (t : List UInt8) : List UInt8 := (Lib.trimPrefix (lineS t) [32]).takeWhile (· != 32)
def figS (t : List UInt8) : List UInt8 := (Lib.trimPrefix (lineS t) [32]).drop ((nameS t).length + 1)
def saidE (t : List UInt8) : Ed := ⟨kindOf (nameS t), atoiV (figS t), unfoldF (restD t)⟩
theorem takeW (c : UInt8) (a b : List UInt8) (h : c ∉ a) : (a ++ c :: b).takeWhile (· != c) = a := by
  induction a with
  | nil => simp
  | cons x r ih =>
  have hx : (x != c) = true := by
    have : c ≠ x := fun e => h (e ▸ List.mem_cons_self)
    simp; exact fun e => this e.symm
  rw [List.cons_append, List.takeWhile_cons, if_pos hx, ih (fun hm => h (List.mem_cons_of_mem _ hm))]
theorem dropW (c : UInt8) (a b : List UInt8) : (a ++ c :: b).drop (a.length + 1) = b := by
  rw [show a ++ c :: b = (a ++ [c]) ++ b by simp]
  exact List.drop_left' (by simp)
theorem unfold_good {fs : List Fld} (h : GoodF fs) : unfoldF (textL ((linesFs fs).map ind2)) = fs := by
  unfold unfoldF
  have e := dd_ahead [32, 32] (by decide) (textL (linesFs fs))
  rw [ind_text _ h.clean] at e
  rw [e]
  show (match parseL (textL (linesFs fs)) with | .error _ => [] | .ok its => (recs its).flatten) = fs
  by_cases h0 : fs = []
  . subst h0; rfl
  have p := parse_between [⟨3, textL (linesFs fs), fs⟩] (by show 1 <= 400; decide) (fun it hit => by rw [List.mem_singleton.1 hit]; exact blk_fields fs h.each h0 h.len)
  have e1 : (apartL [(⟨3, textL (linesFs fs), fs⟩ : It)]) = [⟨3, textL (linesFs fs), fs⟩] := rfl
  rw [e1] at p
  have e2 : ([(⟨3, textL (linesFs fs), fs⟩ : It)].flatMap It.raw) = textL (linesFs fs) := by simp
  rw [e2] at p
  rw [p]
  show (recs [(⟨3, textL (linesFs fs), fs⟩ : It)]).flatten = fs
  simp [recs]
theorem said_good {ed : Ed} (h : GoodF ed.fields) (hk : ed.kind = 1 \/ ed.kind = 2 \/ ed.kind = 3) (hi : I64 ed.id) : saidE (edT ed) = ed := by
  have e : edT ed = lineA ed.kind ed.id ++ 10 :: textL ((linesFs ed.fields).map ind2) := by
    show textL (_ :: _) = _
    unfold textL; simp
  have e1 : lineS (edT ed) = lineA ed.kind ed.id := by rw [e]; exact takeW 10 _ _ (lineA_clean _ _)
  have e2 : restD (edT ed) = textL ((linesFs ed.fields).map ind2) := by unfold restD; rw [e1, e]; exact dropW 10 _ _
  have e3 : lineA ed.kind ed.id = 32 :: (wordL ed.kind ++ 32 :: Lib.itoa ed.id) := by unfold lineA; rw [if_pos hk]
  have e4 : Lib.trimPrefix (lineS (edT ed)) [32] = wordL ed.kind ++ 32 :: Lib.itoa ed.id := by
    rw [e1, e3]; simp [Lib.trimPrefix, Lib.hasPrefix]
  have e5 : nameS (edT ed) = wordL ed.kind := by unfold nameS; rw [e4]; exact takeW 32 _ _ (wordL_no (by decide))
  have e6 : figS (edT ed) = Lib.itoa ed.id := by unfold figS; rw [e4, e5]; exact dropW 32 _ _
  unfold saidE
  rw [e5, e6, e2, kindOf_word hk, atoiV_itoa hi, unfold_good h]
def piecesOn (t : List UInt8) : Nat -> List Ln -> List (List UInt8)
  | b, [] => [t.drop b]
  | b, x :: r => if b < x.at_ /\ Lib.hasPrefix x.text [32, 32] = false then (t.drop b).take (x.at_ - b) :: piecesOn t x.at_ r else piecesOn t b r
def readL (t : List UInt8) : List Ed := (piecesOn t 0 (linesOf t)).map saidE
theorem pieces_ind (t : List UInt8) (b : Nat) : ∀ (ls : List (List UInt8)) (no c : Nat) (ys : List Ln), piecesOn t b (num no c (ls.map ind2) ++ ys) = piecesOn t b ys
  | [], _, _, _ => rfl
  | l :: r, no, c, ys => by
    show piecesOn t b (⟨no, c, ind2 l, true⟩ :: (num (no + 1) (c + (ind2 l).length + 1) (r.map ind2) ++ ys)) = _
    rw [piecesOn, if_neg (by intro h; exact absurd h.2 (by simp [Lib.hasPrefix, ind2]))]
    exact pieces_ind t b r _ _ ys
theorem lineA_two {k id : Int} (hk : k = 1 \/ k = 2 \/ k = 3) : Lib.hasPrefix (lineA k id) [32, 32] = false := by
  unfold lineA
  rw [if_pos hk]
  rcases hk with rfl | rfl | rfl <;> rfl
theorem pieces_eds (t : List UInt8) : ∀ (r : List Ed) (pre cur : List UInt8) (no : Nat), t = pre ++ (cur ++ batchT r) -> cur ≠ [] -> (∀ ed ∈ r, ed.kind = 1 \/ ed.kind = 2 \/ ed.kind = 3) ->
    piecesOn t pre.length (num no (pre.length + cur.length) (batchLs r)) = cur :: r.map edT
  | [], pre, cur, no, h, hc, _ => by
    show [t.drop pre.length] = [cur]
    rw [h, List.drop_left' rfl, batchT_nil, List.append_nil]
  | e :: r, pre, cur, no, h, hc, hk => by
    have hpos : 0 < cur.length := List.length_pos_iff.2 hc
    have e1 : batchLs (e :: r) = lineA e.kind e.id :: ((linesFs e.fields).map ind2 ++ batchLs r) := by
      unfold batchLs; rw [List.flatMap_cons]; rfl
    rw [e1]
    show piecesOn t pre.length (⟨no, pre.length + cur.length, lineA e.kind e.id, true⟩ :: num (no + 1) (pre.length + cur.length + (lineA e.kind e.id).length + 1) ((linesFs e.fields).map ind2 ++ batchLs r)) = _
    rw [piecesOn, if_pos ⟨by show pre.length < pre.length + cur.length; omega, lineA_two (hk e List.mem_cons_self)⟩]
    rw [num_append, pieces_ind]
    have ih := pieces_eds t r (pre ++ cur) (edT e) (no + 1 + ((linesFs e.fields).map ind2).length) (by rw [h, batchT_cons]; simp) (by unfold edT edLs textL; simp) (fun x hx => hk x (List.mem_cons_of_mem _ hx))
    have el : (edT e).length = (lineA e.kind e.id).length + 1 + (textL ((linesFs e.fields).map ind2)).length := by unfold edT edLs textL; simp; omega
    rw [List.length_append] at ih
    rw [show pre.length + cur.length + (lineA e.kind e.id).length + 1 + (textL ((linesFs e.fields).map ind2)).length = pre.length + cur.length + (edT e).length by omega]
    rw [show (⟨no, pre.length + cur.length, lineA e.kind e.id, true⟩ : Ln).at_ = pre.length + cur.length from rfl, ih, List.map_cons]
    congr 1
    rw [h, List.drop_left' rfl, show pre.length + cur.length - pre.length = cur.length by omega, List.take_left' rfl]
theorem read_batch {eds : List Ed} (h0 : eds ≠ []) (hg : ∀ ed ∈ eds, goodE ed = 0) (hi : ∀ ed ∈ eds, I64 ed.id) : readL (batchT eds) = eds := by
  cases eds with
  | nil => exact absurd rfl h0
  | cons e r =>
  unfold readL
  rw [show linesOf (batchT (e :: r)) = num 0 0 (batchLs (e :: r)) from linesOn_num _ 0 0 (batchLs_clean hg)]
  have e1 : batchLs (e :: r) = lineA e.kind e.id :: ((linesFs e.fields).map ind2 ++ batchLs r) := by
    unfold batchLs; rw [List.flatMap_cons]; rfl
  have e2 : piecesOn (batchT (e :: r)) 0 (num 0 0 (batchLs (e :: r))) = (e :: r).map edT := by
    rw [e1]
    show piecesOn _ 0 (⟨0, 0, lineA e.kind e.id, true⟩ :: num 1 (0 + (lineA e.kind e.id).length + 1) ((linesFs e.fields).map ind2 ++ batchLs r)) = _
    rw [piecesOn, if_neg (by intro h; exact absurd h.1 (Nat.lt_irrefl _)), num_append, pieces_ind]
    have ih := pieces_eds (batchT (e :: r)) r [] (edT e) (1 + ((linesFs e.fields).map ind2).length) (by rw [batchT_cons]; rfl) (by unfold edT edLs textL; simp) (fun x hx => goodE_kind (hg x (List.mem_cons_of_mem _ hx)))
    have el : (edT e).length = (lineA e.kind e.id).length + 1 + (textL ((linesFs e.fields).map ind2)).length := by unfold edT edLs textL; simp; omega
    rw [el] at ih
    simp only [List.length_nil] at ih
    rw [show 0 + ((lineA e.kind e.id).length + 1 + (textL ((linesFs e.fields).map ind2)).length) = 0 + (lineA e.kind e.id).length + 1 + (textL ((linesFs e.fields).map ind2)).length by omega] at ih
    exact ih
  rw [e2, List.map_map]
  conv => rhs; rw [<- List.map_id (e :: r)]
  exact List.map_congr_left fun x hx => said_good (goodE_F (hg x hx)) (goodE_kind (hg x hx)) (hi x hx)
def decL (t : List UInt8) : Option (List Ed) := if t.length <= 50000 /\ (chkB (readL t)).2 = 0 /\ batchT (readL t) = t then some (readL t) else none
theorem atoiV_I64 (l : List UInt8) : I64 (atoiV l) := by
  unfold atoiV
  cases h : Lib.atoiAll l with
  | ok v =>
    show I64 v
    unfold Lib.atoiAll at h
    split at h
    . cases h
    simp only at h
    split at h
    . cases h
    . cases h
    split at h
    . cases h
    split at h
    . cases h
    injection h with h
    subst h
    split
    . exact ⟨by omega, by omega⟩
    exact ⟨by omega, by omega⟩
  | range =>
    show I64 (Lib.atoiSat l)
    unfold Lib.atoiSat
    split
    . exact ⟨by decide, by decide⟩
    exact ⟨by decide, by decide⟩
  | _ => exact (⟨by decide, by decide⟩ : I64 0)
theorem read_I64 (t : List UInt8) : ∀ ed ∈ readL t, I64 ed.id := by
  intro ed hed
  obtain ⟨p, _, rfl⟩ := List.mem_map.1 hed
  exact atoiV_I64 _
theorem decL_iff {t : List UInt8} {eds : List Ed} : decL t = some eds ↔ t.length <= 50000 /\ (chkB eds).2 = 0 /\ (∀ ed ∈ eds, I64 ed.id) /\ batchT eds = t := by
  unfold decL
  constructor
  . intro h
    split at h
    . rename_i q
      injection h with h
      subst h
      exact ⟨q.1, q.2.1, read_I64 t, q.2.2⟩
    cases h
  rintro ⟨h1, h2, h3, rfl⟩
  obtain ⟨⟨a, b⟩, c⟩ := chkB_good h2
  have e := read_batch (by intro e; rw [e] at a; simp at a) c h3
  rw [if_pos ⟨h1, by rw [e]; exact h2, by rw [e]⟩, e]
end Go.Proofs.YtbkeoiefolkjfaaGreatDoor
namespace Go.Proofs.YtbkeoiefolkjfaaGreatDoor
open Go.RowKit Go.Extern.Stop Go.Stop Go.Extern
theorem valueOfPP (t : Addr) (w : World) : (ReflectliteValue.unpack (.iface 188 (.pointer (some t)))).run Tryz.prog w
    = .ok (.agg #[.pointer (some ⟨9, 188, none⟩), .pointer (some ⟨w.heap.size, 0, none⟩), .int .u64 150]) (w.alloc (.cells #[.pointer (some t)] 188)) := by kernel_rfl
theorem typePP (a : Addr) (w : World) : (ReflectliteValue.methodAny (ReflectliteValue.valueError "reflectlite.Value.Type" 0) (fun t _ _ _ => ReflectliteType.toType t) #[.agg #[.pointer (some ⟨9, 188, none⟩), .pointer (some a), .int .u64 150]]).run Tryz.prog w
    = .ok (.iface 246 (.agg #[.pointer (some ⟨9, 188, none⟩)])) w := by kernel_rfl
theorem methodKind (h : Value) (w : World) : (Go.method 402 246 (.agg #[h]) "Kind").run Tryz.prog w = .ok (240, h) w := by kernel_rfl
theorem kindPP (w : World) : ((ReflectliteType.abiMethod fun t => (fun a : Nat => Value.int IntKind.u8 (a : Int)) <$> Rtype.kind t) #[.pointer (some ⟨9, 188, none⟩)]).run Tryz.prog w = .ok (.int .u8 22) w := by kernel_rfl
theorem kindP (w : World) : ((ReflectliteType.abiMethod fun t => (fun a : Nat => Value.int IntKind.u8 (a : Int)) <$> Rtype.kind t) #[.pointer (some ⟨9, 68, none⟩)]).run Tryz.prog w = .ok (.int .u8 22) w := by kernel_rfl
theorem rlm9 (z : Sem Value) (f : TypeId -> Addr -> Nat -> Nat -> Sem Value) (v : Value) :
    ReflectliteValue.method z f #[v] = (do match <- ReflectliteValue.parts v with | none => z | some (t, a, fl) => f t a fl (fl % 32)) := rfl
theorem partsPP (a : Addr) (w : World) : (ReflectliteValue.parts (.agg #[.pointer (some ⟨9, 188, none⟩), .pointer (some a), .int .u64 150])).run Tryz.prog w = .ok (some (188, a, 150)) w := by kernel_rfl
theorem isNilPP (a p : Addr) (W : World) (ha : W.cell? a = some (.pointer (some p))) :
    (ReflectliteValue.method (ReflectliteValue.valueError "reflectlite.Value.IsNil" 0) ReflectliteValue.isNil #[.agg #[.pointer (some ⟨9, 188, none⟩), .pointer (some a), .int .u64 150]]).run Tryz.prog W = .ok (.bool false) W := by
  rw [rlm9]
  simp only [Sem.run_bind, partsPP, Result.andThen]
  simp [ReflectliteValue.isNil, loadVar, isAgg, underlying, Tryz.underlying188, ha, Result.andThen]
theorem methodElem (h : Value) (w : World) : (Go.method 402 246 (.agg #[h]) "Elem").run Tryz.prog w = .ok (256, .agg #[h]) w := by kernel_rfl
theorem methodImplements (h : Value) (w : World) : (Go.method 402 246 (.agg #[h]) "Implements").run Tryz.prog w = .ok (257, .agg #[h]) w := by kernel_rfl
theorem methodAssignableTo (h : Value) (w : World) : (Go.method 402 246 (.agg #[h]) "AssignableTo").run Tryz.prog w = .ok (254, .agg #[h]) w := by kernel_rfl
theorem elemPP (w : World) : (ReflectliteType.method ReflectliteType.elem #[.agg #[.pointer (some ⟨9, 188, none⟩)]]).run Tryz.prog w = .ok (.iface 246 (.agg #[.pointer (some ⟨9, 68, none⟩)])) w := by kernel_rfl
theorem implementsP (w : World) : (ReflectliteType.relation "Implements" ReflectliteType.implements_ #[.agg #[.pointer (some ⟨9, 68, none⟩)], .iface 246 (.agg #[.pointer (some ⟨9, 28, none⟩)])]).run Tryz.prog w = .ok (.bool true) w := by kernel_rfl
theorem typeOfP (v : Value) (w : World) : (ReflectliteType.typeOf #[.iface 68 v]).run Tryz.prog w = .ok (.iface 246 (.agg #[.pointer (some ⟨9, 68, none⟩)])) w := by kernel_rfl
theorem typeOfE (v : Value) (w : World) : (ReflectliteType.typeOf #[.iface 57 v]).run Tryz.prog w = .ok (.iface 246 (.agg #[.pointer (some ⟨9, 57, none⟩)])) w := by kernel_rfl
theorem assignableP (w : World) : (ReflectliteType.relation "AssignableTo" ReflectliteType.assignableTo #[.agg #[.pointer (some ⟨9, 68, none⟩)], .iface 246 (.agg #[.pointer (some ⟨9, 68, none⟩)])]).run Tryz.prog w = .ok (.bool true) w := by kernel_rfl
theorem assignableE (w : World) : (ReflectliteType.relation "AssignableTo" ReflectliteType.assignableTo #[.agg #[.pointer (some ⟨9, 57, none⟩)], .iface 246 (.agg #[.pointer (some ⟨9, 68, none⟩)])]).run Tryz.prog w = .ok (.bool false) w := by kernel_rfl
theorem valueOfP (e : Addr) (w : World) : (ReflectliteValue.unpack (.iface 68 (.pointer (some e)))).run Tryz.prog w
    = .ok (.agg #[.pointer (some ⟨9, 68, none⟩), .pointer (some ⟨w.heap.size, 0, none⟩), .int .u64 150]) (w.alloc (.cells #[.pointer (some e)] 68)) := by kernel_rfl
theorem elemOfPP (w : World) : (Rtype.elem? 188).run Tryz.prog w = .ok (some 68) w := by kernel_rfl
theorem mkP (p : Addr) (w : World) : (ReflectliteValue.mk 68 p ReflectliteValue.flagAddr).run Tryz.prog w = .ok (.agg #[.pointer (some ⟨9, 68, none⟩), .pointer (some p), .int .u64 406]) w := by kernel_rfl
theorem elemVPP (a p : Addr) (W : World) (ha : W.cell? a = some (.pointer (some p))) :
    (ReflectliteValue.method (ReflectliteValue.valueError "reflectlite.Value.Elem" 0) ReflectliteValue.elem #[.agg #[.pointer (some ⟨9, 188, none⟩), .pointer (some a), .int .u64 150]]).run Tryz.prog W
      = .ok (.agg #[.pointer (some ⟨9, 68, none⟩), .pointer (some p), .int .u64 406]) W := by
  rw [rlm9]
  simp only [Sem.run_bind, partsPP, Result.andThen]
  simp [ReflectliteValue.elem, loadVar, isAgg, underlying, Tryz.underlying188, ha, Result.andThen, elemOfPP, mkP]
theorem rls9 (v x : Value) : ReflectliteValue.set #[v, x] = (do
    let (some (dst, a, fl), some (src, b, _)) := (<- ReflectliteValue.parts v, <- ReflectliteValue.parts x)
      | unsupported (.noEntry "extern/(internal/reflectlite.Value).Set.zeroValue")
    if fl / ReflectliteValue.flagAddr % 2 == 0 then unsupported (.noEntry "extern/(internal/reflectlite.Value).Set.unaddressable")
    let val <- loadVar src b
    if <- Rtype.directlyAssignable dst src then storeVar dst a val
    else if <- Rtype.implements dst src then
      if (<- Rtype.kind src) == 20 then
        match val with
        | .nilIface => unsupported (.noEntry "extern/reflectlite: a nil value of one interface type handed on as a value of another")
        | _ => storeVar dst a val
      else storeVar dst a (.iface src val)
    else panicString ("reflectlite.Set: value of type " ++ (<- Rtype.spelt src) ++ " is not assignable to type " ++ (<- Rtype.spelt dst))
    pure (.tuple #[])) := rfl
theorem partsPa (a : Addr) (w : World) : (ReflectliteValue.parts (.agg #[.pointer (some ⟨9, 68, none⟩), .pointer (some a), .int .u64 406])).run Tryz.prog w = .ok (some (68, a, 406)) w := by kernel_rfl
theorem partsP (a : Addr) (w : World) : (ReflectliteValue.parts (.agg #[.pointer (some ⟨9, 68, none⟩), .pointer (some a), .int .u64 150])).run Tryz.prog w = .ok (some (68, a, 150)) w := by kernel_rfl
theorem directP (w : World) : (Rtype.directlyAssignable 68 68).run Tryz.prog w = .ok true w := by kernel_rfl
theorem setP (ta b e : Addr) (old : Value) (W : World) (hb : W.cell? b = some (.pointer (some e))) (ht : W.cell? ta = some old) (hf : W.frozen? ta = false) :
    (ReflectliteValue.set #[.agg #[.pointer (some ⟨9, 68, none⟩), .pointer (some ta), .int .u64 406], .agg #[.pointer (some ⟨9, 68, none⟩), .pointer (some b), .int .u64 150]]).run Tryz.prog W
      = .ok (.tuple #[]) (W.setCell ta (.pointer (some e))) := by
  rw [rls9]
  simp only [Sem.run_bind, partsPa, partsP, Result.andThen]
  simp [ReflectliteValue.flagAddr, loadVar, isAgg, underlying, Tryz.underlying68, hb, Result.andThen, directP, storeVar, Value.cells, storeCells, Addr.add]
  rw [run_store Tryz.prog W ta _ _ (by rfl)]
  simp [ht, hf]
def ErrT (w : World) : Prop := w.cell? ⟨1, 0, none⟩ = some (.iface 246 (.agg #[.pointer (some ⟨9, 28, none⟩)]))
end Go.Proofs.YtbkeoiefolkjfaaGreatDoor
namespace Go.Proofs.YtbkeoiefolkjfaaGreatDoor
open Go.RowKit Go.Extern.Stop Go.Stop Go.Extern
abbrev hPP : Value := .pointer (some ⟨9, 188, none⟩)
abbrev hP : Value := .pointer (some ⟨9, 68, none⟩)
theorem asIn_hit (e t a : Addr) (old : Value) (w : World) (ha : w.cell? a = some (.pointer (some t))) (ht0 : w.cell? t = some old) (hf0 : w.frozen? t = false) :
    Calls Tryz.prog 186 #[.iface 68 (.pointer (some e)), .iface 188 (.pointer (some t)), .agg #[.pointer (some ⟨9, 188, none⟩), .pointer (some a), .int .u64 150], .iface 246 (.agg #[.pointer (some ⟨9, 68, none⟩)])] w
      fun ev w' => ev = .returned (.bool true) /\ w' = ((w.alloc (.cells #[.pointer (some ⟨9, 188, none⟩), .pointer (some a), .int .u64 150] 219)).alloc (.cells #[.pointer (some e)] 68)).setCell t (.pointer (some e)) := by
  have h10 := @run_callFunc_extern Tryz.prog 205 _ ReflectliteType.typeOf Tryz.func205 (by kernel_rfl) (by kernel_rfl) (by kernel_rfl) (by kernel_rfl)
  have h35 := @run_callFunc_extern Tryz.prog 254 _ (ReflectliteType.relation "AssignableTo" ReflectliteType.assignableTo) Tryz.func254 (by kernel_rfl) (by kernel_rfl) (by kernel_rfl) (by kernel_rfl)
  have h6 := @run_callFunc_extern Tryz.prog 183 _ (fun args => ReflectliteValue.unpack (args.getD 0 (.tuple #[]))) Tryz.func183 (by kernel_rfl) (by kernel_rfl) (by kernel_rfl) (by kernel_rfl)
  have h11 := @run_callFunc_extern Tryz.prog 206 _ (ReflectliteValue.method (ReflectliteValue.valueError "reflectlite.Value.Elem" 0) ReflectliteValue.elem) Tryz.func206 (by kernel_rfl) (by kernel_rfl) (by kernel_rfl) (by kernel_rfl)
  have h12 := @run_callFunc_extern Tryz.prog 207 _ ReflectliteValue.set Tryz.func207 (by kernel_rfl) (by kernel_rfl) (by kernel_rfl) (by kernel_rfl)
  have tO := typeOfP
  have mA := methodAssignableTo
  have a25 := assignableP
  have v25 := valueOfP
  have htl : t.block < w.heap.size := by
    rcases Nat.lt_or_ge t.block w.heap.size with h | h
    . exact h
    simp [World.cell?, Array.getElem?_eq_none h] at ht0
  have hal : a.block < w.heap.size := by
    rcases Nat.lt_or_ge a.block w.heap.size with h | h
    . exact h
    simp [World.cell?, Array.getElem?_eq_none h] at ha
  have el := elemVPP a t (w.alloc (.cells #[.pointer (some ⟨9, 188, none⟩), .pointer (some a), .int .u64 150] 219)) (by rw [World.cell?_alloc_lt _ _ a hal]; exact ha)
  have st := setP t ⟨w.heap.size + 1, 0, none⟩ e old ((w.alloc (.cells #[.pointer (some ⟨9, 188, none⟩), .pointer (some a), .int .u64 150] 219)).alloc (.cells #[.pointer (some e)] 68))
    (by rw [World.cell?_alloc_at _ _ _ _ (by simp)]; rfl)
    (by rw [World.cell?_alloc_lt _ _ t (by simp; omega), World.cell?_alloc_lt _ _ t htl]; exact ht0)
    (by rw [World.frozen?_alloc_old _ _ t (by simp; omega), World.frozen?_alloc_old _ _ t (Nat.ne_of_lt htl)]; exact hf0)
  go_enter Tryz.func186, Tryz.ntmps186
  go_wp2
  refine wp_loop_rounds 1 ?_
  rw [rounds_succ]
  go_wp2
  go_ret
  exact ⟨rfl, rfl⟩
theorem noAsE (v : Value) (xT : TypeId) (w : World) : (Instr.typeAssert (.iface 57 v) xT 251 true).run Tryz.prog w = .ok (.tuple #[.nilIface, .bool false]) w := run_typeAssert_lacksB Tryz.underlying251 (by kernel_rfl) (by kernel_rfl) v xT w
theorem noUnE (v : Value) (xT : TypeId) (w : World) : (Instr.typeAssert (.iface 57 v) xT 254 true).run Tryz.prog w = .ok (.tuple #[.nilIface, .bool false]) w := run_typeAssert_lacksB Tryz.underlying254 (by kernel_rfl) (by kernel_rfl) v xT w
theorem noUnsE (v : Value) (xT : TypeId) (w : World) : (Instr.typeAssert (.iface 57 v) xT 255 true).run Tryz.prog w = .ok (.tuple #[.nilIface, .bool false]) w := run_typeAssert_lacksB Tryz.underlying255 (by kernel_rfl) (by kernel_rfl) v xT w
theorem asIn_miss (n : Int) (t a : Addr) (w : World) :
    Calls Tryz.prog 186 #[.iface 57 (.int .i64 n), .iface 188 (.pointer (some t)), .agg #[.pointer (some ⟨9, 188, none⟩), .pointer (some a), .int .u64 150], .iface 246 (.agg #[.pointer (some ⟨9, 68, none⟩)])] w
      fun ev w' => ev = .returned (.bool false) /\ Below w.heap.size w w' := by
  have h10 := @run_callFunc_extern Tryz.prog 205 _ ReflectliteType.typeOf Tryz.func205 (by kernel_rfl) (by kernel_rfl) (by kernel_rfl) (by kernel_rfl)
  have h35 := @run_callFunc_extern Tryz.prog 254 _ (ReflectliteType.relation "AssignableTo" ReflectliteType.assignableTo) Tryz.func254 (by kernel_rfl) (by kernel_rfl) (by kernel_rfl) (by kernel_rfl)
  have tO := typeOfE
  have mA := methodAssignableTo
  have a25 := assignableE
  have n1 := noAsE
  have n2 := noUnE
  have n3 := noUnsE
  go_enter Tryz.func186, Tryz.ntmps186
  go_wp2
  refine wp_loop_rounds 1 ?_
  rw [rounds_succ]
  go_wp2
  go_ret
  exact ⟨rfl, (Below.refl _ _).alloc (Nat.le_refl _) _⟩
end Go.Proofs.YtbkeoiefolkjfaaGreatDoor
namespace Go.Proofs.YtbkeoiefolkjfaaGreatDoor
open Go.RowKit Go.Extern.Stop Go.Stop Go.Extern
theorem ErrT.below {w w' : World} {N : Nat} (h : ErrT w) (hb : Below N w w') (hN : w.heap.size <= N) : ErrT w' := by
  have hlt : 1 < w.heap.size := World.block_lt_of_cell? w _ h
  exact (hb.cell (p := ⟨1, 0, none⟩) (Nat.lt_of_lt_of_le hlt hN)).trans h
theorem as_hit (e t : Addr) (old : Value) (w : World) (hg : ErrT w) (ht0 : w.cell? t = some old) (hf0 : w.frozen? t = false) :
    Calls Tryz.prog 151 #[.iface 68 (.pointer (some e)), .iface 188 (.pointer (some t))] w
      fun ev w' => ev = .returned (.bool true) /\ ∃ w1, Below w.heap.size w w1 /\ w' = w1.setCell t (.pointer (some e)) := by
  have h6 := @run_callFunc_extern Tryz.prog 183 _ (fun args => ReflectliteValue.unpack (args.getD 0 (.tuple #[]))) Tryz.func183 (by kernel_rfl) (by kernel_rfl) (by kernel_rfl) (by kernel_rfl)
  have h7 := @run_callFunc_extern Tryz.prog 184 _ (ReflectliteValue.methodAny (ReflectliteValue.valueError "reflectlite.Value.Type" 0) (fun t _ _ _ => ReflectliteType.toType t)) Tryz.func184 (by kernel_rfl) (by kernel_rfl) (by kernel_rfl) (by kernel_rfl)
  have h8 := @run_callFunc_extern Tryz.prog 185 _ (ReflectliteValue.method (ReflectliteValue.valueError "reflectlite.Value.IsNil" 0) ReflectliteValue.isNil) Tryz.func185 (by kernel_rfl) (by kernel_rfl) (by kernel_rfl) (by kernel_rfl)
  have h27 := @run_callFunc_extern Tryz.prog 240 _ (ReflectliteType.abiMethod fun t => do pure (.int .u8 (<- Rtype.kind t))) Tryz.func240 (by kernel_rfl) (by kernel_rfl) (by kernel_rfl) (by kernel_rfl)
  have h37 := @run_callFunc_extern Tryz.prog 256 _ (ReflectliteType.method ReflectliteType.elem) Tryz.func256 (by kernel_rfl) (by kernel_rfl) (by kernel_rfl) (by kernel_rfl)
  have h38 := @run_callFunc_extern Tryz.prog 257 _ (ReflectliteType.relation "Implements" ReflectliteType.implements_) Tryz.func257 (by kernel_rfl) (by kernel_rfl) (by kernel_rfl) (by kernel_rfl)
  have f6 := valueOfPP
  have f7 := typePP
  have mK := methodKind
  have mE := methodElem
  have mI := methodImplements
  have k27 := kindPP
  have k25 := kindP
  have e27 := elemPP
  have i25 := implementsP
  have htl : t.block < w.heap.size := by
    rcases Nat.lt_or_ge t.block w.heap.size with h | h
    . exact h
    simp [World.cell?, Array.getElem?_eq_none h] at ht0
  obtain ⟨wa, hwa⟩ : ∃ wa, wa = (w.alloc (.cells #[.pointer (some t)] 188)).alloc (.cells #[.pointer (some ⟨9, 188, none⟩), .pointer (some ⟨w.heap.size, 0, none⟩), .int .u64 150] 219) := ⟨_, rfl⟩
  have hba : Below w.heap.size w wa := by rw [hwa]; exact ((Below.refl _ w).alloc (Nat.le_refl _) _).alloc (by simp) _
  have n8 := isNilPP ⟨w.heap.size, 0, none⟩ t wa (by rw [hwa]; simp)
  have hg2 : wa.cell? ⟨1, 0, none⟩ = some (.iface 246 (.agg #[.pointer (some ⟨9, 28, none⟩)])) := hg.below hba (Nat.le_refl _)
  have HI := Lib.hid (asIn_hit e t ⟨w.heap.size, 0, none⟩ old wa (by rw [hwa]; simp) ((hba.cell htl).trans ht0) ((hba.frozen htl).trans hf0))
  have HB := Lib.hid hba
  subst hwa
  clear hba
  go_enter Tryz.func151, Tryz.ntmps151
  go_wp2_with fail
  refine HI.out.mono ?_
  rintro ev w2 ⟨rfl, rfl⟩
  go_wp2_with fail
  go_ret
  exact ⟨rfl, _, (HB.out.alloc HB.out.size _).alloc (HB.out.alloc HB.out.size _).size _, rfl⟩
theorem as_miss (n : Int) (t : Addr) (w : World) (hg : ErrT w) :
    Calls Tryz.prog 151 #[.iface 57 (.int .i64 n), .iface 188 (.pointer (some t))] w
      fun ev w' => ev = .returned (.bool false) /\ Below w.heap.size w w' := by
  have h6 := @run_callFunc_extern Tryz.prog 183 _ (fun args => ReflectliteValue.unpack (args.getD 0 (.tuple #[]))) Tryz.func183 (by kernel_rfl) (by kernel_rfl) (by kernel_rfl) (by kernel_rfl)
  have h7 := @run_callFunc_extern Tryz.prog 184 _ (ReflectliteValue.methodAny (ReflectliteValue.valueError "reflectlite.Value.Type" 0) (fun t _ _ _ => ReflectliteType.toType t)) Tryz.func184 (by kernel_rfl) (by kernel_rfl) (by kernel_rfl) (by kernel_rfl)
  have h8 := @run_callFunc_extern Tryz.prog 185 _ (ReflectliteValue.method (ReflectliteValue.valueError "reflectlite.Value.IsNil" 0) ReflectliteValue.isNil) Tryz.func185 (by kernel_rfl) (by kernel_rfl) (by kernel_rfl) (by kernel_rfl)
  have h27 := @run_callFunc_extern Tryz.prog 240 _ (ReflectliteType.abiMethod fun t => do pure (.int .u8 (<- Rtype.kind t))) Tryz.func240 (by kernel_rfl) (by kernel_rfl) (by kernel_rfl) (by kernel_rfl)
  have h37 := @run_callFunc_extern Tryz.prog 256 _ (ReflectliteType.method ReflectliteType.elem) Tryz.func256 (by kernel_rfl) (by kernel_rfl) (by kernel_rfl) (by kernel_rfl)
  have h38 := @run_callFunc_extern Tryz.prog 257 _ (ReflectliteType.relation "Implements" ReflectliteType.implements_) Tryz.func257 (by kernel_rfl) (by kernel_rfl) (by kernel_rfl) (by kernel_rfl)
  have f6 := valueOfPP
  have f7 := typePP
  have mK := methodKind
  have mE := methodElem
  have mI := methodImplements
  have k27 := kindPP
  have k25 := kindP
  have e27 := elemPP
  have i25 := implementsP
  obtain ⟨wa, hwa⟩ : ∃ wa, wa = (w.alloc (.cells #[.pointer (some t)] 188)).alloc (.cells #[.pointer (some ⟨9, 188, none⟩), .pointer (some ⟨w.heap.size, 0, none⟩), .int .u64 150] 219) := ⟨_, rfl⟩
  have hba : Below w.heap.size w wa := by rw [hwa]; exact ((Below.refl _ w).alloc (Nat.le_refl _) _).alloc (by simp) _
  have n8 := isNilPP ⟨w.heap.size, 0, none⟩ t wa (by rw [hwa]; simp)
  have hg2 : wa.cell? ⟨1, 0, none⟩ = some (.iface 246 (.agg #[.pointer (some ⟨9, 28, none⟩)])) := hg.below hba (Nat.le_refl _)
  have HI := Lib.hid (asIn_miss n t ⟨w.heap.size, 0, none⟩ wa)
  have HB := Lib.hid hba
  subst hwa
  clear hba
  go_enter Tryz.func151, Tryz.ntmps151
  go_wp2_with fail
  refine HI.out.mono ?_
  rintro ev w2 ⟨rfl, b2⟩
  go_wp2_with fail
  go_ret
  exact ⟨rfl, HB.out.trans (b2.mono HB.out.size)⟩
end Go.Proofs.YtbkeoiefolkjfaaGreatDoor
namespace Go.Proofs.YtbkeoiefolkjfaaGreatDoor
open Go.RowKit Go.Shelf
attribute [local go_sem] Oper.semAt_some
def EdV (w : World) (v : Value) (eds : List Ed) : Prop :=
  ∃ A cap, v = .slice A eds.length cap /\ eds.length <= cap /\ ∀ (i : Nat) (ed : Ed), eds[i]? = some ed -> ∃ b off fv, A = some ⟨b, off, none⟩ /\ b < w.heap.size /\ w.cell? ⟨b, off + i * 3, none⟩ = some (.int .i64 ed.kind) /\ w.cell? ⟨b, off + i * 3 + 1, none⟩ = some (.int .i64 ed.id) /\ w.cell? ⟨b, off + i * 3 + 1 + 1, none⟩ = some fv /\ FldR w fv ed.fields
theorem EdV.below {w w' : World} {v : Value} {eds : List Ed} {N : Nat} (h : EdV w v eds) (hb : Below N w w') (hN : w.heap.size <= N) : EdV w' v eds := by
  obtain ⟨A, cap, e, hle, hc⟩ := h
  refine ⟨A, cap, e, hle, fun i ed hi => ?_⟩
  obtain ⟨b, off, fv, e1, hbb, c0, c1, c2, hf⟩ := hc i ed hi
  have hbN : b < N := by omega
  exact ⟨b, off, fv, e1, Nat.lt_of_lt_of_le hbb hb.size, (hb.cell (p := ⟨b, off + i * 3, none⟩) hbN).trans c0, (hb.cell (p := ⟨b, off + i * 3 + 1, none⟩) hbN).trans c1, (hb.cell (p := ⟨b, off + i * 3 + 1 + 1, none⟩) hbN).trans c2, hf.below hb hN⟩
theorem EdsIn.edv {w : World} {v : Value} {eds : List Ed} (h : EdsIn w v eds) : EdV w v eds := by
  obtain ⟨_, A, cap, e, hle, hc⟩ := h
  refine ⟨A, cap, e, hle, fun i ed hi => ?_⟩
  obtain ⟨b, off, fv, e1, hbb, c0, c1, c2, hf⟩ := hc i ed hi
  exact ⟨b, off, fv, e1, hbb, c0, c1, c2, hf.flds, hf.nil⟩
def Fines (eds : List Ed) : Prop := ∀ ed ∈ eds, Fine7 ed.fields
structure Fine8 (fs : List Fld) : Prop where
  len : fs.length <= 1000000
  each : ∀ f ∈ fs, f.1.length <= 100000 /\ f.2.length <= 100000
def Fines8 (eds : List Ed) : Prop := ∀ ed ∈ eds, Fine8 ed.fields
theorem Fines.eight {eds : List Ed} (h : Fines eds) : Fines8 eds := fun ed hm => ⟨by have := (h ed hm).len; omega, (h ed hm).each⟩
theorem Light.fines {eds : List Ed} (h : Light eds) : Fines eds := fun _ he => h.fine he
theorem ErrZ.mono {lo lo' : Nat} {w : World} {u : Value} {a : Int} {n : Nat} (h : ErrZ lo w u a n) (hl : lo' <= lo) : ErrZ lo' w u a n := by
  obtain ⟨h1, h2⟩ := h
  refine ⟨h1, ?_⟩
  rcases h2 with h2 | ⟨k, h3, h4⟩
  . exact .inl h2
  exact .inr ⟨k, h3.mono hl, h4⟩
theorem ErrZ.fault {lo : Nat} {w : World} {u : Value} {k n : Nat} (h : FaultAt lo w u k n) (hn : n ≠ 0) (h11 : n <= 11) : ErrZ lo w u (k : Nat) n := ⟨h11, .inr ⟨k, h, rfl, hn⟩⟩
theorem fault_any {lo : Nat} (k n : Nat) (a : Int) (u : Value) (w : World) (h : ErrZ lo w u a n) (hn : n ≠ 0) (hg : ErrT w) :
    Calls Tryz.prog 120 #[.int .i64 (k : Nat), u] w fun e w' => ∃ u', e = .returned u' /\ Below w.heap.size w w' /\ FaultAt w.heap.size w' u' k n := by
  obtain ⟨_, h⟩ := h
  obtain ⟨wa, hwa⟩ : ∃ wa, wa = w.alloc (.cells #[.pointer none] 68) := ⟨_, rfl⟩
  have hba : Below w.heap.size w wa := by rw [hwa]; exact (Below.refl _ w).alloc (Nat.le_refl _) _
  have hga : ErrT wa := hg.below hba (Nat.le_refl _)
  have ht : wa.cell? ⟨w.heap.size, 0, none⟩ = some (.pointer none) := by rw [hwa]; simp
  have hf : wa.frozen? ⟨w.heap.size, 0, none⟩ = false := by rw [hwa]; simp
  have hz : wa.heap.size = w.heap.size + 1 := by rw [hwa]; simp
  rcases h with ⟨rfl, _⟩ | ⟨k', ⟨q, _, rfl, hq⟩, _, _⟩
  . rw [errV_pos n (by omega)]
    have HM := Lib.hid (as_miss (n : Int) ⟨w.heap.size, 0, none⟩ wa hga)
    have HBA := Lib.hid hba
    have FIN : Hid (∀ W, Below wa.heap.size wa W -> FaultAt w.heap.size (W.alloc (.cells #[.int .i64 (k : Nat), .iface 57 (.int .i64 (n : Nat))] 70)) (.iface 68 (.pointer (some ⟨W.heap.size, 0, none⟩))) k n) := by
      intro W hW
      rw [<- errV_pos n (by omega)]
      exact FaultAt.new W k n _ _ rfl (by have := hW.size; omega)
    clear hba hga ht hf
    subst hwa
    go_enter Tryz.func120, Tryz.ntmps120
    go_wp2_with fail
    refine HM.out.mono ?_
    rintro e w2 ⟨rfl, b2⟩
    have F2 := FIN.out w2 b2
    have B2 : Below w.heap.size w w2 := HBA.out.trans (b2.mono HBA.out.size)
    go_wp2_with fail
    go_ret
    exact ⟨_, rfl, B2.alloc B2.size _, F2⟩
  have hql := hq.lt
  have HM := Lib.hid (as_hit ⟨q, 0, none⟩ ⟨w.heap.size, 0, none⟩ (.pointer none) wa hga ht hf)
  have HBA := Lib.hid hba
  have HQ : Hid (∀ w1, Below wa.heap.size wa w1 -> (w1.setCell ⟨w.heap.size, 0, none⟩ (.pointer (some ⟨q, 0, none⟩))).cell? ⟨w.heap.size, 0, none⟩ = some (.pointer (some ⟨q, 0, none⟩)) /\ (w1.setCell ⟨w.heap.size, 0, none⟩ (.pointer (some ⟨q, 0, none⟩))).cell? ⟨q, 1, none⟩ = some (.iface 57 (.int .i64 (n : Nat))) /\ Below w.heap.size w (w1.setCell ⟨w.heap.size, 0, none⟩ (.pointer (some ⟨q, 0, none⟩)))) := by
    intro w1 b1
    have hb : Below w.heap.size w w1 := hba.trans (b1.mono hba.size)
    have c1 : Cells w1 w.heap.size 68 #[.pointer none] := cells_kept (by rw [hwa]; exact Cells.new _ _ _) b1 (by omega)
    have c1' := c1.set 0 (.pointer (some ⟨q, 0, none⟩))
    have cq : Cells w1 q 70 #[.int .i64 k', errV n] := cells_kept hq hb hql
    have cq' : Cells (w1.setCell ⟨w.heap.size, 0, none⟩ (.pointer (some ⟨q, 0, none⟩))) q 70 #[.int .i64 k', errV n] := cq.other (p := ⟨w.heap.size, 0, none⟩) (by show q ≠ w.heap.size; omega) _
    refine ⟨?_, ?_, hb.setCell (p := ⟨w.heap.size, 0, none⟩) (Nat.le_refl _) _⟩
    . rw [c1'.cell 0]; rfl
    rw [<- errV_pos n (by omega), cq'.cell 1]; rfl
  have FIN : Hid (∀ W : World, w.heap.size <= W.heap.size -> FaultAt w.heap.size (W.alloc (.cells #[.int .i64 (k : Nat), .iface 57 (.int .i64 (n : Nat))] 70)) (.iface 68 (.pointer (some ⟨W.heap.size, 0, none⟩))) k n) := by
    intro W hW
    rw [<- errV_pos n (by omega)]
    exact FaultAt.new W k n _ _ rfl hW
  clear hba hga ht hf hq
  subst hwa
  go_enter Tryz.func120, Tryz.ntmps120
  go_wp2_with fail
  refine HM.out.mono ?_
  rintro e w2 ⟨rfl, w1, b1, hw2⟩
  obtain ⟨c1, c2, hb⟩ := HQ.out w1 b1
  rw [<- hw2] at c1 c2 hb
  have F2 := FIN.out w2 hb.size
  clear hw2 HQ b1 HM
  go_wp2_with fail
  go_ret
  exact ⟨_, rfl, hb.alloc hb.size _, F2⟩
theorem chkE_any8 (ed : Ed) (fv : Value) (w : World) (h : Flds w fv ed.fields) (hf : Fine8 ed.fields) :
    Calls Tryz.prog 119 #[.agg #[.int .i64 ed.kind, .int .i64 ed.id, fv]] w fun e w' => ∃ u a, e = .returned u /\ Below w.heap.size w w' /\ ErrZ w.heap.size w' u a (goodE ed) := by
  obtain ⟨fa, fc, rfl, _, _⟩ := _root_.id h
  obtain ⟨wa, hwa⟩ : ∃ wa, wa = w.alloc (.cells #[.int .i64 ed.kind, .int .i64 ed.id, .slice fa ed.fields.length fc] 40) := ⟨_, rfl⟩
  have hba : Below w.heap.size w wa := by rw [hwa]; exact (Below.refl _ w).alloc (Nat.le_refl _) _
  have HC := Lib.hid (chk_any ed.fields (.slice fa ed.fields.length fc) wa (h.below hba (Nat.le_refl _)) (by have := hf.len; omega) (fun f hm => by have := hf.each f hm; omega))
  have HB := Lib.hid hba
  have GE := Lib.hid (show goodE ed = if ed.kind = 1 \/ ed.kind = 3 then chkN ed.fields else if ed.kind = 2 /\ ed.fields.length = 0 then 0 else 2 from rfl)
  have FIN : Hid (∀ W u, ErrZ wa.heap.size W u (chkAt ed.fields) (chkN ed.fields) -> goodE ed = chkN ed.fields -> ∃ a, ErrZ w.heap.size W u a (goodE ed)) := by
    intro W u hz hg
    rw [hg]
    exact ⟨_, hz.mono hba.size⟩
  have HZ : Hid (∀ W u, ChkV wa.heap.size W u ed.fields -> ErrZ wa.heap.size W u (chkAt ed.fields) (chkN ed.fields)) := fun W u h => ErrZ.of h
  have E0 : Hid (∀ W, goodE ed = 0 -> ErrZ w.heap.size W .nilIface (-9) (goodE ed)) := fun W h => by rw [h]; exact ErrZ.none _ _
  have E2 : Hid (∀ W, goodE ed = 2 -> ErrZ w.heap.size W (.iface 57 (.int .i64 2)) (-9) (goodE ed)) := fun W h => by rw [h]; exact ErrZ.err _ _ 2 (by decide)
  have hlz : ((ed.fields.length : Int) == 0) = decide (ed.fields.length = 0) := by
    rw [Bool.eq_iff_iff]; simp
  clear hba h
  subst hwa
  generalize hgg : goodE ed = ge at *
  generalize chkN ed.fields = cn at *
  generalize chkAt ed.fields = ca at *
  generalize ed.fields.length = fl at *
  generalize ed.kind = kk at *
  generalize ed.id = ii at *
  clear hgg
  by_cases h1 : kk = 1
  . subst h1
    have hg : ge = cn := by rw [GE.out, if_pos (.inl rfl)]
    go_enter Tryz.func119, Tryz.ntmps119
    go_wp2_with fail
    refine HC.out.mono ?_
    rintro e w2 ⟨u, rfl, b2, hu⟩
    obtain ⟨a, F2⟩ := FIN.out w2 u (HZ.out w2 u hu) hg
    go_wp2_with fail
    go_ret
    first | exact ⟨_, rfl, HB.out.trans (b2.mono HB.out.size), a, F2⟩ | exact ⟨_, a, rfl, HB.out.trans (b2.mono HB.out.size), F2⟩
  by_cases h3 : kk = 3
  . subst h3
    have hg : ge = cn := by rw [GE.out, if_pos (.inr rfl)]
    go_enter Tryz.func119, Tryz.ntmps119
    go_wp2_with fail
    refine HC.out.mono ?_
    rintro e w2 ⟨u, rfl, b2, hu⟩
    obtain ⟨a, F2⟩ := FIN.out w2 u (HZ.out w2 u hu) hg
    go_wp2_with fail
    go_ret
    first | exact ⟨_, rfl, HB.out.trans (b2.mono HB.out.size), a, F2⟩ | exact ⟨_, a, rfl, HB.out.trans (b2.mono HB.out.size), F2⟩
  have q1 : (kk == 1) = false := by simpa using h1
  have q3 : (kk == 3) = false := by simpa using h3
  by_cases h2 : kk = 2
  . subst h2
    by_cases h0 : fl = 0
    . have hg : ge = 0 := by rw [GE.out, if_neg (by omega), if_pos ⟨rfl, h0⟩]
      have F := E0.out (w.alloc (.cells #[.int .i64 2, .int .i64 ii, .slice fa fl fc] 40)) hg
      clear hg GE E0 E2 FIN HZ
      subst h0
      go_enter Tryz.func119, Tryz.ntmps119
      go_wp2_with fail
      go_ret
      first | exact ⟨_, rfl, HB.out, _, F⟩ | exact ⟨_, _, rfl, HB.out, F⟩
    have hg : ge = 2 := by rw [GE.out, if_neg (by omega), if_neg (by intro h; exact h0 h.2)]
    have F := E2.out (w.alloc (.cells #[.int .i64 2, .int .i64 ii, .slice fa fl fc] 40)) hg
    clear hg GE E0 E2 FIN HZ
    rw [decide_eq_false h0] at hlz
    go_enter Tryz.func119, Tryz.ntmps119
    go_wp2_with fail
    go_ret
    first | exact ⟨_, rfl, HB.out, _, F⟩ | exact ⟨_, _, rfl, HB.out, F⟩
  have q2 : (kk == 2) = false := by simpa using h2
  have hg : ge = 2 := by rw [GE.out, if_neg (by omega), if_neg (by intro h; exact h2 h.1)]
  have F := E2.out (w.alloc (.cells #[.int .i64 kk, .int .i64 ii, .slice fa fl fc] 40)) hg
  clear hg GE E0 E2 FIN HZ
  go_enter Tryz.func119, Tryz.ntmps119
  go_wp2_with fail
  go_ret
  first | exact ⟨_, rfl, HB.out, _, F⟩ | exact ⟨_, _, rfl, HB.out, F⟩
theorem checkB_any8 (eds : List Ed) (v : Value) (w : World) (h : EdV w v eds) (hl : eds.length <= 1000000) (hf : Fines8 eds) (hg : ErrT w) :
    Calls Tryz.prog 83 #[v] w fun e w' => ∃ u, e = .returned u /\ Below w.heap.size w w' /\ ErrZ w.heap.size w' u (chkB eds).1 (chkB eds).2 := by
  obtain ⟨A, cap, rfl, hle, hc⟩ := h
  have PC := Lib.hid hc
  have HF := Lib.hid hf
  have HG := Lib.hid hg
  clear hc hf hg
  by_cases h0 : eds.length = 0
  . have e0 : chkB eds = (-9, 1) := by unfold chkB; rw [if_pos (by omega)]
    rw [e0, h0]
    have F := ErrZ.err w.heap.size w 1 (by decide)
    rw [show errV 1 = .iface 57 (.int .i64 1) from rfl] at F
    go_enter Tryz.func83, Tryz.ntmps83
    go_wp2_with fail
    go_ret
    exact ⟨_, rfl, Below.refl _ _, F⟩
  have q0 : ((eds.length : Int) == 0) = false := by simp; intro h; exact h0 (by rw [h]; rfl)
  by_cases h40 : 40 < eds.length
  . have e0 : chkB eds = (-9, 1) := by unfold chkB; rw [if_pos (by omega)]
    rw [e0]
    have F := ErrZ.err w.heap.size w 1 (by decide)
    rw [show errV 1 = .iface 57 (.int .i64 1) from rfl] at F
    go_enter Tryz.func83, Tryz.ntmps83
    go_wp2_with fail
    go_ret
    exact ⟨_, rfl, Below.refl _ _, F⟩
  have e1 : chkB eds = chkOn 0 eds := by unfold chkB; rw [if_neg (by omega)]
  rw [e1]
  go_enter Tryz.func83, Tryz.ntmps83
  go_wp2_with fail
  go_loopw [17] (fun i wr => ∃ k : Nat, k <= eds.length /\ i = .int .i64 k /\ (∀ x ∈ eds.take k, goodE x = 0) /\ Below w.heap.size w wr) (fun i _ => eds.length - (intOf i).toNat)
  case atStart => exact ⟨0, Nat.zero_le _, rfl, (fun x hx => by simp at hx), Below.refl _ _⟩
  case round =>
  obtain ⟨k, hk, rfl, hsm, hb⟩ := hrel
  by_cases hlt : k < eds.length
  . obtain ⟨ed, hed⟩ : ∃ ed, eds[k]? = some ed := ⟨_, List.getElem?_eq_getElem hlt⟩
    obtain ⟨b, off, fv, rfl, hbb, c0, c1, c2, hfl⟩ := PC.out k ed hed
    obtain ⟨fa, fc, rfl, _, _⟩ := _root_.id hfl.1
    replace c0 := (hb.cell (p := ⟨b, off + k * 3, none⟩) hbb).trans c0
    replace c1 := (hb.cell (p := ⟨b, off + k * 3 + 1, none⟩) hbb).trans c1
    replace c2 := (hb.cell (p := ⟨b, off + k * 3 + 1 + 1, none⟩) hbb).trans c2
    obtain ⟨wa, hwa⟩ : ∃ wa, wa = wr.alloc (.cells #[.int .i64 ed.kind, .int .i64 ed.id, .slice fa ed.fields.length fc] 40) := ⟨_, rfl⟩
    have hba : Below w.heap.size w wa := by rw [hwa]; exact hb.alloc hb.size _
    have CK := Lib.hid (chkE_any8 ed (.slice fa ed.fields.length fc) wa (hfl.1.below hba (Nat.le_refl _)) (HF.out ed (List.mem_of_getElem? hed)))
    have SM : Hid (goodE ed = 0 -> ∀ x ∈ eds.take (k + 1), goodE x = 0) := fun hz x hx => by
      rw [take_snoc hed] at hx
      rcases List.mem_append.1 hx with hx | hx
      . exact hsm x hx
      rw [List.mem_singleton.1 hx]; exact hz
    have AT : Hid (goodE ed ≠ 0 -> chkOn 0 eds = (((k : Nat) : Int), goodE ed)) := fun hz => by rw [chkOn_at eds 0 k ed hsm hed hz, Nat.zero_add]
    have HBA := Lib.hid hba
    have hle11 := goodE_le ed
    clear hed hsm hfl hba
    generalize goodE ed = ge at *
    subst hwa
    go_wp2_with fail
    refine CK.out.mono ?_
    rintro e w2 ⟨u, a, rfl, b2, hz⟩
    have B2 := Lib.hid (HBA.out.trans (b2.mono HBA.out.size))
    by_cases hg0 : ge = 0
    . subst hg0
      obtain ⟨_, ⟨rfl, _⟩ | ⟨_, _, _, hx⟩⟩ := hz
      . have SM1 := Lib.hid (SM.out rfl)
        clear SM AT CK
        rw [show errV 0 = .nilIface from rfl]
        go_wp2_with fail
        go_roundw
        case rel => exact ⟨k + 1, hlt, by go_num, SM1.out, B2.out⟩
        case measure => simp [intOf]; omega
      exact absurd rfl hx
    have FA := Lib.hid (fault_any k ge a u w2 hz hg0 (HG.out.below B2.out (Nat.le_refl _)))
    have AT1 := AT.out hg0
    have hform : (∃ z, u = .iface 57 (.int .i64 z)) \/ ∃ q, u = .iface 68 (.pointer (some ⟨q, 0, none⟩)) := by
      obtain ⟨_, ⟨rfl, _⟩ | ⟨_, ⟨q, _, rfl, _⟩, _, _⟩⟩ := hz
      . rw [errV_pos ge (by omega)]; exact .inl ⟨_, rfl⟩
      exact .inr ⟨q, rfl⟩
    clear hz SM AT CK
    rcases hform with ⟨z, rfl⟩ | ⟨q, rfl⟩
    all_goals
      go_wp2_with fail
      refine FA.out.mono ?_
      rintro e w3 ⟨u', rfl, b3, hfa⟩
      have Z3 : Hid (ErrZ w.heap.size w3 u' (chkOn 0 eds).1 (chkOn 0 eds).2) := by
        show ErrZ _ _ _ _ _
        rw [AT1]; exact ErrZ.fault (hfa.mono B2.out.size) hg0 hle11
      have B3 := Lib.hid (B2.out.trans (b3.mono B2.out.size))
      clear hfa b3
      go_wp2_with fail
      go_ret
      exact ⟨_, rfl, B3.out, Z3.out⟩
  obtain rfl : k = eds.length := by omega
  rw [List.take_length] at hsm
  have HZ : ErrZ w.heap.size wr .nilIface (chkOn 0 eds).1 (chkOn 0 eds).2 := by rw [chkOn_all eds 0 hsm]; exact ErrZ.none w.heap.size wr
  clear PC hsm
  go_wp2_with fail
  go_ret
  exact ⟨_, rfl, hb, HZ⟩
end Go.Proofs.YtbkeoiefolkjfaaGreatDoor
namespace Go.Proofs.YtbkeoiefolkjfaaGreatDoor
open Go.RowKit Go.Shelf
attribute [local go_sem] Oper.semAt_some
theorem var_below {P : Program} {w w' : World} {N : Nat} {name : String} {cs : Array Value} (h : w.var? P name = some cs) (hb : Below N w w') (hN : w.heap.size <= N) : w'.var? P name = some cs := by
  unfold World.var? at *
  cases hg : P.globalNamed name with
  | none => simp [hg] at h
  | some g =>
  simp only [hg, Option.bind_some] at h ⊢
  have hlt : g < w.heap.size := by
    rcases Nat.lt_or_ge g w.heap.size with h' | h'
    . exact h'
    rw [Array.getElem?_eq_none h'] at h; simp at h
  rw [hb.block g (by omega)]
  exact h
structure Tabs (w : World) : Prop where
  err : ErrT w
  pow : Lib.TabIs Tryz.prog w "internal/strconv.uint64pow10" .u64 Lib.pow10Tab
  syn : ∃ tp p, w.var? Tryz.prog "strconv.ErrSyntax" = some #[.iface tp p]
  ran : ∃ tp p, w.var? Tryz.prog "strconv.ErrRange" = some #[.iface tp p]
theorem Tabs.below {w w' : World} {N : Nat} (h : Tabs w) (hb : Below N w w') (hN : w.heap.size <= N) : Tabs w' := by
  obtain ⟨a, b, ⟨t1, p1, c⟩, ⟨t2, p2, d⟩⟩ := h
  exact ⟨a.below hb hN, var_below b hb hN, ⟨t1, p1, var_below c hb hN⟩, ⟨t2, p2, var_below d hb hN⟩⟩
theorem bsameA (a b : List UInt8) : ((B a).toList == (B b).toList) = decide (a = b) := by rw [Lib.toList_data, Lib.toList_data, B_data, B_data, Bool.eq_iff_iff]; simp
theorem word_any (k : Int) (w : World) : Calls Tryz.prog 122 #[.int .i64 k] w fun e w' => e = .returned (.string (B (wordL k))) /\ w' = w := by
  unfold wordL
  by_cases h1 : k = 1
  . subst h1
    go_enter Tryz.func122, Tryz.ntmps122
    go_wp2_with fail
    go_ret
    exact ⟨rfl, rfl⟩
  have q1 : (k == 1) = false := by simpa using h1
  rw [if_neg h1]
  by_cases h2 : k = 2
  . subst h2
    go_enter Tryz.func122, Tryz.ntmps122
    go_wp2_with fail
    go_ret
    exact ⟨rfl, rfl⟩
  have q2 : (k == 2) = false := by simpa using h2
  rw [if_neg h2]
  by_cases h3 : k = 3
  . subst h3
    go_enter Tryz.func122, Tryz.ntmps122
    go_wp2_with fail
    go_ret
    exact ⟨rfl, rfl⟩
  have q3 : (k == 3) = false := by simpa using h3
  rw [if_neg h3]
  go_enter Tryz.func122, Tryz.ntmps122
  go_wp2_with fail
  go_ret
  exact ⟨rfl, rfl⟩
theorem grow_below {w : World} (n : Nat) (os : Array Obj) : Below w.heap.size w (Go.Sort.grow (w.drewN n) os) :=
  ⟨rfl, rfl, rfl, by rw [Go.Sort.size_grow]; exact Nat.le_add_right _ _, fun k hk => Go.Sort.heap_grow_old _ _ hk⟩
theorem lineA_any (ed : Ed) (fv : Value) (hi : I64 ed.id) (w : World) (ht : Tabs w) :
    Calls Tryz.prog 85 #[.agg #[.int .i64 ed.kind, .int .i64 ed.id, fv]] w fun e w' => e = .returned (.string (B (lineA ed.kind ed.id))) /\ Below w.heap.size w w' := by
  obtain ⟨wa, hwa⟩ : ∃ wa, wa = w.alloc (.cells #[.int .i64 ed.kind, .int .i64 ed.id, fv] 40) := ⟨_, rfl⟩
  have hba : Below w.heap.size w wa := by rw [hwa]; exact (Below.refl _ w).alloc (Nat.le_refl _) _
  have HB := Lib.hid hba
  have IT := Lib.hid (Tryz.strconv_Itoa ed.id hi.1 hi.2 wa (ht.below hba (Nat.le_refl _)).pow)
  have WD := Lib.hid (word_any ed.kind wa)
  have hil := Lib.itoa_length_le ed.id hi.1 hi.2
  have k0 : wa.cell? ⟨w.heap.size, 0, none⟩ = some (.int .i64 ed.kind) := by rw [hwa]; simp
  have k1 : wa.cell? ⟨w.heap.size, 1, none⟩ = some (.int .i64 ed.id) := by rw [hwa]; simp
  by_cases hk : ed.kind = 1 \/ ed.kind = 2 \/ ed.kind = 3
  . have e3 : Hid (∀ z : ByteArray, z = (⟨(Lib.itoa ed.id).toArray⟩ : ByteArray) -> (⟨#[32]⟩ : ByteArray) ++ B (wordL ed.kind) ++ ⟨#[32]⟩ ++ z = B (lineA ed.kind ed.id)) := by
      rintro z rfl
      unfold lineA
      rw [if_pos hk, show (⟨#[32]⟩ : ByteArray) = B [32] from rfl, show (⟨(Lib.itoa ed.id).toArray⟩ : ByteArray) = B (Lib.itoa ed.id) from rfl, B_append, B_append, B_append]
      congr 1; simp
    have hne : ((B (wordL ed.kind)) == (⟨#[]⟩ : ByteArray)) = false := by
      rcases hk with h | h | h <;> rw [h] <;> decide
    have hne2 : (B (wordL ed.kind)).toList.isEmpty = false := by
      rcases hk with h | h | h <;> rw [h] <;> decide +kernel
    have hws : (B (wordL ed.kind)).size <= 7 := by rw [B_size]; rcases hk with h | h | h <;> rw [h] <;> decide
    have his : (⟨(Lib.itoa ed.id).toArray⟩ : ByteArray).size <= 21 := by show (Lib.itoa ed.id).toArray.size <= 21; simpa using hil
    generalize (⟨(Lib.itoa ed.id).toArray⟩ : ByteArray) = z at *
    generalize B (wordL ed.kind) = wd at *
    have s1 : ((⟨#[32]⟩ : ByteArray) ++ wd).size <= 8 := by rw [ByteArray.size_append]; show 1 + _ <= _; omega
    have s2 : ((⟨#[32]⟩ : ByteArray) ++ wd ++ ⟨#[32]⟩).size <= 9 := by rw [ByteArray.size_append]; show _ + 1 <= _; omega
    clear hba ht
    subst hwa
    go_enter Tryz.func85, Tryz.ntmps85
    go_wp2_with fail
    refine WD.out.mono ?_
    rintro e w2 ⟨rfl, rfl⟩
    go_wp2_with fail
    refine IT.out.mono ?_
    rintro e w3 ⟨rfl, n, os, rfl⟩
    have B3 := Lib.hid (HB.out.trans ((grow_below n os).mono HB.out.size))
    go_wp2_with fail
    go_ret
    exact ⟨by rw [e3.out _ rfl]; rfl, B3.out⟩
  have e0 : wordL ed.kind = [] := by
    unfold wordL
    rw [if_neg (by omega), if_neg (by omega), if_neg (by omega)]
  have e1 : lineA ed.kind ed.id = [] := by unfold lineA; rw [if_neg hk]
  rw [e0] at WD
  rw [e1]
  rw [show B [] = (⟨#[]⟩ : ByteArray) from rfl] at WD ⊢
  clear hba ht
  subst hwa
  go_enter Tryz.func85, Tryz.ntmps85
  go_wp2_with fail
  refine WD.out.mono ?_
  rintro e w2 ⟨rfl, rfl⟩
  go_wp2_with fail
  go_ret
  exact ⟨rfl, HB.out⟩
end Go.Proofs.YtbkeoiefolkjfaaGreatDoor
