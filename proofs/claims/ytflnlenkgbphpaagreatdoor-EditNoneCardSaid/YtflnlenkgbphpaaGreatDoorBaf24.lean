/- Texts put together: EW, QC. -/
import Derived.BigFrame
import Derived.Laws.AppendOwnNone
import Derived.Test.YtflnlenkgbphpaaGreatDoorBaf2
import Derived.Test.YtflnlenkgbphpaaGreatDoorBaf21
import Derived.Test.YtflnlenkgbphpaaGreatDoorBaf23
set_option linter.unusedVariables false
namespace Go.Proofs.YtflnlenkgbphpaaGreatDoor
open Go.RowKit Go.Shelf
attribute [local go_sem] Oper.semAt_some

/-- Numbers that can be read. -/
def NumsV (w : World) (v : Value) (zs : List Int) : Prop :=
  ∃ A cap, v = .slice A zs.length cap ∧ zs.length ≤ cap ∧ ∀ (i : Nat) (z : Int), zs[i]? = some z → ∃ b off, A = some ⟨b, off, none⟩ ∧ b < w.heap.size ∧ w.cell? ⟨b, off + i, none⟩ = some (.int .i64 z)
theorem NumsV.below {w w' : World} {v : Value} {zs : List Int} {n : Nat} (h : NumsV w v zs) (hb : Below n w w') (hn : w.heap.size ≤ n) : NumsV w' v zs := by
  obtain ⟨A, cap, e, hle, hc⟩ := h
  refine ⟨A, cap, e, hle, fun i z hi => ?_⟩
  obtain ⟨b, off, e1, hbb, c0⟩ := hc i z hi
  exact ⟨b, off, e1, Nat.lt_of_lt_of_le hbb hb.size, (hb.cell (p := ⟨b, off + i, none⟩) (by show b < n; omega)).trans c0⟩
theorem nums_row {w : World} {lo : Nat} {v : Value} {zs : List Int} (h : w.ownsRow lo 3 1 v zs.length (zs.map encI)) : NumsV w v zs := by
  by_cases h0 : zs = []
  · subst h0
    obtain ⟨A, c, rfl, hle⟩ := own_slice h
    exact ⟨A, c, rfl, hle, fun i z hi => by simp at hi⟩
  · have hn : zs.length ≠ 0 := fun e => h0 (List.length_eq_zero_iff.1 e)
    have hrow := h
    obtain ⟨g, cap, hug⟩ := Joins.ownsRow_form hrow (by omega)
    have hle : zs.length ≤ cap := by
      obtain ⟨A, c, e, hle⟩ := own_slice h
      rw [hug] at e; cases e; exact hle
    rw [hug] at hrow
    refine ⟨_, cap, hug, hle, fun i z hi => ?_⟩
    have hil := (List.getElem?_eq_some_iff.1 hi).1
    refine ⟨g, 0, rfl, (hrow.lt g rfl).2, ?_⟩
    have := World.ownsRow.cellAt hrow i (by omega)
    rw [Nat.zero_add, this, List.getElem?_map, hi]; rfl
set_option maxRecDepth 100000 in
set_option maxHeartbeats 4000000 in
theorem ints_same (zs : List Int) (v v' : Value) (w : World) (h : NumsV w v zs) (h' : NumsV w v' zs) (hn : zs.length ≤ 1000000) :
    Calls Tryz.prog 23 #[v, v'] w fun e w' => e = .returned (.bool true) ∧ Below w.heap.size w w' := by
  obtain ⟨A, cap, rfl, hle, hc⟩ := h
  obtain ⟨A', cap', rfl, hle', hc'⟩ := h'
  have PC := Lib.hid hc
  have PC' := Lib.hid hc'
  clear hc hc'
  go_enter Tryz.func23, Tryz.ntmps23
  go_wp2_with fail
  go_loopw [13] (fun i wr => ∃ k : Nat, k ≤ zs.length ∧ i = .int .i64 k ∧ Below w.heap.size w wr) (fun i _ => zs.length - (intOf i).toNat)
  case atStart => exact ⟨0, Nat.zero_le _, rfl, Below.refl _ _⟩
  case round =>
    obtain ⟨k, hk, rfl, hb⟩ := hrel
    by_cases hlt : k < zs.length
    · obtain ⟨z, hz⟩ : ∃ z, zs[k]? = some z := ⟨_, List.getElem?_eq_getElem hlt⟩
      obtain ⟨b, off, rfl, hbb, c0⟩ := PC.out k z hz
      obtain ⟨b', off', rfl, hbb', c0'⟩ := PC'.out k z hz
      replace c0 := (hb.cell (p := ⟨b, off + k, none⟩) hbb).trans c0
      replace c0' := (hb.cell (p := ⟨b', off' + k, none⟩) hbb').trans c0'
      have hne : (z != z) = false := by simp
      have HB := Lib.hid hb
      have HBQ : Hid (∀ m, Below w.heap.size w (wr.drewN m)) := fun m => drewN_below HB.out m
      clear hz PC PC' hb
      go_wp2_with (go_quiet (fail))
      go_roundw
      case rel => exact ⟨k + 1, hlt, by go_num, by first | exact HB.out | exact HBQ.out _ | exact HB.out.drew⟩
      case measure => simp [intOf]; omega
    · obtain rfl : k = zs.length := by omega
      clear PC PC'
      go_wp2_with fail
      go_ret
      exact ⟨rfl, hb⟩
/-- An append whose guard says yes, onto a slice that is owned. -/
theorem wpList_append_want {P : Program} {w : World} {ops : Array Oper} {rest : List Oper} {o : Oper} {a : Act} {Q : Exit → Act → World → Prop} (hw : Region.wanted o (yielded ops a.tmps) = true) (s x : Operand) (t : TypeId)
    (hop : o.op = Op.call { callee := Callee.builtin Builtin.append, args := #[s, x], argTypes := #[t, t] }) (base : Nat)
    (e : TypeId) (i : TypeInfo) (z : Value) (size bytes : Nat) (ht : P.underlying t = some (.slice e)) (hi : P.info? e = some i) (hz : i.zero = some z)
    (hsize : i.size = size) (hby : i.bytes = bytes) (hzs : z.cells.size = size) (hsz : 0 < size)
    (v : Value) (n : Nat) (xs : List Value) (hs : a.eval s = v) (hown : w.ownsRow base e size v n xs)
    (ad : Addr) (m c : Nat) (news : List Value) (hx : a.eval x = .slice (some ad) m c) (hl : news.length = m * size) (hnews : ∀ j u, news[j]? = some u → w.cell? (ad.add j) = some u) (h1 : ∀ u ∈ news, u.oneCell' = true)
    (h63 : n + m ≤ maxLen) (hbytes : (n + m) * bytes ≤ 140737488355328) (hb : base ≤ w.heap.size)
    (h : ∀ v' w', w'.ownsRow base e size v' (n + m) (xs ++ news) → w.grownBy w' v.ownBlock → Hid (v'.ownBlock = v.ownBlock ∨ v'.ownBlock = some w.heap.size) → wpList P ops Q rest (a.put o.dst v') w') : wpList P ops Q (o :: rest) a w := by
  refine BigFrame.wpList_want hw fun K hK => ?_
  obtain ⟨v', w', hr, h2, h3, h4, h5⟩ := run_append_own_at (P := P) w base t o.type e i z size bytes ht hi hz hsize hby hzs hsz v n xs hown ad m c news hl hnews h1 h63 hbytes hb
  unfold Oper.wp
  simp [execOp, hop, resolve, invoke, builtin, hs, hx, hr, Result.andThen]
  exact hK _ _ (h v' w' h2 h3 h5)
theorem wpList_append_none_want {P : Program} {w : World} {ops : Array Oper} {rest : List Oper} {o : Oper} {a : Act} {Q : Exit → Act → World → Prop} (hw : Region.wanted o (yielded ops a.tmps) = true) (s x : Operand) (t : TypeId)
    (ho : o.op = .call { callee := .builtin .append, args := #[s, x], argTypes := #[t, t] })
    (base : Nat) (e : TypeId) (i : TypeInfo) (size : Nat) (ht : P.underlying t = some (.slice e)) (hi : P.info? e = some i)
    (v : Value) (n : Nat) (xs : List Value) (hs : a.eval s = v) (hown : w.ownsRow base e size v n xs) (hx : a.eval x = .slice none 0 0)
    (h : wpList P ops Q rest (a.put o.dst v) w) : wpList P ops Q (o :: rest) a w := by
  refine BigFrame.wpList_want hw fun K hK => ?_
  have hrun := run_append_owned_none (P := P) (w := w) base t o.type e i size ht hi v n xs hown
  unfold Oper.wp
  simp [execOp, ho, resolve, invoke, builtin, hs, hx, hrun, Result.andThen]
  exact hK _ _ h
theorem edRow_append : ∀ (a : List Ed) (fa : List Value) (b : List Ed) (fb : List Value), fa.length = a.length → edRow (a ++ b) (fa ++ fb) = edRow a fa ++ edRow b fb
  | [], [], b, fb, _ => rfl
  | x :: a, y :: fa, b, fb, h => by
    show _ :: _ :: _ :: edRow (a ++ b) (fa ++ fb) = _
    rw [edRow_append a fa b fb (by simpa using h)]; rfl
  | [], _ :: _, _, _, h => by simp at h
  | _ :: _, [], _, _, h => by simp at h
theorem edRow_len : ∀ (a : List Ed) (fa : List Value), fa.length = a.length → (edRow a fa).length = a.length * 3
  | [], [], _ => rfl
  | x :: a, y :: fa, h => by
    have := edRow_len a fa (by simpa using h)
    show (_ :: _ :: _ :: edRow a fa).length = _
    simp only [List.length_cons, this]; omega
  | [], _ :: _, h => by simp at h
  | _ :: _, [], h => by simp at h
theorem edv_row {lo : Nat} {w : World} {v : Value} {eds : List Ed} {fvs : List Value} (row : w.ownsRow lo 33 3 v eds.length (edRow eds fvs)) (len : fvs.length = eds.length) (each : ∀ (i : Nat) ed fv, eds[i]? = some ed → fvs[i]? = some fv → FldR w fv ed.fields) : EdV w v eds := by
  by_cases h0 : eds = []
  · subst h0
    obtain ⟨A, c, rfl, hle⟩ := own_slice row
    exact ⟨A, c, rfl, hle, fun i ed hi => by simp at hi⟩
  · have hn : eds.length ≠ 0 := fun e => h0 (List.length_eq_zero_iff.1 e)
    have hrow := row
    obtain ⟨g, cap, hug⟩ := Joins.ownsRow_form hrow (by omega)
    have hle : eds.length ≤ cap := by
      obtain ⟨A, c, e, hle⟩ := own_slice row
      rw [hug] at e; cases e; exact hle
    rw [hug] at hrow
    refine ⟨_, cap, hug, hle, fun i ed hi => ?_⟩
    have hil := (List.getElem?_eq_some_iff.1 hi).1
    obtain ⟨fv, hfv⟩ : ∃ fv, fvs[i]? = some fv := ⟨_, List.getElem?_eq_getElem (by rw [len]; exact hil)⟩
    obtain ⟨a0, a1, a2⟩ := edRow_at eds fvs i ed fv hi hfv
    refine ⟨g, 0, fv, rfl, (hrow.lt g rfl).2, ?_, ?_, ?_, each i ed fv hi hfv⟩
    · rw [Nat.zero_add, World.ownsRow.cellAt hrow (i * 3) (by omega), a0]
    · rw [Nat.zero_add, World.ownsRow.cellAt hrow (i * 3 + 1) (by omega), a1]
    · rw [Nat.zero_add, World.ownsRow.cellAt hrow (i * 3 + 1 + 1) (by omega), a2]
/-- A batch in memory as a row of cells. -/
theorem edv_cells {w : World} {v : Value} {eds : List Ed} (h : EdV w v eds) (hne : eds ≠ []) : ∃ b off cap fvs, v = .slice (some ⟨b, off, none⟩) eds.length cap ∧ fvs.length = eds.length ∧ (∀ (j : Nat) u, (edRow eds fvs)[j]? = some u → w.cell? ((⟨b, off, none⟩ : Addr).add j) = some u) ∧ (∀ u ∈ edRow eds fvs, u.oneCell' = true) ∧ ∀ (i : Nat) ed fv, eds[i]? = some ed → fvs[i]? = some fv → FldR w fv ed.fields := by
  obtain ⟨A, cap, rfl, hle, hc⟩ := h
  obtain ⟨ed0, h0⟩ : ∃ ed, eds[0]? = some ed := by
    cases eds with
    | nil => exact absurd rfl hne
    | cons a r => exact ⟨a, rfl⟩
  obtain ⟨b, off, _, rfl, hb, _⟩ := hc 0 ed0 h0
  have hg : ∃ g : Nat → Value, ∀ i ed, eds[i]? = some ed → w.cell? ⟨b, off + i * 3, none⟩ = some (.int .i64 ed.kind) ∧ w.cell? ⟨b, off + i * 3 + 1, none⟩ = some (.int .i64 ed.id) ∧ w.cell? ⟨b, off + i * 3 + 1 + 1, none⟩ = some (g i) ∧ FldR w (g i) ed.fields := by
    refine ⟨fun i => (w.cell? ⟨b, off + i * 3 + 1 + 1, none⟩).getD undef, fun i ed hi => ?_⟩
    obtain ⟨b', off', fv, e, _, c0, c1, c2, hf⟩ := hc i ed hi
    cases e
    show _ ∧ _ ∧ w.cell? ⟨b, off + i * 3 + 1 + 1, none⟩ = some ((w.cell? ⟨b, off + i * 3 + 1 + 1, none⟩).getD undef) ∧ FldR w ((w.cell? ⟨b, off + i * 3 + 1 + 1, none⟩).getD undef) ed.fields
    rw [c2]
    exact ⟨c0, c1, rfl, hf⟩
  obtain ⟨g, hg⟩ := hg
  have hll : ((List.range eds.length).map g).length = eds.length := by simp
  have hat : ∀ i ed, eds[i]? = some ed → ((List.range eds.length).map g)[i]? = some (g i) := fun i ed hi => by
    have := (List.getElem?_eq_some_iff.1 hi).1
    simp [this]
  refine ⟨b, off, cap, (List.range eds.length).map g, rfl, hll, fun j u hj => ?_, fun u hu => ?_, fun i ed fv h1 h2 => ?_⟩
  · have hjl : j < eds.length * 3 := by
      rw [← edRow_len eds _ hll]
      rcases Nat.lt_or_ge j (edRow eds ((List.range eds.length).map g)).length with q | q
      · exact q
      · rw [List.getElem?_eq_none q] at hj; cases hj
    obtain ⟨ed, hed⟩ : ∃ ed, eds[j / 3]? = some ed := ⟨_, List.getElem?_eq_getElem (by omega)⟩
    obtain ⟨a0, a1, a2⟩ := edRow_at eds _ (j / 3) ed _ hed (hat _ _ hed)
    obtain ⟨c0, c1, c2, _⟩ := hg _ _ hed
    rw [WideShapes.add_plain]
    rcases (by omega : j = j / 3 * 3 ∨ j = j / 3 * 3 + 1 ∨ j = j / 3 * 3 + 1 + 1) with q | q | q
    · rw [q, a0] at hj; rw [q, c0]; exact hj
    · rw [q, a1] at hj; rw [q, ← Nat.add_assoc, c1]; exact hj
    · rw [q, a2] at hj; rw [q, ← Nat.add_assoc, ← Nat.add_assoc, c2]; exact hj
  · obtain ⟨j, hj⟩ := List.getElem?_of_mem hu
    have hjl : j < eds.length * 3 := by
      rw [← edRow_len eds _ hll]
      exact (List.getElem?_eq_some_iff.1 hj).1
    obtain ⟨ed, hed⟩ : ∃ ed, eds[j / 3]? = some ed := ⟨_, List.getElem?_eq_getElem (by omega)⟩
    obtain ⟨a0, a1, a2⟩ := edRow_at eds _ (j / 3) ed _ hed (hat _ _ hed)
    obtain ⟨_, _, _, hf⟩ := hg _ _ hed
    obtain ⟨A, c, e⟩ := hf.form
    rcases (by omega : j = j / 3 * 3 ∨ j = j / 3 * 3 + 1 ∨ j = j / 3 * 3 + 1 + 1) with q | q | q
    · rw [q, a0] at hj; cases hj; rfl
    · rw [q, a1] at hj; cases hj; rfl
    · rw [q, a2] at hj; cases hj; rw [e]; rfl
  · rw [hat i ed h1] at h2
    cases h2
    exact (hg _ _ h1).2.2.2
theorem carry_text {S0 : Nat} {w : World} {lb : Nat} {ev : Value} {ps : List Pr} {l : LS} {m : Nat} (C : Carry S0 w lb ev ps l m) (hm : m ≤ 10000) :
    Calls Tryz.prog 24 #[ptr lb] w fun e w' => e = .returned (.string (B ((apartL (l.es.map Prod.fst)).flatMap It.raw))) ∧ Below w.heap.size w w' := by
  have := text_gen ps ev (some ⟨lb, 0, none⟩) w (AllR.of C.la.lr) (C.ents hm)
  rw [itsP_es C.es] at this
  exact this
theorem carry_stanzas {S0 : Nat} {w : World} {lb : Nat} {ev : Value} {ps : List Pr} {l : LS} {m : Nat} (C : Carry S0 w lb ev ps l m) (hm : m ≤ 10000) :
    Calls Tryz.prog 27 #[ptr lb] w fun e w' => ∃ u, e = .returned u ∧ Szs w' u (szE l.es) ∧ Below w.heap.size w w' := by
  refine (stanzas_gen ps ev (some ⟨lb, 0, none⟩) w (fun W hW => AllR.of (C.la.lr.below hW (Nat.le_refl _))) (C.ents hm)).mono ?_
  rintro e w' ⟨u, fvs, rfl, acc⟩
  have hz := acc.szs
  rw [stzL_sz C.wf, C.es] at hz
  exact ⟨u, rfl, hz, acc.below⟩
theorem carry_small {S0 : Nat} {w : World} {lb : Nat} {ev : Value} {ps : List Pr} {l : LS} {m : Nat} (C : Carry S0 w lb ev ps l m) : (szE l.es).length ≤ 1000000 ∧ ∀ s ∈ szE l.es, s.2.length ≤ 1000000 := by
  refine ⟨by rw [szE_len]; have := C.ok.len; omega, fun s hs => ?_⟩
  unfold szE at hs
  obtain ⟨e, he, rfl⟩ := List.mem_map.1 hs
  exact (C.sz e (List.mem_filter.1 he).1).2
theorem doOn_left : ∀ (q : Nat) (l : LS) (a b : List Ed), (doOn q l a).2 ≠ 0 → doOn q l (a ++ b) = doOn q l a
  | _, _, [], _, h => absurd rfl h
  | q, l, ed :: r, b, h => by
    have e1 : doOn q l (ed :: r) = if (stepE l ed).bad = 0 then doOn (q + 1) (stepE l ed).ls r else ((q : Nat), (stepE l ed).bad) := rfl
    have e2 : doOn q l (ed :: r ++ b) = if (stepE l ed).bad = 0 then doOn (q + 1) (stepE l ed).ls (r ++ b) else ((q : Nat), (stepE l ed).bad) := rfl
    rw [e1] at h ⊢
    rw [e2]
    by_cases h0 : (stepE l ed).bad = 0
    · rw [if_pos h0] at h ⊢
      rw [if_pos h0]
      exact doOn_left (q + 1) _ r b h
    · rw [if_neg h0, if_neg h0]
end Go.Proofs.YtflnlenkgbphpaaGreatDoor

namespace Go.Proofs.YtflnlenkgbphpaaGreatDoor

/-- The further lines that stand right behind. -/
def more : List Ln → List (List UInt8)
  | [] => []
  | x :: xs => if kindL x.text = 3 then x.text :: more xs else []
/-- The state of the document's parse. -/
structure RS where
  out : List It
  kind : Int
  raw : List UInt8
  fields : List Fld
  records : Nat
  prev : Nat
def RS.new : RS := ⟨[], 2, [], [], 0, 0⟩
def refWrong (s : RS) (x : Ln) (xs : List Ln) : Nat :=
  if kindL x.text = 5 ∨ (kindL x.text = 3 ∧ ¬ (s.prev = 4 ∨ s.prev = 3)) ∨ x.ended = false then 2
  else if kindL x.text ≠ 4 then 0
  else if unfoldN (x.text :: more xs) ≠ 0 then unfoldN (x.text :: more xs)
  else if 40 ≤ s.fields.length ∨ (s.fields.length = 0 ∧ 400 ≤ s.records) then 11 else 0
def RS.block (s : RS) : List It := if s.raw = [] then [] else [⟨s.kind, s.raw, s.fields⟩]
def refPut (s : RS) (x : Ln) (xs : List Ln) : RS :=
  if kindL x.text = 1 then ⟨s.out ++ s.block ++ [⟨1, x.text ++ [10], []⟩], 2, [], [], s.records, 1⟩
  else if kindL x.text = 4 then ⟨s.out, 3, s.raw ++ x.text ++ [10], s.fields ++ [(unfoldK (x.text :: more xs), unfoldV (x.text :: more xs))], if s.kind = 2 then s.records + 1 else s.records, 4⟩
  else { s with raw := s.raw ++ x.text ++ [10], prev := kindL x.text }
def refRun : RS → List Ln → Res RS
  | s, [] => .ok s
  | s, x :: xs => if refWrong s x xs ≠ 0 then .error (x.no, refWrong s x xs) else refRun (refPut s x xs) xs
def refParseL (t : List UInt8) : Res (List It) :=
  match refRun RS.new (linesOf t) with
  | .error e => .error e
  | .ok s => .ok (s.out ++ s.block)

/-- No line but the last isn't ended. -/
def Ends : List Ln → Prop
  | [] => True
  | x :: xs => (x.ended = false → xs = []) ∧ Ends xs
theorem head_whole (l : List UInt8) (h : nl l = false) : head l = l := by
  have hm : (10 : UInt8) ∉ l := by
    intro hc
    have : nl l = true := by unfold nl; simpa using hc
    rw [this] at h; cases h
  unfold head
  clear h
  induction l with
  | nil => rfl
  | cons c t ih =>
    have hc : c ≠ 10 := fun e => hm (by rw [e]; exact List.mem_cons_self)
    rw [List.takeWhile_cons, if_pos (by simp [hc]), ih (fun he => hm (List.mem_cons_of_mem _ he))]
theorem ends_linesOn : ∀ (n no at_ : Nat) (l : List UInt8), l.length ≤ n → Ends (linesOn no at_ l)
  | 0, no, at_, l, h => by
    have : l = [] := List.length_eq_zero_iff.1 (by omega)
    subst this; rw [linesOn_nil]; trivial
  | n + 1, no, at_, l, h => by
    by_cases hl : l = []
    · subst hl; rw [linesOn_nil]; trivial
    · have hp := used_pos l hl
      rw [linesOn_cons _ _ _ hl]
      refine ⟨fun he => ?_, ends_linesOn n _ _ _ (by simp only [List.length_drop]; omega)⟩
      have hu : used l = (head l).length := by unfold used; rw [show nl l = false from he]; rfl
      have : l.drop (used l) = [] := by rw [hu, head_whole l he, List.drop_length]
      rw [this, linesOn_nil]
/-- What is wrong with the field that is under way, with the further lines. -/
def pendN (p : PS) (xs : List Ln) : Nat := if unfoldN (p.said ++ more xs) ≠ 0 then unfoldN (p.said ++ more xs) else if fullP p then 11 else 0
def finish (t : List UInt8) (r : Res PS) : Res (List It) := match r with | .error e => .error e | .ok q => lastP t q
theorem run_cons' {t : List UInt8} {p q : PS} {x : Ln} {xs : List Ln} (h : takeP t p x = .ok q) : runP t p (x :: xs) = runP t q xs := by
  show (match takeP t p x with | .error e => Except.error e | .ok q => runP t q xs) = _
  rw [h]
theorem finish_cons {t : List UInt8} {p q : PS} {x : Ln} {xs : List Ln} (h : takeP t p x = .ok q) : finish t (runP t p (x :: xs)) = finish t (runP t q xs) := by
  unfold finish
  rw [run_cons' h]
theorem finish_no {t : List UInt8} {p : PS} {e : Nat × Nat} {x : Ln} {xs : List Ln} (h : takeP t p x = .error e) : finish t (runP t p (x :: xs)) = .error e := by
  unfold finish
  show (match (match takeP t p x with | .error e => Except.error e | .ok q => runP t q xs) with | .error e => _ | .ok q => _) = _
  rw [h]
theorem endN_said {p : PS} (h : p.said ≠ []) : endFieldN p = if unfoldN p.said ≠ 0 then unfoldN p.said else if fullP p then 11 else 0 := by
  unfold endFieldN; rw [if_neg h]
theorem take_err {t : List UInt8} {p : PS} {x : Ln} (h1 : endsP p x = true) (h2 : endFieldN (wentP p x) ≠ 0) : takeP t p x = .error ((wentP p x).begin_, endFieldN (wentP p x)) := by
  unfold takeP; rw [if_pos ⟨h1, h2⟩]
theorem take_form {t : List UInt8} {p : PS} {x : Ln} (h1 : endFieldN (wentP p x) = 0) (h2 : wrongP p x = true) : takeP t p x = .error (x.no, 2) := by
  unfold takeP; rw [if_neg (fun h => h.2 h1), h2]; rfl
theorem said_isEmpty {p : PS} (h : p.said ≠ []) : p.said.isEmpty = false := by
  cases hs : p.said with
  | nil => exact absurd hs h
  | cons a l => rfl
/-- A field that is wrong is told at its first line. -/
theorem run_pend (t : List UInt8) : ∀ (xs : List Ln) (p : PS), Ends xs → p.said ≠ [] → pendN p xs ≠ 0 → finish t (runP t p xs) = .error (p.begin_, pendN p xs)
  | [], p, _, hs, hn => by
    have e : endFieldN p = pendN p [] := by rw [endN_said hs]; unfold pendN more; rw [List.append_nil]
    show lastP t p = _
    unfold lastP
    rw [e, if_pos hn]
  | x :: xs, p, ⟨he, hes⟩, hs, hn => by
    by_cases hk : kindL x.text = 3
    · have hg : goesP p x = true := by unfold goesP; rw [hk, said_isEmpty hs]; rfl
      have hw : wentP p x = { p with said := p.said ++ [x.text] } := by unfold wentP; rw [hg, if_pos rfl]
      have hpe : pendN { p with said := p.said ++ [x.text] } xs = pendN p (x :: xs) := by
        have e1 : (p.said ++ [x.text]) ++ more xs = p.said ++ more (x :: xs) := by
          show _ = p.said ++ (if kindL x.text = 3 then x.text :: more xs else [])
          rw [if_pos hk]; simp
        have e2 : fullP { p with said := p.said ++ [x.text] } = fullP p := rfl
        unfold pendN
        rw [e2]
        show (if unfoldN ((p.said ++ [x.text]) ++ more xs) ≠ 0 then unfoldN ((p.said ++ [x.text]) ++ more xs) else _) = _
        rw [e1]
      cases hx : x.ended with
      | true =>
        have hwr : wrongP p x = false := by unfold wrongP; rw [hk, hg, hx]; rfl
        have hen : endsP p x = false := by unfold endsP; rw [hwr, hg]; rfl
        have ht : takeP t p x = .ok { p with said := p.said ++ [x.text] } := by
          rw [take_of (by rw [hen]; intro h; cases h) hwr]
          unfold thenP; rw [hen, if_neg (by decide), hw]
          unfold putP; rw [hk]; rfl
        rw [finish_cons ht, run_pend t xs _ hes (by simp) (by rw [hpe]; exact hn), hpe]
      | false =>
        have hxs := he hx
        subst hxs
        have hwr : wrongP p x = true := by unfold wrongP; rw [hx]; simp
        have hen : endsP p x = true := by unfold endsP; rw [hwr]; rfl
        have hE : endFieldN (wentP p x) = pendN p [x] := by
          rw [hw, ← hpe, endN_said (by simp)]
          unfold pendN more; rw [List.append_nil]
        rw [finish_no (take_err hen (by rw [hE]; exact hn)), hE, hw]
    · have hg : goesP p x = false := goes_kind hk
      have hw : wentP p x = p := by unfold wentP; rw [hg]; rfl
      have hen : endsP p x = true := by unfold endsP; rw [hg]; simp
      have hm : more (x :: xs) = [] := if_neg hk
      have hE : endFieldN (wentP p x) = pendN p (x :: xs) := by
        rw [hw, endN_said hs]; unfold pendN; rw [hm, List.append_nil]
      rw [finish_no (take_err hen (by rw [hE]; exact hn)), hE, hw]

/-- The parser, beside the document's parse. -/
structure Rel (t : List UInt8) (c : Nat) (p : PS) (s : RS) (xs : List Ln) : Prop where
  items : s.out = p.items
  raw : s.raw = (t.take c).drop p.at_
  at_ : p.at_ ≤ c
  full : c ≤ t.length
  rest : t.drop c = xs.flatMap Ln.bytes
  recd : s.records = p.stanzas + if p.fields = [] ∧ p.said = [] then 0 else 1
  kind : s.kind = if p.fields = [] ∧ p.said = [] then 2 else 3
  fields : s.fields = p.fields ++ if p.said = [] then [] else [(unfoldK (p.said ++ more xs), unfoldV (p.said ++ more xs))]
  ok : p.said ≠ [] → pendN p xs = 0
  prev : (s.prev = 4 ∨ s.prev = 3) ↔ p.said ≠ []
  began : p.fields = [] ∧ p.said = [] ∨ p.at_ < c
  st : p.stanzas ≤ 400
  st' : ¬ (p.fields = [] ∧ p.said = []) → p.stanzas ≤ 399
  fl : p.fields.length ≤ 40
theorem Rel.new (t : List UInt8) : Rel t 0 PS.new RS.new (linesOf t) :=
  ⟨rfl, rfl, Nat.le_refl _, Nat.zero_le _, (linesOf_join t).symm, rfl, rfl, rfl, fun h => absurd rfl h, ⟨(fun h => by rcases h with h | h <;> (exact absurd h (by decide))), fun h => absurd rfl h⟩, .inl ⟨rfl, rfl⟩, by decide, fun hn => absurd ⟨rfl, rfl⟩ hn, by decide⟩
theorem take_all {t : List UInt8} {c : Nat} {x : Ln} {xs : List Ln} (h : t.drop c = (x :: xs).flatMap Ln.bytes) (hc : c ≤ t.length) : t.take (c + x.bytes.length) = t.take c ++ x.bytes ∧ t.drop (c + x.bytes.length) = xs.flatMap Ln.bytes ∧ c + x.bytes.length ≤ t.length := by
  rw [List.flatMap_cons] at h
  have hl := congrArg List.length h
  rw [List.length_drop, List.length_append] at hl
  refine ⟨?_, ?_, by omega⟩
  · rw [List.take_add, h]; simp
  · rw [← List.drop_drop, h]; simp
theorem raw_more {t : List UInt8} {c a : Nat} {x : Ln} (h : t.take (c + x.bytes.length) = t.take c ++ x.bytes) (ha : a ≤ c) (hc : c ≤ t.length) : (t.take (c + x.bytes.length)).drop a = (t.take c).drop a ++ x.bytes := by
  rw [h, List.drop_append_of_le_length]
  rw [List.length_take]; omega
theorem more_three {x : Ln} {xs : List Ln} (h : kindL x.text = 3) : more (x :: xs) = x.text :: more xs := if_pos h
theorem more_else {x : Ln} {xs : List Ln} (h : kindL x.text ≠ 3) : more (x :: xs) = [] := if_neg h
theorem pend_said {p : PS} {xs : List Ln} (hs : p.said ≠ []) (hm : more xs = []) : pendN p xs = endFieldN p := by
  rw [endN_said hs]; unfold pendN; rw [hm, List.append_nil]
theorem endP_fields (p : PS) : (endFieldP p).fields = p.fields ++ if p.said = [] then [] else [(unfoldK p.said, unfoldV p.said)] := by
  unfold endFieldP
  split
  · rw [List.append_nil]
  · rfl
theorem endP_stanzas (p : PS) : (endFieldP p).stanzas = p.stanzas := by unfold endFieldP; split <;> rfl
theorem endP_none (p : PS) : (endFieldP p).fields = [] ↔ p.fields = [] ∧ p.said = [] := by
  rw [endP_fields]
  constructor
  · intro h
    by_cases hs : p.said = []
    · rw [if_pos hs, List.append_nil] at h; exact ⟨h, hs⟩
    · rw [if_neg hs] at h; simp at h
  · rintro ⟨h1, h2⟩; rw [h1, if_pos h2]; rfl
theorem Rel.fields_end {t : List UInt8} {c : Nat} {p : PS} {s : RS} {xs : List Ln} (h : Rel t c p s xs) (hm : more xs = []) : s.fields = (endFieldP p).fields := by
  rw [h.fields, endP_fields, hm, List.append_nil]
theorem endP_at (p : PS) : (endFieldP p).at_ = p.at_ := endField_at p
theorem endP_items (p : PS) : (endFieldP p).items = p.items := by unfold endFieldP; split <;> rfl
/-- What a block comes to. -/
theorem block_rel {t : List UInt8} {c : Nat} {p : PS} {s : RS} {xs : List Ln} (h : Rel t c p s xs) (hm : more xs = []) :
    (endBlockP t (endFieldP p) c).items = s.out ++ s.block ∧ (endBlockP t (endFieldP p) c).stanzas = s.records ∧ (endBlockP t (endFieldP p) c).fields = [] ∧ (endBlockP t (endFieldP p) c).said = [] ∧ (endBlockP t (endFieldP p) c).at_ = c := by
  have hf := h.fields_end hm
  have hat := h.at_
  have hsaid := endBlock_said t (endFieldP p) c
  rw [endField_said] at hsaid
  have hat2 := endBlock_at t (endFieldP p) c (by rw [endP_at]; exact hat)
  by_cases hz : p.at_ = c
  · have hn : p.fields = [] ∧ p.said = [] := by
      rcases h.began with h1 | h1
      · exact h1
      · omega
    have e : endBlockP t (endFieldP p) c = endFieldP p := by unfold endBlockP; rw [if_pos (by rw [endP_at]; exact hz)]
    have hr : s.raw = [] := by
      rw [h.raw, hz, List.drop_eq_nil_of_le]; rw [List.length_take]; omega
    refine ⟨?_, ?_, ?_, hsaid, hat2⟩
    · rw [e, endP_items, h.items]; unfold RS.block; rw [if_pos hr, List.append_nil]
    · rw [e, endP_stanzas, h.recd, if_pos hn, Nat.add_zero]
    · rw [e]; exact (endP_none p).2 hn
  · have hr : s.raw ≠ [] := by
      intro e
      have := congrArg List.length e
      rw [h.raw, List.length_drop, List.length_take] at this
      have := h.full
      simp at *; omega
    by_cases hn : (endFieldP p).fields.length = 0
    · have hn' := (endP_none p).1 (List.length_eq_zero_iff.1 hn)
      have e : endBlockP t (endFieldP p) c = endItemP t (endFieldP p) 2 c := by
        unfold endBlockP; rw [if_neg (by rw [endP_at]; exact hz), if_pos hn]
      refine ⟨?_, ?_, ?_, hsaid, hat2⟩
      · rw [e]
        show (endFieldP p).items ++ [⟨((2 : Nat) : Int), (t.take c).drop (endFieldP p).at_, (endFieldP p).fields⟩] = _
        unfold RS.block
        rw [if_neg hr, endP_items, endP_at, h.items, h.kind, if_pos hn', h.raw, hf]; rfl
      · rw [e]
        show (endFieldP p).stanzas = _
        rw [endP_stanzas, h.recd, if_pos hn', Nat.add_zero]
      · rw [e]; rfl
    · have hn' : ¬ (p.fields = [] ∧ p.said = []) := fun hh => hn (by rw [(endP_none p).2 hh]; rfl)
      have e : endBlockP t (endFieldP p) c = { endItemP t (endFieldP p) 3 c with stanzas := (endFieldP p).stanzas + 1 } := by
        unfold endBlockP; rw [if_neg (by rw [endP_at]; exact hz), if_neg hn]
      refine ⟨?_, ?_, ?_, hsaid, hat2⟩
      · rw [e]
        show (endFieldP p).items ++ [⟨((3 : Nat) : Int), (t.take c).drop (endFieldP p).at_, (endFieldP p).fields⟩] = _
        unfold RS.block
        rw [if_neg hr, endP_items, endP_at, h.items, h.kind, if_neg hn', h.raw, hf]; rfl
      · rw [e]
        show (endFieldP p).stanzas + 1 = _
        rw [endP_stanzas, h.recd, if_neg hn']
      · rw [e]; rfl
theorem Rel.fl_end {t : List UInt8} {c : Nat} {p : PS} {s : RS} {xs : List Ln} (h : Rel t c p s xs) : (endFieldP p).fields.length ≤ 40 := by
  have fl := h.fl
  rw [endP_fields, List.length_append]
  by_cases hs : p.said = []
  · rw [if_pos hs]; simpa using fl
  · rw [if_neg hs]
    have hok := h.ok hs
    unfold pendN at hok
    have hfull : fullP p = false := by
      split at hok
      · rename_i hu; exact absurd hok hu
      · cases hf : fullP p with
        | false => rfl
        | true => rw [hf] at hok; simp at hok
    unfold fullP at hfull
    split at hfull
    · simp; omega
    · have : p.fields.length ≠ 40 := by simpa using hfull
      simp; omega
theorem Rel.records_le {t : List UInt8} {c : Nat} {p : PS} {s : RS} {xs : List Ln} (h : Rel t c p s xs) : s.records ≤ 400 := by
  have st := h.st
  rw [h.recd]
  split
  · omega
  · rename_i hn; have := h.st' hn; omega
theorem kind_of {l : List UInt8} (_ : (10 : UInt8) ∉ l) : kindL l = 1 ∨ kindL l = 2 ∨ kindL l = 3 ∨ kindL l = 4 ∨ kindL l = 5 := by
  unfold kindL
  split; · simp
  split; · simp
  split; · simp
  split; · simp
  split <;> simp
/-- Both come to the same. -/
theorem run_rel (t : List UInt8) : ∀ (xs : List Ln) (no c : Nat) (p : PS) (s : RS), Runs no c xs → Ends xs → (∀ x ∈ xs, (10 : UInt8) ∉ x.text) → Rel t c p s xs →
    finish t (runP t p xs) = match refRun s xs with | .error e => .error e | .ok s' => .ok (s'.out ++ s'.block)
  | [], no, c, p, s, _, _, _, h => by
    have hcl : c = t.length := by
      have := congrArg List.length h.rest
      rw [List.length_drop] at this
      have := h.full
      simp at *; omega
    have h0 : endFieldN p = 0 := by
      by_cases hs : p.said = []
      · unfold endFieldN; rw [if_pos hs]
      · rw [← pend_said hs (xs := []) rfl]; exact h.ok hs
    show lastP t p = Except.ok (s.out ++ s.block)
    unfold lastP
    rw [if_neg (by rw [h0]; decide), ← hcl, (block_rel h rfl).1]
  | x :: xs, no, c, p, s, ⟨r1, r2, r3, r4⟩, ⟨he, hes⟩, hcl, h => by
    obtain ⟨t1, t2, t3⟩ := take_all h.rest h.full
    have hclx : (10 : UInt8) ∉ x.text := hcl x List.mem_cons_self
    have hcl' : ∀ y ∈ xs, (10 : UInt8) ∉ y.text := fun y hy => hcl y (List.mem_cons_of_mem _ hy)
    show finish t (runP t p (x :: xs)) = match (if refWrong s x xs ≠ 0 then Except.error (x.no, refWrong s x xs) else refRun (refPut s x xs) xs) with | .error e => _ | .ok s' => _
    -- the field that is under way is good
    have hE0 : p.said ≠ [] → more (x :: xs) = [] → endFieldN p = 0 := fun hs hm => by rw [← pend_said hs hm]; exact h.ok hs
    by_cases hbad : kindL x.text = 5 ∨ (kindL x.text = 3 ∧ ¬ (s.prev = 4 ∨ s.prev = 3)) ∨ x.ended = false
    · -- a line that is wrong by its form
      have hw2 : refWrong s x xs = 2 := by unfold refWrong; rw [if_pos hbad]
      rw [hw2, if_pos (by decide)]
      have hwr : wrongP p x = true := by
        unfold wrongP
        rcases hbad with h5 | ⟨h3, hp⟩ | hx
        · rw [h5]; rfl
        · have hs : p.said = [] := Classical.byContradiction fun hne => hp (h.prev.2 hne)
          have : goesP p x = false := by unfold goesP; rw [hs]; simp
          rw [h3, this]; simp
        · rw [hx]; simp
      have hen : endFieldN (wentP p x) = 0 := by
        cases hg : goesP p x with
        | true =>
          have hk : kindL x.text = 3 := by unfold goesP at hg; simp at hg; exact hg.1
          have hs : p.said ≠ [] := by unfold goesP at hg; simp at hg; exact hg.2
          have hx : x.ended = false := by
            rcases hbad with h5 | ⟨_, hp⟩ | hx
            · omega
            · exact absurd (h.prev.2 hs) hp
            · exact hx
          have hxs := he hx
          have hw : wentP p x = { p with said := p.said ++ [x.text] } := by unfold wentP; rw [hg, if_pos rfl]
          have hok := h.ok hs
          rw [hw, endN_said (by simp)]
          unfold pendN at hok
          rw [more_three hk, hxs] at hok
          exact hok
        | false =>
          have hw : wentP p x = p := by unfold wentP; rw [hg]; rfl
          rw [hw]
          by_cases hs : p.said = []
          · unfold endFieldN; rw [if_pos hs]
          · refine hE0 hs (more_else ?_)
            intro h3
            unfold goesP at hg
            rw [h3, said_isEmpty hs] at hg
            simp at hg
      rw [finish_no (take_form hen hwr)]
    · have hx : x.ended = true := by
        cases hx : x.ended with
        | true => rfl
        | false => exact absurd (.inr (.inr hx)) hbad
      have h5 : kindL x.text ≠ 5 := fun h5 => hbad (.inl h5)
      have hb : x.bytes = x.text ++ [10] := by unfold Ln.bytes; rw [hx]; rfl
      have hraw : (t.take (c + x.bytes.length)).drop p.at_ = s.raw ++ x.text ++ [10] := by
        rw [raw_more t1 h.at_ h.full, ← h.raw, hb, List.append_assoc]
      have hbl : x.bytes.length = x.text.length + 1 := by rw [hb]; simp
      by_cases h3 : kindL x.text = 3
      · -- it goes on with the field
        have hprev : s.prev = 4 ∨ s.prev = 3 := Classical.byContradiction fun hn => hbad (.inr (.inl ⟨h3, hn⟩))
        have hs := h.prev.1 hprev
        have hg : goesP p x = true := by unfold goesP; rw [h3, said_isEmpty hs]; rfl
        have hw : wentP p x = { p with said := p.said ++ [x.text] } := by unfold wentP; rw [hg, if_pos rfl]
        have hwr : wrongP p x = false := by unfold wrongP; rw [h3, hg, hx]; rfl
        have hen : endsP p x = false := by unfold endsP; rw [hwr, hg]; rfl
        have ht : takeP t p x = .ok { p with said := p.said ++ [x.text] } := by
          rw [take_of (by rw [hen]; intro h; cases h) hwr]
          unfold thenP; rw [hen, if_neg (by decide), hw]
          unfold putP; rw [h3]; rfl
        have hw0 : refWrong s x xs = 0 := by unfold refWrong; rw [if_neg hbad, if_pos (by omega)]
        have hput : refPut s x xs = { s with raw := s.raw ++ x.text ++ [10], prev := 3 } := by unfold refPut; rw [if_neg (by omega), if_neg (by omega), h3]
        rw [finish_cons ht, hw0, if_neg (by decide), hput]
        have hall : (p.said ++ [x.text]) ++ more xs = p.said ++ more (x :: xs) := by rw [more_three h3]; simp
        refine run_rel t xs (no + 1) (c + x.bytes.length) _ _ r4 hes hcl' ⟨h.items, ?_, ?_, t3, t2, ?_, ?_, ?_, ?_, ?_, ?_, h.st, fun _ => h.st' (fun hh => hs hh.2), h.fl⟩
        · exact hraw.symm
        · show p.at_ ≤ _; have := h.at_; omega
        · show s.records = p.stanzas + if p.fields = [] ∧ p.said ++ [x.text] = [] then 0 else 1
          rw [h.recd, if_neg (fun hh => hs hh.2), if_neg (by simp)]
        · show s.kind = if p.fields = [] ∧ p.said ++ [x.text] = [] then 2 else 3
          rw [h.kind, if_neg (fun hh => hs hh.2), if_neg (by simp)]
        · show s.fields = p.fields ++ if p.said ++ [x.text] = [] then [] else [(unfoldK ((p.said ++ [x.text]) ++ more xs), unfoldV ((p.said ++ [x.text]) ++ more xs))]
          rw [h.fields, if_neg hs, if_neg (by simp), hall]
        · intro _
          have hok := h.ok hs
          unfold pendN at hok ⊢
          show (if unfoldN ((p.said ++ [x.text]) ++ more xs) ≠ 0 then unfoldN ((p.said ++ [x.text]) ++ more xs) else if fullP p then 11 else 0) = 0
          rw [hall]; exact hok
        · exact ⟨fun _ => by simp, fun _ => .inr rfl⟩
        · exact .inr (by show p.at_ < _; have := h.at_; omega)
      · -- it goes on with none
        have hm : more (x :: xs) = [] := more_else h3
        have hN : endFieldN p = 0 := by
          by_cases hs : p.said = []
          · unfold endFieldN; rw [if_pos hs]
          · exact hE0 hs hm
        have hg : goesP p x = false := goes_kind h3
        have hw : wentP p x = p := by unfold wentP; rw [hg]; rfl
        have hwr : wrongP p x = false := by unfold wrongP; rw [hg, hx]; simp [h3, h5]
        have hen : endsP p x = true := by unfold endsP; rw [hg]; simp
        have hth : thenP p x = endFieldP p := by unfold thenP; rw [hen, if_pos rfl, hw]
        have ht : takeP t p x = .ok (putP t (endFieldP p) x) := by
          rw [take_of (by rw [hw]; exact fun _ => hN) hwr, hth]
        have hf := h.fields_end hm
        have hfl := h.fl_end
        rw [finish_cons ht]
        rcases kind_of hclx with hk | hk | hk | hk | hk
        · -- blank
          have hw0 : refWrong s x xs = 0 := by unfold refWrong; rw [if_neg hbad, if_pos (by omega)]
          have hput : refPut s x xs = ⟨s.out ++ s.block ++ [⟨1, x.text ++ [10], []⟩], 2, [], [], s.records, 1⟩ := by unfold refPut; rw [if_pos hk]
          obtain ⟨b1, b2, b3, b4, b5⟩ := block_rel h hm
          have hP : putP t (endFieldP p) x = endItemP t (endBlockP t (endFieldP p) c) 1 (c + x.bytes.length) := by
            unfold putP; rw [if_neg (by omega), if_pos hk, r2, hbl]; rfl
          have hbr : (t.take (c + x.bytes.length)).drop c = x.text ++ [10] := by
            rw [raw_more t1 (Nat.le_refl _) h.full, hb, List.drop_eq_nil_of_le (by rw [List.length_take]; omega)]; rfl
          rw [hw0, if_neg (by decide), hput, hP]
          refine run_rel t xs (no + 1) (c + x.bytes.length) _ _ r4 hes hcl' ⟨?_, ?_, Nat.le_refl _, t3, t2, ?_, ?_, ?_, ?_, ?_, ?_, ?_, ?_, ?_⟩
          · show s.out ++ s.block ++ [_] = (endBlockP t (endFieldP p) c).items ++ [⟨((1 : Nat) : Int), (t.take (c + x.bytes.length)).drop (endBlockP t (endFieldP p) c).at_, (endBlockP t (endFieldP p) c).fields⟩]
            rw [b1, b3, b5, hbr]; rfl
          · show [] = (t.take (c + x.bytes.length)).drop (c + x.bytes.length)
            rw [List.drop_eq_nil_of_le]; rw [List.length_take]; omega
          · show s.records = (endBlockP t (endFieldP p) c).stanzas + if ([] : List Fld) = [] ∧ (endBlockP t (endFieldP p) c).said = [] then 0 else 1
            rw [b2, if_pos ⟨rfl, b4⟩]; rfl
          · show (2 : Int) = if ([] : List Fld) = [] ∧ (endBlockP t (endFieldP p) c).said = [] then 2 else 3
            rw [if_pos ⟨rfl, b4⟩]
          · show [] = [] ++ if (endBlockP t (endFieldP p) c).said = [] then [] else _
            rw [if_pos b4]; rfl
          · exact fun hn => absurd b4 hn
          · exact ⟨fun hh => by rcases hh with hh | hh; exact absurd (show (1 : Nat) = 4 from hh) (by decide); exact absurd (show (1 : Nat) = 3 from hh) (by decide), fun hh => absurd b4 hh⟩
          · exact .inl ⟨rfl, b4⟩
          · show (endBlockP t (endFieldP p) c).stanzas ≤ 400
            rw [b2]; exact h.records_le
          · exact fun hn => absurd ⟨rfl, b4⟩ hn
          · show ([] : List Fld).length ≤ 40; decide
        · -- a note
          have hw0 : refWrong s x xs = 0 := by unfold refWrong; rw [if_neg hbad, if_pos (by omega)]
          have hput : refPut s x xs = { s with raw := s.raw ++ x.text ++ [10], prev := 2 } := by unfold refPut; rw [if_neg (by omega), if_neg (by omega), hk]
          have hP : putP t (endFieldP p) x = endFieldP p := by unfold putP; rw [if_neg (by omega), if_neg (by omega)]
          have hcond : ((endFieldP p).fields = [] ∧ (endFieldP p).said = []) ↔ (p.fields = [] ∧ p.said = []) := by
            rw [endP_none]; exact ⟨fun hh => hh.1, fun hh => ⟨hh, endField_said p⟩⟩
          rw [hw0, if_neg (by decide), hput, hP]
          refine run_rel t xs (no + 1) (c + x.bytes.length) _ _ r4 hes hcl' ⟨?_, ?_, ?_, t3, t2, ?_, ?_, ?_, ?_, ?_, ?_, ?_, ?_, hfl⟩
          · rw [endP_items]; exact h.items
          · rw [endP_at]; exact hraw.symm
          · rw [endP_at]; have := h.at_; omega
          · rw [endP_stanzas]; show s.records = _; rw [h.recd]; congr 1; simp only [hcond]
          · show s.kind = _; rw [h.kind]; simp only [hcond]
          · show s.fields = _; rw [hf, if_pos (endField_said p), List.append_nil]
          · exact fun hn => absurd (endField_said p) hn
          · exact ⟨fun hh => by rcases hh with hh | hh; exact absurd (show (2 : Nat) = 4 from hh) (by decide); exact absurd (show (2 : Nat) = 3 from hh) (by decide), fun hh => absurd (endField_said p) hh⟩
          · rw [endP_at]; exact .inr (by have := h.at_; omega)
          · rw [endP_stanzas]; exact h.st
          · rw [endP_stanzas]; exact fun hn => h.st' (fun hh => hn (hcond.2 hh))
        · exact absurd hk h3
        · -- a pair
          have hP : putP t (endFieldP p) x = { endFieldP p with begin_ := x.no, said := [x.text] } := by unfold putP; rw [if_pos hk]
          have hrec0 : (endFieldP p).fields.length = 0 → s.records = p.stanzas := fun hz => by
            rw [h.recd, if_pos ((endP_none p).1 (List.length_eq_zero_iff.1 hz)), Nat.add_zero]
          have hst := h.st
          have hfull : fullP { endFieldP p with begin_ := x.no, said := [x.text] } = decide (40 ≤ s.fields.length ∨ (s.fields.length = 0 ∧ 400 ≤ s.records)) := by
            unfold fullP
            show (if (endFieldP p).fields.length = 0 then (endFieldP p).stanzas == 400 else (endFieldP p).fields.length == 40) = _
            rw [hf, endP_stanzas]
            split
            · rename_i hz
              have := hrec0 hz
              rw [Bool.eq_iff_iff, beq_iff_eq, decide_eq_true_iff]; omega
            · rename_i hz
              rw [Bool.eq_iff_iff, beq_iff_eq, decide_eq_true_iff]; omega
          have hpn : refWrong s x xs = pendN { endFieldP p with begin_ := x.no, said := [x.text] } xs := by
            unfold refWrong pendN
            rw [if_neg hbad, if_neg (by omega), hfull]
            show (if unfoldN (x.text :: more xs) ≠ 0 then _ else _) = (if unfoldN ([x.text] ++ more xs) ≠ 0 then _ else _)
            simp only [List.cons_append, List.nil_append, decide_eq_true_eq]
          rw [hP]
          by_cases hn : refWrong s x xs = 0
          · rw [hn, if_neg (by decide)]
            have hput : refPut s x xs = ⟨s.out, 3, s.raw ++ x.text ++ [10], s.fields ++ [(unfoldK (x.text :: more xs), unfoldV (x.text :: more xs))], if s.kind = 2 then s.records + 1 else s.records, 4⟩ := by unfold refPut; rw [if_neg (by omega), if_pos hk]
            rw [hput]
            have hp0 : pendN { endFieldP p with begin_ := x.no, said := [x.text] } xs = 0 := by rw [← hpn]; exact hn
            have hnf : ¬ (40 ≤ s.fields.length ∨ (s.fields.length = 0 ∧ 400 ≤ s.records)) := by
              intro hh
              unfold pendN at hp0
              rw [hfull, decide_eq_true hh] at hp0
              split at hp0
              · rename_i hu; exact hu hp0
              · simp at hp0
            refine run_rel t xs (no + 1) (c + x.bytes.length) _ _ r4 hes hcl' ⟨?_, ?_, ?_, t3, t2, ?_, ?_, ?_, ?_, ?_, ?_, ?_, ?_, hfl⟩
            · show s.out = (endFieldP p).items; rw [endP_items]; exact h.items
            · show s.raw ++ x.text ++ [10] = (t.take (c + x.bytes.length)).drop (endFieldP p).at_
              rw [endP_at]; exact hraw.symm
            · show (endFieldP p).at_ ≤ _; rw [endP_at]; have := h.at_; omega
            · show (if s.kind = 2 then s.records + 1 else s.records) = (endFieldP p).stanzas + if (endFieldP p).fields = [] ∧ [x.text] = [] then 0 else 1
              have e1 : ¬ ((endFieldP p).fields = [] ∧ [x.text] = []) := fun hh => by cases hh.2
              rw [endP_stanzas, if_neg e1, h.kind, h.recd]
              by_cases hc0 : p.fields = [] ∧ p.said = []
              · rw [if_pos hc0, if_pos hc0, if_pos rfl]
              · rw [if_neg hc0, if_neg hc0, if_neg (by decide)]
            · show (3 : Int) = if (endFieldP p).fields = [] ∧ [x.text] = [] then 2 else 3
              rw [if_neg (fun hh => by cases hh.2)]
            · show s.fields ++ _ = (endFieldP p).fields ++ if [x.text] = [] then [] else [(unfoldK ([x.text] ++ more xs), unfoldV ([x.text] ++ more xs))]
              rw [if_neg (by simp), hf]; rfl
            · exact fun _ => hp0
            · exact ⟨fun _ => by show [x.text] ≠ []; simp, fun _ => .inl rfl⟩
            · show _ ∨ (endFieldP p).at_ < _; rw [endP_at]; exact .inr (by have := h.at_; omega)
            · show (endFieldP p).stanzas ≤ 400; rw [endP_stanzas]; exact h.st
            · intro _
              show (endFieldP p).stanzas ≤ 399
              rw [endP_stanzas]
              by_cases hc0 : p.fields = [] ∧ p.said = []
              · have hz : (endFieldP p).fields.length = 0 := by rw [(endP_none p).2 hc0]; rfl
                have := hrec0 hz
                rw [hf] at hnf
                omega
              · exact h.st' hc0
          · rw [if_pos hn, run_pend t xs _ hes (by show [x.text] ≠ []; simp) (by rw [← hpn]; exact hn), ← hpn]
        · exact absurd hk h5
theorem parse_ref (t : List UInt8) : parseL t = refParseL t := by
  have h := run_rel t (linesOf t) 0 0 PS.new RS.new (runs_linesOn _ 0 0 t (Nat.le_refl _)) (ends_linesOn _ 0 0 t (Nat.le_refl _)) (linesOn_clean _ 0 0 t (Nat.le_refl _)) (Rel.new t)
  exact h
end Go.Proofs.YtflnlenkgbphpaaGreatDoor

