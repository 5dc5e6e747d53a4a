/- Texts put together: PW, PX, PY, GD, PZ, TF, FO. -/
import Derived.Laws.AppendOwnNone
import Derived.Deep.DeepCutAuto
import Derived.Test.YtflnlenkgbphpaaGreatDoorBaf3
import Derived.Test.YtflnlenkgbphpaaGreatDoorBaf7
import Derived.Test.YtflnlenkgbphpaaGreatDoorBaf9
set_option linter.unusedVariables false
namespace Go.Proofs.YtflnlenkgbphpaaGreatDoor
open Go.RowKit Go.Shelf

theorem raws_len (its : List It) (h : ∀ it ∈ its, it.raw.length ≤ 100000) : ∀ k, ((its.take k).flatMap It.raw).length ≤ 100000 * k := by
  intro k
  induction k with
  | zero => simp
  | succ k ih =>
    rw [List.take_add_one, List.flatMap_append, List.length_append]
    cases hk : its[k]? with
    | none => simp only [Option.toList_none, List.flatMap_nil, List.length_nil]; omega
    | some it =>
      have := h it (List.mem_of_getElem? hk)
      simp only [Option.toList_some, List.flatMap_cons, List.flatMap_nil, List.append_nil]; omega
theorem raws_snoc (its : List It) (k : Nat) (it : It) (h : its[k]? = some it) : (its.take (k + 1)).flatMap It.raw = (its.take k).flatMap It.raw ++ it.raw := by
  rw [List.take_add_one, h]; simp
set_option maxRecDepth 100000 in
set_option maxHeartbeats 4000000 in
theorem join_any (its : List It) (v : Value) (w : World) (h : Its w v its) (hn : its.length ≤ 100000) (hr : ∀ it ∈ its, it.raw.length ≤ 100000) :
    Calls Tryz.prog 74 #[v] w fun e w' => e = .returned (.string (B (its.flatMap It.raw))) ∧ Below w.heap.size w w' := by
  have B0 := Bld.new w (w.heap.size + 1)
  have IT := Lib.hid h
  obtain ⟨A, cap, rfl, hle, _⟩ := h
  have HL := Lib.hid (raws_len its hr)
  have HR := Lib.hid hr
  clear hr
  go_enter Tryz.func74, Tryz.ntmps74
  go_wp2_with fail
  go_loopw [8] (fun i wr => ∃ k : Nat, k ≤ its.length ∧ i = .int .i64 k ∧ Bld w.heap.size (w.heap.size + 1) ((its.take k).flatMap It.raw) wr ∧ Below w.heap.size w wr) (fun i _ => its.length - (intOf i).toNat)
  case atStart => exact ⟨0, Nat.zero_le _, rfl, B0, (Below.refl _ _).alloc (Nat.le_refl _) _⟩
  case round =>
    obtain ⟨k, hk, rfl, hbl, hb⟩ := hrel
    have hz := hb.size
    have hbs := hbl.lt
    by_cases hlt : k < its.length
    · obtain ⟨it, hit⟩ : ∃ it, its[k]? = some it := ⟨_, List.getElem?_eq_getElem hlt⟩
      obtain ⟨b, off, cap', fa, fc, e, _, hbb, c0, c1, c2, hfl⟩ := (IT.out.below hb (Nat.le_refl _)).at_ hit
      cases e
      have hl1 := HL.out k
      have hl2 := HR.out it (List.mem_of_getElem? hit)
      have SN := Lib.hid (raws_snoc its k it hit)
      have hba := hb.alloc hz (.cells #[.int .i64 it.kind, .string (B it.raw), .slice fa it.fields.length fc] 99)
      have hbla := hbl.alloc (.cells #[.int .i64 it.kind, .string (B it.raw), .slice fa it.fields.length fc] 99)
      have zr := B_size it.raw
      clear hit IT HL HR hbl
      generalize (its.take k).flatMap It.raw = pre at *
      go_wp2_with fail
      refine (writes w.heap.size (w.heap.size + 1) _ (B it.raw) _ hbla (by omega) (by simp; omega) (by omega)).mono ?_
      rintro e w5 ⟨rfl, hbl5, hw5⟩
      rw [B_data] at hbl5
      have hb5 := hba.trans (hw5.below (Nat.le_refl _) (by omega) (by simp; omega))
      clear hbla hw5
      go_wp2_with fail
      go_roundw
      case rel => exact ⟨k + 1, hlt, by go_num, by rw [SN.out]; exact hbl5, hb5⟩
      case measure => simp [intOf]; omega
    · obtain rfl : k = its.length := by omega
      rw [List.take_length] at hbl
      clear IT HL HR
      go_wp2_with fail
      refine (Tryz.Builder_String_any_k w.heap.size w.heap.size _ wr (hbl.library (Nat.le_refl _) (by omega)) (by omega)).mono ?_
      rintro e w5 ⟨rfl, _, b5, _⟩
      go_wp2_with fail
      go_ret
      exact ⟨rfl, hb.trans b5⟩
end Go.Proofs.YtflnlenkgbphpaaGreatDoor

namespace Go.Proofs.YtflnlenkgbphpaaGreatDoor
open Go.RowKit Go.Shelf

theorem rcellsF_at {w : World} {ad : Addr} {fs : List Fld} {cap : Nat} (hc : ∀ (i : Nat) (f : List UInt8 × List UInt8), fs[i]? = some f → ∃ b off, some ad = some (⟨b, off, none⟩ : Addr) ∧ b < w.heap.size ∧ w.cell? ⟨b, off + i * 2, none⟩ = some (.string (B f.1)) ∧ w.cell? ⟨b, off + i * 2 + 1, none⟩ = some (.string (B f.2))) (o : Obj) :
    ∀ (j : Nat) u, (cellsF fs)[j]? = some u → (w.alloc o).cell? (ad.add j) = some u := by
  intro j u hu
  have hj : j < (cellsF fs).length := by
    rcases Nat.lt_or_ge j (cellsF fs).length with q | q
    · exact q
    · rw [List.getElem?_eq_none q] at hu; cases hu
  rw [cellsF_len] at hj
  have hi2 : j / 2 < fs.length := by omega
  obtain ⟨f, hf⟩ : ∃ f, fs[j / 2]? = some f := ⟨_, List.getElem?_eq_getElem hi2⟩
  obtain ⟨b, off, e, hbb, c0, c1⟩ := hc _ f hf
  obtain ⟨a1, a2⟩ := cellsF_at fs _ f hf
  cases e
  rw [WideShapes.add_plain, World.cell?_alloc_old _ _ _ (Nat.ne_of_lt hbb)]
  rcases Nat.mod_two_eq_zero_or_one j with h | h
  · have ej : j = j / 2 * 2 := by omega
    rw [← ej] at a1 c0
    rw [c0, ← hu, a1]
  · have ej : j = j / 2 * 2 + 1 := by omega
    rw [Nat.add_assoc, ← ej] at c1
    rw [← ej] at a2
    rw [c1, ← hu, a2]
theorem eqlNil (w : World) : (binOp BinOp.eql 31 (.slice none 0 0) (.slice none 0 0)).run Tryz.prog w = .ok (.bool true) w := by kernel_rfl
theorem eqlSome (ad : Addr) (n c : Nat) (w : World) : (binOp BinOp.eql 31 (.slice (some ad) n c) (.slice none 0 0)).run Tryz.prog w = .ok (.bool false) w := by kernel_rfl
attribute [local go_sem] eqlNil eqlSome
set_option maxRecDepth 100000 in
set_option maxHeartbeats 4000000 in
theorem clone_any (fs : List Fld) (v : Value) (w : World) (hs : Flds w v fs) (hnil : ∀ n c, v = .slice none n c → c = 0) (hn : fs.length ≤ 1000000) :
    Calls Tryz.prog 42 #[v] w fun e w' => ∃ v', e = .returned v' ∧ w'.ownsRow w.heap.size 35 2 v' fs.length (cellsF fs) ∧ Below w.heap.size w w' := by
  obtain ⟨A, cap, rfl, hle, hc⟩ := hs
  obtain ⟨i0, hi, hz0, hz1, hz2⟩ := info_parts infoFld
  cases A with
  | none =>
    have he : fs = [] := by
      cases fs with
      | nil => rfl
      | cons a r => obtain ⟨b, off, e, _⟩ := hc 0 a rfl; cases e
    have hc0 := hnil _ _ rfl
    subst hc0
    subst he
    simp only [List.length_nil]
    go_enter Tryz.func42, Tryz.ntmps42
    go_wp2_with fail
    go_ret
    exact ⟨_, rfl, ⟨rfl, .inl ⟨rfl, rfl⟩⟩, Below.refl _ _⟩
  | some ad =>
    have hoN : (w.alloc (.cells #[] 35)).ownsRow w.heap.size 35 2 (.slice (some ⟨w.heap.size, 0, none⟩) 0 0) 0 [] := World.ownsRow_lit w #[] 0 (Nat.le_refl _) (by decide) rfl
    have hba := (Below.refl w.heap.size w).alloc (Nat.le_refl _) (.cells #[] 35)
    have HC := Lib.hid (rcellsF_at (cap := cap) hc (.cells #[] 35))
    have hone : ∀ u ∈ cellsF fs, u.oneCell' = true := by
      intro u hu
      unfold cellsF at hu
      simp at hu
      obtain ⟨a, b, _, h | h⟩ := hu <;> subst h <;> rfl
    have HL := cellsF_len fs
    clear hc
    generalize cellsF fs = cf at *
    go_enter Tryz.func42, Tryz.ntmps42
    go_wp2_with (at_builtin; refine wpList_append_own _ rfl _ _ 31 rfl w.heap.size 35 i0 _ 2 32 Tryz.underlying31 hi hz0 hz1 hz2 rfl (by decide) _ 0 [] rfl hoN ad fs.length cap cf rfl HL HC.out hone ?c3 ?c4 ?c5 ?_)
    case c3 => unfold maxLen; omega
    case c4 => omega
    case c5 => simp
    intro v' w3 hown' hgrow _
    have hb3 : Below w.heap.size w w3 := hba.grown hgrow (by simp) (fun j ej => (World.ownsRow.lt hoN j ej).1)
    go_wp2_with fail
    go_ret
    exact ⟨_, rfl, hown', hb3⟩
/-- A slice of slices of fields, readable. -/
def Rws (w : World) (v : Value) (rs : List (List Fld)) : Prop :=
  ∃ A cap, v = .slice A rs.length cap ∧ rs.length ≤ cap ∧ ∀ (i : Nat) (r : List Fld), rs[i]? = some r → ∃ b off fv, A = some ⟨b, off, none⟩ ∧ b < w.heap.size ∧ w.cell? ⟨b, off + i, none⟩ = some fv ∧ Flds w fv r
theorem Rws.below {w w' : World} {v : Value} {rs : List (List Fld)} {n : Nat} (h : Rws w v rs) (hb : Below n w w') (hn : w.heap.size ≤ n) : Rws w' v rs := by
  obtain ⟨A, cap, hv, hle, hc⟩ := h
  refine ⟨A, cap, hv, hle, fun i r hi => ?_⟩
  obtain ⟨b, off, fv, hA, hlt, c0, hf⟩ := hc i r hi
  exact ⟨b, off, fv, hA, Nat.lt_of_lt_of_le hlt hb.size, (hb.cell (p := ⟨b, off + i, none⟩) (Nat.lt_of_lt_of_le hlt hn)).trans c0, hf.below hb hn⟩
/-- The accumulated rows: by definition (its rows are the items' own), by the program (its rows are new). -/
structure AccR (w wr : World) (v : Value) (vs : List Value) (rs : List (List Fld)) : Prop where
  row : wr.ownsRow w.heap.size 31 1 v vs.length vs
  len : vs.length = rs.length
  each : ∀ (j : Nat) x r, vs[j]? = some x → rs[j]? = some r → Flds w x r
  below : Below w.heap.size w wr
structure AccP (w wr : World) (v : Value) (vs : List Value) (rs : List (List Fld)) : Prop where
  row : wr.ownsRow w.heap.size 31 1 v vs.length vs
  len : vs.length = rs.length
  each : ∀ (j : Nat) x r, vs[j]? = some x → rs[j]? = some r → wr.ownsRow w.heap.size 35 2 x r.length (cellsF r)
  below : Below w.heap.size w wr
theorem snoc_at {α : Type} {l : List α} {a x : α} {j : Nat} (h : (l ++ [a])[j]? = some x) : (j < l.length ∧ l[j]? = some x) ∨ (j = l.length ∧ x = a) := by
  rcases Nat.lt_or_ge j l.length with q | q
  · rw [List.getElem?_append_left q] at h; exact .inl ⟨q, h⟩
  · rw [List.getElem?_append_right q] at h
    have hz : j - l.length = 0 := by
      rcases Nat.eq_zero_or_pos (j - l.length) with z | z
      · exact z
      · rw [List.getElem?_eq_none (by simp; omega)] at h; cases h
    rw [hz] at h
    cases h
    exact .inr ⟨by omega, rfl⟩
theorem AccR.start (w : World) : AccR w w (.slice none 0 0) [] [] := ⟨⟨rfl, .inl ⟨rfl, rfl⟩⟩, rfl, fun j x r h => by simp at h, Below.refl _ _⟩
theorem AccP.start (w : World) : AccP w w (.slice none 0 0) [] [] := ⟨⟨rfl, .inl ⟨rfl, rfl⟩⟩, rfl, fun j x r h => by simp at h, Below.refl _ _⟩
theorem AccP.kept {w wr w2 : World} {v : Value} {vs : List Value} {rs : List (List Fld)} (h : AccP w wr v vs rs) (hb : Below wr.heap.size wr w2) : AccP w w2 v vs rs :=
  ⟨own_kept h.row hb (Nat.le_refl _), h.len, fun j x r h1 h2 => own_kept (h.each j x r h1 h2) hb (Nat.le_refl _), h.below.trans (hb.mono h.below.size)⟩
theorem AccR.kept {w wr w2 : World} {v : Value} {vs : List Value} {rs : List (List Fld)} (h : AccR w wr v vs rs) (hb : Below wr.heap.size wr w2) : AccR w w2 v vs rs :=
  ⟨own_kept h.row hb (Nat.le_refl _), h.len, h.each, h.below.trans (hb.mono h.below.size)⟩
theorem AccR.snoc {w W W1 w3 : World} {v v' x : Value} {vs : List Value} {rs : List (List Fld)} {r : List Fld} (h : AccR w W v vs rs) (hx : Flds w x r) (h1 : Below W.heap.size W W1) (ho : w3.ownsRow w.heap.size 31 1 v' (vs.length + 1) (vs ++ [x])) (hg : W1.grownBy w3 v.ownBlock) : AccR w w3 v' (vs ++ [x]) (rs ++ [r]) := by
  refine ⟨by rw [List.length_append]; exact ho, by simp [h.len], fun j y s hy hs => ?_, (h.below.trans (h1.mono h.below.size)).grown hg (Nat.le_trans h.below.size h1.size) (fun k e => (h.row.lt k e).1)⟩
  rcases snoc_at hy with ⟨q, hy⟩ | ⟨q, rfl⟩
  · rw [List.getElem?_append_left (by rw [← h.len]; exact q)] at hs
    exact h.each j y s hy hs
  · rw [q, h.len, List.getElem?_append_right (Nat.le_refl _)] at hs
    simp at hs
    subst hs; exact hx
theorem row73 {W w3 : World} {lo : Nat} {v x : Value} {n m : Nat} {xs ys : List Value} (hv : W.ownsRow lo 31 1 v n xs) (hx : W.ownsRow lo 35 2 x m ys) (hg : W.grownBy w3 v.ownBlock) : w3.ownsRow lo 35 2 x m ys := by
  refine row_same hx fun b hb => hg.block b (hx.lt b hb).2 (fun e => ?_)
  rcases hx.2 with ⟨rfl, _⟩ | ⟨g, cap, cur, rfl, _, hc, _⟩
  · cases hb
  · cases hb
    rcases hv.2 with ⟨rfl, _⟩ | ⟨g', cap', cur', rfl, _, hc', _⟩
    · cases e
    · have : g = g' := Option.some.inj e
      subst this
      rw [hc] at hc'
      injection hc' with hc'
      injection hc' with _ h2 _
      exact absurd h2 (by decide)
theorem AccP.snoc {w W w3 : World} {v v' x : Value} {vs : List Value} {rs : List (List Fld)} {r : List Fld} (h : AccP w W v vs rs) (hx : W.ownsRow w.heap.size 35 2 x r.length (cellsF r)) (ho : w3.ownsRow w.heap.size 31 1 v' (vs.length + 1) (vs ++ [x])) (hg : (W.alloc (.cells #[x] 31)).grownBy w3 v.ownBlock) : AccP w w3 v' (vs ++ [x]) (rs ++ [r]) := by
  have h' := h.kept ((Below.refl W.heap.size W).alloc (Nat.le_refl _) (.cells #[x] 31))
  have hx' := own_kept hx ((Below.refl W.heap.size W).alloc (Nat.le_refl _) (.cells #[x] 31)) (Nat.le_refl _)
  refine ⟨by rw [List.length_append]; exact ho, by simp [h.len], fun j y s hy hs => ?_, h'.below.grown hg h'.below.size (fun k e => (h.row.lt k e).1)⟩
  rcases snoc_at hy with ⟨q, hy⟩ | ⟨q, rfl⟩
  · rw [List.getElem?_append_left (by rw [← h.len]; exact q)] at hs
    exact row73 h'.row (h'.each j y s hy hs) hg
  · rw [q, h.len, List.getElem?_append_right (Nat.le_refl _)] at hs
    simp at hs
    subst hs; exact row73 h'.row hx' hg
theorem valCell (W : World) (x : Value) (t : TypeId) : ∀ (j : Nat) u, [x][j]? = some u → (W.alloc (.cells #[x] t)).cell? ((⟨W.heap.size, 0, none⟩ : Addr).add j) = some u := cells_new_add W t [x]
end Go.Proofs.YtflnlenkgbphpaaGreatDoor

namespace Go.Proofs.YtflnlenkgbphpaaGreatDoor
open Go.RowKit Go.Shelf

/-- A slice of fields that may be written over. -/
def Mine (w : World) (lo : Nat) (v : Value) (n : Nat) : Prop :=
  n = 0 ∧ (∃ A c, v = .slice A 0 c) ∨ ∃ g cap cur, v = .slice (some ⟨g, 0, none⟩) n cap ∧ n ≤ cap ∧ lo ≤ g ∧ w.heap[g]? = some (.cells cur 35 (0, 0)) ∧ n * 2 ≤ cur.size
/-- Fields from lo on may have turned. -/
structure Spoilt (lo : Nat) (w w' : World) : Prop where
  os : w'.os = w.os
  tape : w'.tape = w.tape
  output : w'.output = w.output
  size : w'.heap.size = w.heap.size
  same : ∀ (r : Nat) o, w.heap[r]? = some o → w'.heap[r]? = some o ∨ (lo ≤ r ∧ ∃ cur cur', o = .cells cur 35 (0, 0) ∧ w'.heap[r]? = some (.cells cur' 35 (0, 0)) ∧ cur'.size = cur.size)
theorem Spoilt.refl (lo : Nat) (w : World) : Spoilt lo w w := ⟨rfl, rfl, rfl, rfl, fun _ _ h => .inl h⟩
theorem Spoilt.trans {lo : Nat} {a b c : World} (h : Spoilt lo a b) (g : Spoilt lo b c) : Spoilt lo a c := by
  refine ⟨g.os.trans h.os, g.tape.trans h.tape, g.output.trans h.output, g.size.trans h.size, fun r o ho => ?_⟩
  rcases h.same r o ho with h1 | ⟨h1, cur, cur', rfl, h2, h3⟩
  · exact g.same r o h1
  · rcases g.same r _ h2 with g1 | ⟨_, c1, c2, g1, g2, g3⟩
    · exact .inr ⟨h1, cur, cur', rfl, g1, h3⟩
    · injection g1 with g1
      subst g1
      exact .inr ⟨h1, cur, c2, rfl, g2, g3.trans h3⟩
theorem Spoilt.set {lo g : Nat} {w : World} {cur : Array Value} (h : w.heap[g]? = some (.cells cur 35 (0, 0))) (hg : lo ≤ g) (i : Nat) (u : Value) : Spoilt lo w (w.setCell ⟨g, i, none⟩ u) := by
  refine ⟨rfl, rfl, rfl, by simp [World.setCell], fun r o ho => ?_⟩
  by_cases e : r = g
  · subst e
    rw [h] at ho
    cases ho
    exact .inr ⟨hg, cur, cur.setIfInBounds i u, rfl, Cells.set (t := 35) h i u, by simp⟩
  · exact .inl ((Below.heap_setCell _ _ _ _ e).trans ho)
theorem Spoilt.below {lo : Nat} {w w' : World} (h : Spoilt lo w w') (hl : lo ≤ w.heap.size) : Below lo w w' := by
  refine ⟨h.os, h.tape, h.output, Nat.le_of_eq h.size.symm, fun r hr => ?_⟩
  rcases h.same r _ (Array.getElem?_eq_getElem (by omega)) with e | ⟨e, _⟩
  · rw [e]; exact (Array.getElem?_eq_getElem (by omega)).symm
  · omega
end Go.Proofs.YtflnlenkgbphpaaGreatDoor

namespace Go.Proofs.YtflnlenkgbphpaaGreatDoor
open Go.RowKit Go.Shelf Go.Maps Go.ChangeShapes Go.Joins Go.WideShapes

theorem cells2 {cs : List Value} (h : cs.length = 2) : ∃ c0 c1, cs = [c0, c1] := by
  match cs, h with
  | [c0, c1], _ => exact ⟨_, _, rfl⟩

set_option maxRecDepth 100000 in
theorem fld_in {H : Type} {enc : TypeId × Value → H} {W : World} {base : Nat} {sp : Nat → Bool} {held : Bool} {fuel : Nat} {cs : List Value} {x : DataW H × List MemPlace} (h : DataW.trod enc Tryz.prog W base sp held fuel 35 cs = some x) :
    ∃ f : List UInt8 × List UInt8, cs = [.string (B f.1), .string (B f.2)] ∧ f.1.length ≤ maxLen ∧ f.2.length ≤ maxLen := by
  obtain ⟨xs, m, _, _, hl, hxl, hf⟩ := DataW.trod_struct Tryz.underlying35 h
  have hl2 : cs.length = 2 := hl.trans (by kernel_rfl)
  obtain ⟨c0, c1, rfl⟩ := cells2 hl2
  have k9 : Tryz.prog.cellsOf 9 = 1 := by kernel_rfl
  have hx : ∀ i, i < 2 → ∃ y, xs[i]? = some y := fun i hi => ⟨_, List.getElem?_eq_getElem (by rw [hxl]; exact hi)⟩
  obtain ⟨y0, e0⟩ := hx 0 (by decide)
  obtain ⟨y1, e1⟩ := hx 1 (by decide)
  have q0 : DataW.trod enc Tryz.prog W base sp held m 9 (List.take (Tryz.prog.cellsOf 9) [c0, c1]) = _ := hf 0 _ rfl
  have q1 : DataW.trod enc Tryz.prog W base sp held m 9 (List.take (Tryz.prog.cellsOf 9) [c1]) = _ := hf 1 _ rfl
  rw [k9, e0] at q0
  rw [k9, e1] at q1
  obtain ⟨s, f0, _, w0⟩ := DataW.trod_string Tryz.underlying9 q0
  obtain ⟨t, f1, _, w1⟩ := DataW.trod_string Tryz.underlying9 q1
  simp at f0 f1
  subst f0 f1
  exact ⟨(s.data.toList, t.data.toList), by rw [B_of, B_of], by rw [← Lib.size_eq]; exact w0, by rw [← Lib.size_eq]; exact w1⟩
set_option maxRecDepth 100000 in
theorem flds_in {H : Type} {enc : TypeId × Value → H} {W : World} {base : Nat} {sp : Nat → Bool} {held : Bool} {fuel : Nat} {v : Value} {x : DataW H × List MemPlace} (h : DataW.trod enc Tryz.prog W base sp held fuel 31 [v] = some x) :
    ∃ fs, FldsIn W v fs := by
  rcases DataW.trod_slice Tryz.underlying31 h with ⟨e, _⟩ | ⟨a, len, cap, elems, rest, n, _, e, _, _, hl, hm, hlen, hel, _, _⟩
  · obtain rfl : v = .slice none 0 0 := by simpa using e
    exact ⟨[], ⟨⟨none, 0, rfl, Nat.le_refl _, fun i f h => by simp at h⟩, fun n c h => by cases h; rfl, Nat.zero_le _, fun f hf => by cases hf⟩⟩
  · obtain rfl : v = .slice (some a) len cap := by simpa using e
    have k2 : Tryz.prog.cellsOf 35 = 2 := by kernel_rfl
    have each : ∀ i, i < len → ∃ f : List UInt8 × List UInt8, (∃ b off, a = ⟨b, off, none⟩ ∧ b < W.heap.size ∧ W.cell? ⟨b, off + i * 2, none⟩ = some (.string (B f.1)) ∧ W.cell? ⟨b, off + i * 2 + 1, none⟩ = some (.string (B f.2))) ∧ f.1.length ≤ maxLen ∧ f.2.length ≤ maxLen := by
      intro i hi
      have h1 := hel i hi
      rw [k2, List.getElem?_eq_getElem (by omega)] at h1
      obtain ⟨cs, hc, ht⟩ := Option.bind_eq_some_iff.1 h1
      obtain ⟨f, rfl, hf1, hf2⟩ := fld_in ht
      obtain ⟨_, _, hat⟩ := World.cells?_some hc
      have c0 := hat 0 (by decide)
      have c1 := hat 1 (by decide)
      obtain ⟨b, off, spot⟩ := a
      have hspot : spot = none := by
        have h2 := hel 0 (by omega)
        rw [k2, List.getElem?_eq_getElem (by omega)] at h2
        obtain ⟨cs', hc', ht'⟩ := Option.bind_eq_some_iff.1 h2
        obtain ⟨f', rfl, _⟩ := fld_in ht'
        obtain ⟨_, hlen', hat'⟩ := World.cells?_some hc'
        have := World.cell?_spot (hat' 0 (by decide))
        simpa [Addr.add] using this
      subst hspot
      rw [WideShapes.add_plain] at c0 c1
      exact ⟨f, ⟨b, off, rfl, World.block_lt_of_cell? W _ c0, c0, c1⟩, hf1, hf2⟩
    have : ∃ g : Nat → List UInt8 × List UInt8, ∀ i, i < len → (∃ b off, a = ⟨b, off, none⟩ ∧ b < W.heap.size ∧ W.cell? ⟨b, off + i * 2, none⟩ = some (.string (B (g i).1)) ∧ W.cell? ⟨b, off + i * 2 + 1, none⟩ = some (.string (B (g i).2))) ∧ (g i).1.length ≤ maxLen ∧ (g i).2.length ≤ maxLen := by
      refine ⟨fun i => if h : i < len then (each i h).choose else ([], []), fun i hi => ?_⟩
      simp only [dif_pos hi]
      exact (each i hi).choose_spec
    obtain ⟨g, hg⟩ := this
    have hll : ((List.range len).map g).length = len := by simp
    refine ⟨(List.range len).map g, ⟨⟨some a, cap, by rw [hll], by rw [hll]; exact hl, fun i f hf => ?_⟩, (fun n c h => by cases h), by rw [hll]; omega, fun f hf => ?_⟩⟩
    · have hi : i < len := by
        rcases Nat.lt_or_ge i len with q | q
        · exact q
        · rw [List.getElem?_eq_none (by rw [hll]; exact q)] at hf; cases hf
      have e : f = g i := by
        rw [List.getElem?_map, List.getElem?_range hi] at hf
        exact (Option.some.inj hf).symm
      subst e
      obtain ⟨b, off, ea, hb, c0, c1⟩ := (hg i hi).1
      exact ⟨b, off, by rw [ea], hb, c0, c1⟩
    · obtain ⟨i, hi, rfl⟩ := List.mem_map.1 hf
      exact (hg i (List.mem_range.1 hi)).2
end Go.Proofs.YtflnlenkgbphpaaGreatDoor

namespace Go.Proofs.YtflnlenkgbphpaaGreatDoor
open Go.RowKit Go.Shelf Go.Maps Go.ChangeShapes Go.Joins Go.WideShapes

theorem cells3 {cs : List Value} (h : cs.length = 3) : ∃ c0 c1 c2, cs = [c0, c1, c2] := by
  match cs, h with
  | [c0, c1, c2], _ => exact ⟨_, _, _, rfl⟩
/-- A slice of items that came in. -/
structure ItsIn (w : World) (v : Value) (its : List It) : Prop where
  is_ : Its w v its
  len : its.length ≤ maxLen
  raw : ∀ it ∈ its, it.raw.length ≤ maxLen
  each : ∀ (i : Nat) (it : It), its[i]? = some it → ∃ b off n cap fv, v = .slice (some ⟨b, off, none⟩) n cap ∧ w.cell? ⟨b, off + i * 3 + 1 + 1, none⟩ = some fv ∧ FldsIn w fv it.fields
theorem its_of_own {w : World} {base : Nat} {v : Value} {its : List It} {fvs : List Value} (h : w.ownsRow base 99 3 v its.length (itemsCells its fvs)) (hl : fvs.length = its.length) (he : ∀ (j : Nat) it x, its[j]? = some it → fvs[j]? = some x → Flds w x it.fields) : Its w v its := by
  rcases Joins.ownsRow_forms h with ⟨e, hn⟩ | ⟨g, cap, e⟩
  · have : its = [] := List.length_eq_zero_iff.1 hn
    rw [e, this]
    exact ⟨none, 0, rfl, Nat.le_refl _, fun i it hi => by simp at hi⟩
  · refine ⟨some ⟨g, 0, none⟩, cap, e, (by rcases h.2 with ⟨q, _⟩ | ⟨g', cap', cur, q, _, _, q2, _⟩; · rw [e] at q; cases q
                                           · rw [e] at q; cases q; exact q2), fun i it hi => ?_⟩
    have hlt : i < its.length := by
      rcases Nat.lt_or_ge i its.length with q | q
      · exact q
      · rw [List.getElem?_eq_none q] at hi; cases hi
    obtain ⟨fv, hfv⟩ : ∃ fv, fvs[i]? = some fv := ⟨_, List.getElem?_eq_getElem (by rw [hl]; exact hlt)⟩
    obtain ⟨a0, a1, a2⟩ := itemsCells_at _ _ i it fv hi hfv
    rw [e] at h
    refine ⟨g, 0, fv, rfl, (World.ownsRow.lt h g rfl).2, ?_, ?_, ?_, he i it fv hi hfv⟩
    · rw [Nat.zero_add, World.ownsRow.cellAt h (i * 3) (by omega)]; exact a0
    · rw [Nat.zero_add, World.ownsRow.cellAt h (i * 3 + 1) (by omega)]; exact a1
    · rw [Nat.zero_add, World.ownsRow.cellAt h (i * 3 + 1 + 1) (by omega)]; exact a2
set_option maxRecDepth 100000 in
set_option maxHeartbeats 4000000 in
theorem copies_own (fs : List Fld) (v : Value) (w : World) (hs : Flds w v fs) (hnil : ∀ n c, v = .slice none n c → c = 0) (hn : fs.length ≤ 1000000) :
    Calls Tryz.prog 37 #[v] w fun e w' => ∃ v', e = .returned v' ∧ w'.ownsRow w.heap.size 35 2 v' fs.length (cellsF fs) ∧ Below w.heap.size w w' := by
  obtain ⟨A, cap, rfl, hle, hc⟩ := hs
  obtain ⟨i0, hi, hz0, hz1, hz2⟩ := info_parts infoFld
  have hoN : (w.alloc (.cells #[] 35)).ownsRow w.heap.size 35 2 (.slice (some ⟨w.heap.size, 0, none⟩) 0 0) 0 [] := World.ownsRow_lit w #[] 0 (Nat.le_refl _) (by decide) rfl
  have hba := (Below.refl w.heap.size w).alloc (Nat.le_refl _) (.cells #[] 35)
  cases A with
  | none =>
    have he : fs = [] := by
      cases fs with
      | nil => rfl
      | cons a r => obtain ⟨b, off, e, _⟩ := hc 0 a rfl; cases e
    have hc0 := hnil _ _ rfl
    subst hc0
    subst he
    simp only [List.length_nil]
    go_enter Tryz.func37, Tryz.ntmps37
    go_wp2_with (at_builtin; refine wpList_append_own_none rfl _ _ 31 rfl w.heap.size 35 i0 2 Tryz.underlying31 hi _ 0 [] rfl hoN rfl ?_)
    go_ret
    exact ⟨_, rfl, hoN, hba⟩
  | some ad =>
    have HC := Lib.hid (rcellsF_at (cap := cap) hc (.cells #[] 35))
    have hone : ∀ u ∈ cellsF fs, u.oneCell' = true := by
      intro u hu
      unfold cellsF at hu
      simp at hu
      obtain ⟨a, b, _, h | h⟩ := hu <;> subst h <;> rfl
    have HL := cellsF_len fs
    clear hc
    generalize cellsF fs = cf at *
    go_enter Tryz.func37, Tryz.ntmps37
    go_wp2_with (at_builtin; refine wpList_append_own _ rfl _ _ 31 rfl w.heap.size 35 i0 _ 2 32 Tryz.underlying31 hi hz0 hz1 hz2 rfl (by decide) _ 0 [] rfl hoN ad fs.length cap cf rfl HL HC.out hone ?c3 ?c4 ?c5 ?_)
    case c3 => unfold maxLen; omega
    case c4 => omega
    case c5 => simp
    intro v' w3 hown' hgrow _
    have hb3 : Below w.heap.size w w3 := hba.grown hgrow (by simp) (fun j ej => (World.ownsRow.lt hoN j ej).1)
    go_wp2_with fail
    go_ret
    exact ⟨_, rfl, hown', hb3⟩
/-- The copies so far. -/
structure AccM (w wr : World) (v : Value) (fvs : List Value) (its : List It) : Prop where
  row : wr.ownsRow w.heap.size 99 3 v its.length (itemsCells its fvs)
  len : fvs.length = its.length
  each : ∀ (j : Nat) it x, its[j]? = some it → fvs[j]? = some x → wr.ownsRow w.heap.size 35 2 x it.fields.length (cellsF it.fields)
  below : Below w.heap.size w wr
theorem AccM.its {w wr : World} {v : Value} {fvs : List Value} {its : List It} (h : AccM w wr v fvs its) : Its wr v its :=
  its_of_own h.row h.len fun j it x h1 h2 => flds_of_own (h.each j it x h1 h2)
theorem AccM.nil {w wr : World} {v : Value} {fvs : List Value} {its : List It} (h : AccM w wr v fvs its) : NilI wr v its := by
  intro i b off n cap m c e hlt hcell
  obtain ⟨it, hi⟩ : ∃ it, its[i]? = some it := ⟨_, List.getElem?_eq_getElem hlt⟩
  obtain ⟨fv, hfv⟩ : ∃ fv, fvs[i]? = some fv := ⟨_, List.getElem?_eq_getElem (by rw [h.len]; exact hlt)⟩
  obtain ⟨_, _, a2⟩ := itemsCells_at _ _ i it fv hi hfv
  have hr := h.row
  rcases Joins.ownsRow_forms hr with ⟨e', hn⟩ | ⟨g, cap', e'⟩
  · omega
  · rw [e'] at e hr
    cases e
    rw [Nat.zero_add, World.ownsRow.cellAt hr (i * 3 + 1 + 1) (by omega), a2] at hcell
    cases hcell
    rcases (h.each i it _ hi hfv).2 with ⟨q, _⟩ | ⟨g', cap', cur, q, _⟩
    · cases q; rfl
    · cases q
theorem AccM.kept {w wr w2 : World} {v : Value} {fvs : List Value} {its : List It} (h : AccM w wr v fvs its) (hb : Below wr.heap.size wr w2) : AccM w w2 v fvs its :=
  ⟨own_kept h.row hb (Nat.le_refl _), h.len, fun j it x h1 h2 => own_kept (h.each j it x h1 h2) hb (Nat.le_refl _), h.below.trans (hb.mono h.below.size)⟩
theorem row42 {W w3 : World} {lo : Nat} {v x : Value} {n m : Nat} {xs ys : List Value} (hv : W.ownsRow lo 99 3 v n xs) (hx : W.ownsRow lo 35 2 x m ys) (hg : W.grownBy w3 v.ownBlock) : w3.ownsRow lo 35 2 x m ys := by
  refine row_same hx fun b hb => hg.block b (hx.lt b hb).2 (fun e => ?_)
  rcases hx.2 with ⟨rfl, _⟩ | ⟨g, cap, cur, rfl, _, hc, _⟩
  · cases hb
  · cases hb
    rcases hv.2 with ⟨rfl, _⟩ | ⟨g', cap', cur', rfl, _, hc', _⟩
    · cases e
    · have : g = g' := Option.some.inj e
      subst this
      rw [hc] at hc'
      injection hc' with hc'
      injection hc' with _ h2 _
      exact absurd h2 (by decide)
theorem AccM.snoc {w W w3 : World} {v v' x : Value} {fvs : List Value} {its : List It} {it : It} (h : AccM w W v fvs its) (hx : W.ownsRow w.heap.size 35 2 x it.fields.length (cellsF it.fields)) (ho : w3.ownsRow w.heap.size 99 3 v' (its.length + 1) (itemsCells its fvs ++ [.int .i64 it.kind, .string (B it.raw), x])) (o : Obj) (hg : (W.alloc o).grownBy w3 v.ownBlock) : AccM w w3 v' (fvs ++ [x]) (its ++ [it]) := by
  have h' := h.kept ((Below.refl W.heap.size W).alloc (Nat.le_refl _) o)
  have hx' := own_kept hx ((Below.refl W.heap.size W).alloc (Nat.le_refl _) o) (Nat.le_refl _)
  refine ⟨by rw [List.length_append, itemsCells_snoc _ _ _ _ h.len]; exact ho, by simp [h.len], fun j y s hy hs => ?_, h'.below.grown hg h'.below.size (fun k e => (h.row.lt k e).1)⟩
  rcases snoc_at hy with ⟨q, hy⟩ | ⟨q, rfl⟩
  · rw [List.getElem?_append_left (by rw [h.len]; exact q)] at hs
    exact row42 h'.row (h'.each j y s hy hs) hg
  · rw [q, ← h.len, List.getElem?_append_right (Nat.le_refl _)] at hs
    simp at hs
    subst hs; exact row42 h'.row hx' hg
end Go.Proofs.YtflnlenkgbphpaaGreatDoor

namespace Go.Proofs.YtflnlenkgbphpaaGreatDoor
open Go.RowKit Go.Shelf

theorem apart_snoc (its : List It) (k : Nat) (it : It) (h : its[k]? = some it) : apartL (its.take (k + 1)) = (apartL (its.take k) ++ if lastF false (its.take k) = true ∧ it.kind ≠ 1 then [⟨1, [10], []⟩] else []) ++ [it] := by
  have e : its.take (k + 1) = its.take k ++ [it] := by rw [List.take_add_one, h]; rfl
  unfold apartL
  rw [e, apartOn_append, List.append_assoc]
  congr 1
theorem lastF_snoc (b : Bool) (l : List It) (x : It) : lastF b (l ++ [x]) = (x.kind != 1) := by rw [lastF_append]; rfl
theorem lastF_at (its : List It) (k : Nat) (it : It) (h : its[k]? = some it) : lastF false (its.take (k + 1)) = (it.kind != 1) := by
  have e : its.take (k + 1) = its.take k ++ [it] := by rw [List.take_add_one, h]; rfl
  rw [e, lastF_snoc]
theorem apartOn_len : ∀ (b : Bool) (l : List It), (apartOn b l).length ≤ 2 * l.length
  | b, [] => by simp [apartOn]
  | b, x :: r => by
    have ih := apartOn_len (x.kind != 1) r
    show ((if _ then _ else _) ++ x :: apartOn _ r).length ≤ _
    rw [List.length_append, List.length_cons, List.length_cons]
    split
    · simp only [List.length_singleton]; omega
    · simp only [List.length_nil]; omega
theorem apart_len (its : List It) : (apartL its).length ≤ 2 * its.length := apartOn_len _ _
theorem apartOn_mem : ∀ (b : Bool) (l : List It), ∀ x ∈ apartOn b l, x ∈ l ∨ x = ⟨1, [10], []⟩
  | b, [], x, h => by simp [apartOn] at h
  | b, y :: r, x, h => by
    have h' : x ∈ (if b = true ∧ y.kind ≠ 1 then [(⟨1, [10], []⟩ : It)] else []) ++ y :: apartOn (y.kind != 1) r := h
    rcases List.mem_append.1 h' with h' | h'
    · split at h'
      · exact .inr (List.mem_singleton.1 h')
      · cases h'
    · rcases List.mem_cons.1 h' with rfl | h'
      · exact .inl List.mem_cons_self
      · rcases apartOn_mem _ r x h' with q | q
        · exact .inl (List.mem_cons_of_mem _ q)
        · exact .inr q
theorem apart_mem {its : List It} {x : It} (h : x ∈ apartL its) : x ∈ its ∨ x = ⟨1, [10], []⟩ := apartOn_mem _ _ _ h
/-- The items so far, of which each one's fields lie where they lay. -/
structure AccI (w wr : World) (v : Value) (fvs : List Value) (its : List It) : Prop where
  row : wr.ownsRow w.heap.size 99 3 v its.length (itemsCells its fvs)
  len : fvs.length = its.length
  each : ∀ (j : Nat) it x, its[j]? = some it → fvs[j]? = some x → Flds w x it.fields
  below : Below w.heap.size w wr
theorem AccI.start (w : World) : AccI w w (.slice none 0 0) [] [] := ⟨⟨rfl, .inl ⟨rfl, rfl⟩⟩, rfl, fun j it x h => by simp at h, Below.refl _ _⟩
theorem AccM.start (w : World) : AccM w w (.slice none 0 0) [] [] := ⟨⟨rfl, .inl ⟨rfl, rfl⟩⟩, rfl, fun j it x h => by simp at h, Below.refl _ _⟩
theorem AccI.its {w wr : World} {v : Value} {fvs : List Value} {its : List It} (h : AccI w wr v fvs its) : Its wr v its :=
  its_of_own h.row h.len fun j it x h1 h2 => (h.each j it x h1 h2).below h.below (Nat.le_refl _)
theorem AccI.kept {w wr w2 : World} {v : Value} {fvs : List Value} {its : List It} (h : AccI w wr v fvs its) (hb : Below wr.heap.size wr w2) : AccI w w2 v fvs its :=
  ⟨own_kept h.row hb (Nat.le_refl _), h.len, h.each, h.below.trans (hb.mono h.below.size)⟩
theorem AccI.snoc {w W w3 : World} {v v' x : Value} {fvs : List Value} {its : List It} {it : It} (h : AccI w W v fvs its) (hx : Flds w x it.fields) (ho : w3.ownsRow w.heap.size 99 3 v' (its.length + 1) (itemsCells its fvs ++ [.int .i64 it.kind, .string (B it.raw), x])) (o : Obj) (hg : (W.alloc o).grownBy w3 v.ownBlock) : AccI w w3 v' (fvs ++ [x]) (its ++ [it]) := by
  have h' := h.kept ((Below.refl W.heap.size W).alloc (Nat.le_refl _) o)
  refine ⟨by rw [List.length_append, itemsCells_snoc _ _ _ _ h.len]; exact ho, by simp [h.len], fun j y s hy hs => ?_, h'.below.grown hg h'.below.size (fun k e => (h.row.lt k e).1)⟩
  rcases snoc_at hy with ⟨q, hy⟩ | ⟨q, rfl⟩
  · rw [List.getElem?_append_left (by rw [h.len]; exact q)] at hs
    exact h.each j y s hy hs
  · rw [q, ← h.len, List.getElem?_append_right (Nat.le_refl _)] at hs
    simp at hs
    subst hs; exact hx
set_option maxHeartbeats 1000000 in
theorem touch_any (a b : Int) (r s f g : Value) (hr : r.oneCell' = true) (w : World) (n m c d : Nat) (fa ga : Option Addr) (x y : ByteArray) (h1 : r = .string x) (h2 : s = .string y) (h3 : f = .slice fa n c) (h4 : g = .slice ga m d) :
    Calls Tryz.prog 109 #[.agg #[.int .i64 a, r, f], .agg #[.int .i64 b, s, g]] w fun e w' => e = .returned (.bool (a != 1 && b != 1)) ∧ Below w.heap.size w w' := by
  subst h1 h2 h3 h4
  have hb : Below w.heap.size w ((w.alloc (.cells #[.int .i64 a, .string x, .slice fa n c] 99)).alloc (.cells #[.int .i64 b, .string y, .slice ga m d] 99)) := ((Below.refl _ _).alloc (Nat.le_refl _) _).alloc (by simp) _
  cases ha : (a != 1) with
  | true =>
    cases hb2 : (b != 1) <;>
    · go_enter Tryz.func109, Tryz.ntmps109
      go_wp2_with fail
      go_ret
      exact ⟨rfl, hb⟩
  | false =>
    go_enter Tryz.func109, Tryz.ntmps109
    go_wp2_with fail
    go_ret
    exact ⟨rfl, hb⟩
end Go.Proofs.YtflnlenkgbphpaaGreatDoor

namespace Go.Proofs.YtflnlenkgbphpaaGreatDoor
open Go.RowKit Go.Shelf

attribute [local go_sem] errV_0
set_option maxRecDepth 100000 in
set_option maxHeartbeats 4000000 in
theorem fold_any (fs : List (List UInt8 × List UInt8)) (v : Value) (w : World) (hs : Flds w v fs) (hn : fs.length ≤ 1000) (hl : ∀ f ∈ fs, f.1.length ≤ 100000 ∧ f.2.length ≤ 100000) :
    Calls Tryz.prog 164 #[v] w fun e w' => e = .returned (.tuple #[.string (B (foldT fs)), errV (foldN fs)]) ∧ Below w.heap.size w w' := by
  obtain ⟨A, cap, rfl, hle, hc⟩ := hs
  have PC := Lib.hid hc
  clear hc
  have B0 := Bld.new w (w.heap.size + 1)
  go_enter Tryz.func164, Tryz.ntmps164
  go_wp2_with fail
  go_loopw [13] (fun i wr => ∃ k : Nat, k ≤ fs.length ∧ i = .int .i64 k ∧ foldN fs = foldN (fs.drop k) ∧ Bld w.heap.size (w.heap.size + 1) (foldG (fs.take k)) wr ∧ (foldG (fs.take k)).length ≤ 4000 * k ∧ Below w.heap.size w wr) (fun i _ => fs.length - (intOf i).toNat)
  case atStart => exact ⟨0, Nat.zero_le _, rfl, rfl, B0, Nat.le_refl _, (Below.refl _ _).alloc (Nat.le_refl _) _⟩
  case round =>
    obtain ⟨k, hk, rfl, hN, hbl, hle4, hb⟩ := hrel
    by_cases hlt : k < fs.length
    · obtain ⟨f, hf⟩ : ∃ f, fs[k]? = some f := ⟨_, List.getElem?_eq_getElem hlt⟩
      obtain ⟨b, off, rfl, hbb, c0, c1⟩ := PC.out k f hf
      replace c0 := (hb.cell (p := ⟨b, off + k * 2, none⟩) hbb).trans c0
      replace c1 := (hb.cell (p := ⟨b, off + k * 2 + 1, none⟩) hbb).trans c1
      obtain ⟨hl1, hl2⟩ := hl f (List.mem_of_getElem? hf)
      have hdrop : fs.drop k = f :: fs.drop (k + 1) := by
        rw [List.drop_eq_getElem_cons hlt]
        rw [List.getElem?_eq_getElem hlt] at hf
        rw [Option.some.inj hf]
      have htake : fs.take (k + 1) = fs.take k ++ [f] := by rw [List.take_add_one, hf]; rfl
      rw [hdrop] at hN
      have NH := Lib.hid hN
      have TH := Lib.hid htake
      have hs1 := hb.size
      have hbs := hbl.lt
      have HB := Lib.hid (hbl.alloc (.cells #[.string (B f.1), .string (B f.2)] 35))
      have hba := hb.alloc hs1 (.cells #[.string (B f.1), .string (B f.2)] 35)
      by_cases hck : checkN f.1 f.2 = 0
      · have LG := fun w => lines_own f.1 f.2 hl1 hl2 w hck
        clear hdrop htake hN hf
        unfold fieldV at LG
        go_wp2_with fail
        refine (LG _).mono ?_
        rintro e w2 ⟨sv, base, rfl, hown, b2⟩
        have hb2 := hba.trans (b2.mono (by simp; omega))
        have hbl2 := HB.out.kept b2 (Nat.le_refl _)
        have htl := text_le hck
        have hm1 : 1 ≤ (linesL f.1 f.2).length := by rw [linesL_len]; omega
        have hm2 : (linesL f.1 f.2).length ≤ 4000 := by rw [textL_len] at htl; omega
        have G1 : Hid (foldG (fs.take (k + 1)) = foldG (fs.take k) ++ textL (linesL f.1 f.2)) := by
          show _ = _
          rw [TH.out, foldG_snoc]
        have G2 : Hid (foldN fs = foldN (fs.drop (k + 1))) := by
          show _ = _
          rw [NH.out]; show (if checkN f.1 f.2 = 0 then foldN (fs.drop (k + 1)) else _) = _; rw [if_pos hck]
        clear HB b2 hba LG hbl hb c0 c1 TH NH hck
        obtain ⟨g, cap', rfl⟩ := Joins.ownsRow_form hown (by simp; omega)
        rw [List.length_map] at hown ⊢
        generalize linesL f.1 f.2 = ls at *
        generalize foldG (fs.take k) = pre at *
        go_wp2_with fail
        go_loopw [27] (fun i wq => ∃ j : Nat, j ≤ ls.length ∧ i = .int .i64 j ∧ Bld w.heap.size (w.heap.size + 1) (pre ++ textL (ls.take j)) wq ∧ wq.ownsRow base 9 1 (.slice (some ⟨g, 0, none⟩) ls.length cap') ls.length ((ls.map B).map Value.string) ∧ Below w.heap.size w wq) (fun i _ => ls.length - (intOf i).toNat)
        case atStart => exact ⟨0, Nat.zero_le _, rfl, by simpa [textL] using hbl2, by simpa [OwnS] using hown, hb2⟩
        case round =>
          obtain ⟨j, hj, rfl, hblj, hownj, hbj⟩ := hrel
          have hsj := hbj.size
          by_cases hjl : j < ls.length
          · obtain ⟨x, hx⟩ : ∃ x, ls[j]? = some x := ⟨_, List.getElem?_eq_getElem hjl⟩
            have hcx := hownj.cellAt j (by omega)
            rw [List.getElem?_map, List.getElem?_map, hx] at hcx
            simp only [Option.map_some] at hcx
            have T1 : Hid (textL (ls.take (j + 1)) = (textL (ls.take j) ++ x) ++ [10]) := by
              show _ = _
              rw [List.take_add_one, hx]; exact textL_snoc _ _
            have t1 := textL_take ls (j + 1)
            rw [T1.out, List.length_append, List.length_append] at t1
            simp only [List.length_singleton] at t1
            have hlj := hblj.lt
            clear hx
            go_wp2_with fail
            refine (writes w.heap.size (w.heap.size + 1) _ (B x) wr hblj (by omega) (by omega) (by rw [B_size, List.length_append]; omega)).mono ?_
            rintro e w5 ⟨rfl, hbl5, hw5⟩
            obtain ⟨cs, hcs⟩ := hblj.cells
            have hownS : OwnS wr base (.slice (some ⟨g, 0, none⟩) ls.length cap') (ls.map B) := by unfold OwnS; rw [List.length_map]; exact hownj
            have hown5 := hownS.wrote hw5 hcs
            have hb5 := hbj.trans (hw5.below (Nat.le_refl _) (by omega) hsj)
            rw [B_data] at hbl5
            have hs5 := hb5.size
            have hl5 := hbl5.lt
            clear hw5 hownS hownj hblj hcs hbj hcx
            go_wp2_with fail
            refine (writes w.heap.size (w.heap.size + 1) _ ⟨#[10]⟩ w5 hbl5 (by omega) (by omega) (by simp only [List.length_append]; show _ + 1 ≤ _; omega)).mono ?_
            rintro e w6 ⟨rfl, hbl6, hw6⟩
            obtain ⟨cs, hcs⟩ := hbl5.cells
            have hown6 := hown5.wrote hw6 hcs
            have hb6 := hb5.trans (hw6.below (Nat.le_refl _) (by omega) hs5)
            clear hw6 hown5 hbl5 hcs hb5
            go_wp2_with fail
            go_roundw
            case rel =>
              refine ⟨j + 1, hjl, by go_num, ?_, ?_, hb6⟩
              · rw [T1.out, ← List.append_assoc, ← List.append_assoc]; exact hbl6
              · unfold OwnS at hown6; rw [List.length_map] at hown6; exact hown6
            case measure => simp [intOf]; omega
          · obtain rfl : j = ls.length := by omega
            rw [List.take_length] at hblj
            go_wp2_with fail
            go_roundw
            case rel =>
              refine ⟨k + 1, hlt, by go_num, G2.out, by rw [G1.out]; exact hblj, ?_, hbj⟩
              rw [G1.out, List.length_append]; omega
            case measure => simp [intOf]; omega
      · have LB := fun w => lines_bad f.1 f.2 hl1 hl2 w hck
        have hfn : foldN fs = checkN f.1 f.2 := by rw [NH.out]; unfold foldN; rw [if_neg hck]
        have hft : foldT fs = [] := by unfold foldT; rw [hfn, if_neg hck]
        rw [errV_pos _ (Nat.pos_of_ne_zero hck)] at LB
        have hev : errV (foldN fs) = .iface 70 (.int .i64 (checkN f.1 f.2 : Int)) := by rw [hfn, errV_pos _ (Nat.pos_of_ne_zero hck)]
        have FTH := Lib.hid hft
        have FNH := Lib.hid hev
        clear hdrop htake hN hf hfn hft NH hck hev
        generalize checkN f.1 f.2 = cn at *
        unfold fieldV at LB
        go_wp2_with fail
        refine (LB _).mono ?_
        rintro e w2 ⟨rfl, b2⟩
        have hb2 := hba.trans (b2.mono (by simp; omega))
        clear b2 LB
        go_wp2_with fail
        go_ret2
        exact ⟨by rw [FNH.out, FTH.out]; rfl, hb2⟩
    · obtain rfl : k = fs.length := by omega
      rw [List.take_length] at hbl
      rw [List.drop_length] at hN
      have h0 : foldN fs = 0 := hN
      have hft : foldT fs = foldG fs := by unfold foldT; rw [if_pos h0]
      have FTH := Lib.hid hft
      have FNH := Lib.hid h0
      have hbs := hbl.lt
      clear hN h0 hft PC hle4
      go_wp2_with fail
      refine (Tryz.Builder_String_any_k w.heap.size w.heap.size _ wr (hbl.library (Nat.le_refl _) (by omega)) (by omega)).mono ?_
      rintro e w5 ⟨rfl, _, b5, _⟩
      go_wp2_with fail
      go_ret2
      exact ⟨by rw [FTH.out, FNH.out]; rfl, hb.trans b5⟩
end Go.Proofs.YtflnlenkgbphpaaGreatDoor

