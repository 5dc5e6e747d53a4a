/- Texts put together: AG, WP, AH, AJ, EN, EH, EI, N0, EK. -/
import Derived.Lib.AppendZeros
import Derived.Laws.AppendOwnNone
import Derived.Laws.ResultCell
import Derived.Laws.Rows
import Derived.ArgAppend
import Derived.OwnWalk
import Derived.Test.YtbkeoiefolkjfaaGreatDoorBxa9
import Derived.Test.YtbkeoiefolkjfaaGreatDoorBxa13
import Derived.Test.YtbkeoiefolkjfaaGreatDoorBxa15
import Derived.Test.YtbkeoiefolkjfaaGreatDoorBxa16
import Derived.Test.YtbkeoiefolkjfaaGreatDoorBxa17
import Derived.Test.YtbkeoiefolkjfaaGreatDoorBxa18
set_option linter.unusedVariables false
set_option maxRecDepth 100000
set_option maxHeartbeats 16000000
namespace Go.Proofs.YtbkeoiefolkjfaaGreatDoor
open Go.RowKit Go.Shelf
attribute [local go_sem] Oper.semAt_some
theorem own_zeros {w : World} {lo g cap : Nat} {cur : Array Value} {t : TypeId} {size : Nat} (hlo : lo <= g) (hc : w.heap[g]? = some (.cells cur t (0, 0))) (hm : cap <= maxLen) (hs : cur.size = cap * size) : w.ownsRow lo t size (.slice (some ⟨g, 0, none⟩) 0 cap) 0 [] :=
 ⟨by simp, .inr ⟨g, cap, cur, rfl, hlo, hc, Nat.zero_le _, hm, hs, by simp⟩⟩
theorem grow_any (n : Nat) (hn : n <= 1000000) (w : World) :
  Calls Tryz.prog 199 #[.slice none 0 0, .int .i64 n] w fun e w' => ∃ v, e = .returned v /\ w'.ownsRow w.heap.size 83 2 v 0 [] /\ Below w.heap.size w w' := by
 obtain ⟨i0, hi, hz0, hz1, hz2⟩ := info_parts infoFld
 have hw0 : IntKind.i64.wrap ((n : Int) - 0) = (n : Int) := by rw [Int.sub_zero]; exact IntWalk.i64_in _ (by omega)
 have hw1 : IntKind.i64.wrap (n : Int) = (n : Int) := IntWalk.i64_in _ (by omega)
 by_cases h0 : n = 0
 ·subst h0
  go_enter Tryz.func199, Tryz.ntmps199
  go_wp2_with fail
  go_ret
  exact ⟨_, rfl, ⟨rfl, .inl ⟨rfl, rfl⟩⟩, Below.refl _ _⟩
 have hp : (0 : Int) < (n : Int) := by omega
 have hr := Lib.run_append_nil_zeros (P := Tryz.prog) w 38 3 38 83 i0 (.agg #[.string ⟨#[]⟩, .string ⟨#[]⟩]) .i64 .i64 Tryz.underlying38 Tryz.underlying3 hi hz0 n (by omega) (by rw [hz1]; decide) (by omega) (by rw [hz2]; omega)
 have hge := grownCap_ge w n 0 83
 have hcm : grownCap w n 0 83 <= maxLen := grownCap_le_maxLen w n 0 83 (by unfold maxLen; omega)
 generalize grownCap w n 0 83 = cap at *
 have hZ : (Builtin.zeroCells (Value.agg #[.string ⟨#[]⟩, .string ⟨#[]⟩]).cells n ++ Builtin.zeroCells (Value.agg #[.string ⟨#[]⟩, .string ⟨#[]⟩]).cells (cap - n)).size = cap * 2 := by
  rw [Array.size_append, zeroCells_size, zeroCells_size]
  show n * 2 + (cap - n) * 2 = cap * 2
  omega
 generalize Builtin.zeroCells (Value.agg #[.string ⟨#[]⟩, .string ⟨#[]⟩]).cells n ++ Builtin.zeroCells (Value.agg #[.string ⟨#[]⟩, .string ⟨#[]⟩]).cells (cap - n) = Z at *
 have FIN : Hid ((w.drew.alloc (.cells Z 83)).ownsRow w.heap.size 83 2 (.slice (some ⟨w.heap.size, 0, none⟩) 0 cap) 0 [] /\ Below w.heap.size w (w.drew.alloc (.cells Z 83))) :=
  ⟨own_zeros (Nat.le_refl _) (by show (w.drew.heap.push _)[w.drew.heap.size]? = _; exact Array.getElem?_push_size) hcm hZ, (Below.refl _ w).drew.alloc (Nat.le_refl _) _⟩
 clear hZ
 unfold maxLen at hcm
 go_enter Tryz.func199, Tryz.ntmps199
 go_wp2_with (at_builtin; refine Lib.wpList_append_run _ rfl _ _ _ _ rfl _ _ rfl rfl _ _ hr ?_)
 go_wp2_with fail
 go_ret
 exact ⟨_, rfl, FIN.out.1, FIN.out.2⟩
def lenS (rs : List (List Fld)) : Nat := (rs.map List.length).sum
theorem lenS_snoc {rs : List (List Fld)} {k : Nat} {r : List Fld} (h : rs[k]? = some r) : lenS (rs.take (k + 1)) = lenS (rs.take k) + r.length := by
 unfold lenS
 rw [List.take_add_one, h, List.map_append, List.sum_append]; simp
theorem lenS_take (rs : List (List Fld)) (k : Nat) : lenS (rs.take k) <= lenS rs := by
 unfold lenS
 conv => rhs; rw [<- List.take_append_drop k rs, List.map_append, List.sum_append]
 omega
theorem flatten_len (rs : List (List Fld)) : rs.flatten.length = lenS rs := by unfold lenS; rw [List.length_flatten]
theorem flatten_snoc {rs : List (List Fld)} {k : Nat} {r : List Fld} (h : rs[k]? = some r) : (rs.take (k + 1)).flatten = (rs.take k).flatten ++ r := by
 rw [List.take_add_one, h]; simp
theorem cellsF_append (a b : List Fld) : cellsF (a ++ b) = cellsF a ++ cellsF b := by unfold cellsF; rw [List.flatMap_append]
theorem concat_any {w0 w : World} {v : Value} {vs : List Value} {rs : List (List Fld)} (h : AccP w0 w v vs rs) (hl : lenS rs <= 1000000) (hn : rs.length <= 1000000) :
  Calls Tryz.prog 180 #[v] w fun e w' => ∃ u, e = .returned u /\ w'.ownsRow w.heap.size 83 2 u rs.flatten.length (cellsF rs.flatten) /\ Below w.heap.size w w' := by
 obtain ⟨i0, hi, hz0, hz1, hz2⟩ := info_parts infoFld
 have hvl := h.len
 have hrow := h.row
 obtain ⟨va, vc, rfl, hvc⟩ := own_slice hrow
 have EACH := Lib.hid (fun (k : Nat) (r : List Fld) (hr : rs[k]? = some r) => show ∃ b fv, va = some ⟨b, 0, none⟩ /\ b < w.heap.size /\ w.cell? ⟨b, k, none⟩ = some fv /\ w.ownsRow w0.heap.size 83 2 fv r.length (cellsF r) from by
  have hk := (List.getElem?_eq_some_iff.1 hr).1
  obtain ⟨x, hx⟩ : ∃ x, vs[k]? = some x := ⟨_, List.getElem?_eq_getElem (by omega)⟩
  rcases Joins.ownsRow_forms hrow with ⟨_, hn⟩ | ⟨g, cap, hg⟩
  ·omega
  injection hg with hg1 _ _
  subst hg1
  refine ⟨g, x, rfl, (World.ownsRow.lt hrow g rfl).2, by rw [World.ownsRow.cellAt hrow k (by omega)]; exact hx, h.each k x r hx hr⟩)
 have h0s := h.below.size
 clear h hrow
 rw [hvl] at hvc ⊢
 have HL := Lib.hid hl
 go_enter Tryz.func180, Tryz.ntmps180
 go_wp2_with fail
 go_loopw [3, 11] (fun sv i wr => ∃ k : Nat, k <= rs.length /\ i = .int .i64 k /\ sv = .int .i64 (lenS (rs.take k) : Nat) /\ wr = w) (fun _ i _ => rs.length - (intOf i).toNat)
 case atStart => exact ⟨0, Nat.zero_le _, rfl, rfl, rfl⟩
 case round =>
 obtain ⟨k, hk, rfl, rfl, hwr⟩ := hrel
 subst wr
 have hsum := lenS_take rs k
 by_cases hlt : k < rs.length
 ·obtain ⟨r, hr⟩ : ∃ r, rs[k]? = some r := ⟨_, List.getElem?_eq_getElem hlt⟩
  obtain ⟨b, fv, rfl, hbb, c0, hf⟩ := EACH.out k r hr
  obtain ⟨fa, fc, rfl, _⟩ := own_slice hf
  have hsum1 := lenS_take rs (k + 1)
  have S1 : Hid (lenS (rs.take (k + 1)) = lenS (rs.take k) + r.length) := lenS_snoc hr
  rw [S1.out] at hsum1
  clear hr hf
  generalize hLK : lenS (rs.take k) = LK at *
  have hw : IntKind.i64.wrap ((LK : Int) + (r.length : Int)) = (LK : Int) + (r.length : Int) := IntWalk.i64_in _ (by omega)
  have hge : ¬ ((LK : Int) + (r.length : Int) < 0) := by omega
  go_wp2_with fail
  go_roundw
  case rel => exact ⟨k + 1, hlt, by go_num, by rw [S1.out]; go_num, by first | trivial | rfl⟩
  case measure => simp [intOf]; omega
 obtain rfl : k = rs.length := by omega
 rw [List.take_length] at *
 have GW := Lib.hid (grow_any (lenS rs) hl w)
 go_wp2_with fail
 refine GW.out.mono ?_
 rintro e w2 ⟨u, rfl, hu, b2⟩
 have HB2 := Lib.hid b2
 have hu' : w2.ownsRow w.heap.size 83 2 u (rs.take 0).flatten.length (cellsF (rs.take 0).flatten) := hu
 clear GW b2 hu
 go_wp2_with fail
 go_loopw [6, 27] (fun ux i wr => ∃ (j : Nat) (uv : Value), uv = ux /\ j <= rs.length /\ i = .int .i64 j /\ wr.ownsRow w.heap.size 83 2 uv (rs.take j).flatten.length (cellsF (rs.take j).flatten) /\ Below w.heap.size w wr) (fun _ i _ => rs.length - (intOf i).toNat)
 case atStart => exact ⟨0, u, rfl, Nat.zero_le _, rfl, hu', HB2.out⟩
 case round =>
 obtain ⟨j, uv, rfl, hj, rfl, hrow, hb⟩ := hrel
 obtain ⟨ua, uc, rfl, huc⟩ := own_slice hrow
 by_cases hjl : j < rs.length
 ·obtain ⟨r, hr⟩ : ∃ r, rs[j]? = some r := ⟨_, List.getElem?_eq_getElem hjl⟩
  obtain ⟨b, fv, rfl, hbb, c0, hf⟩ := EACH.out j r hr
  have hfq := own_kept hf hb (Nat.le_refl _)
  replace c0 := (hb.cell (p := ⟨b, j, none⟩) hbb).trans c0
  have e1 := flatten_snoc hr
  have s1 := lenS_take rs (j + 1)
  rw [<- flatten_len, e1, List.length_append] at s1
  have E1 : Hid ((rs.take (j + 1)).flatten = (rs.take j).flatten ++ r) := e1
  have hsz := hb.size
  have HROW := Lib.hid hrow
  have HB := Lib.hid hb
  have fle : (rs.take j).flatten.length + r.length <= 1000000 := by have := HL.out; omega
  have hone : ∀ u ∈ cellsF r, u.oneCell' = true := fun u hu => by
   obtain ⟨f, _, h2⟩ := List.mem_flatMap.1 hu
   simp at h2
   rcases h2 with rfl | rfl <;> rfl
  have hcl := cellsF_len r
  rcases Joins.ownsRow_forms hfq with ⟨rfl, hr0⟩ | ⟨g, cap, rfl⟩
  ·clear hf hfq hr e1 hrow hb s1
   generalize hFL : (rs.take j).flatten.length = fl at *
   go_wp2_with (at_builtin; refine wpList_append_own_none rfl _ _ 38 rfl w.heap.size 83 i0 2 Tryz.underlying38 hi _ _ _ rfl HROW.out rfl ?_)
   go_wp2_with fail
   go_roundw
   case rel =>
    have er : r = [] := List.length_eq_zero_iff.1 hr0
    exact ⟨j + 1, _, rfl, hjl, by go_num, by rw [E1.out, er, List.append_nil, hFL]; exact HROW.out, HB.out⟩
   case measure => simp [intOf]; omega
  have HC : ∀ (q : Nat) u, (cellsF r)[q]? = some u -> wr.cell? ((⟨g, 0, none⟩ : Addr).add q) = some u := fun q u hq => by
   have hql := (List.getElem?_eq_some_iff.1 hq).1
   rw [Addr.add_lit, Nat.zero_add, World.ownsRow.cellAt hfq q (by omega)]; exact hq
  have HCH := Lib.hid HC
  clear hf hfq hr e1 hrow hb HC s1
  generalize hFL : (rs.take j).flatten.length = fl at *
  go_wp2_with (at_builtin; refine wpList_append_at rfl _ _ 38 rfl w.heap.size 83 i0 _ 2 32 Tryz.underlying38 hi hz0 hz1 hz2 rfl (by decide) _ _ _ rfl HROW.out ⟨g, 0, none⟩ r.length cap _ rfl hcl HCH.out hone ?c3 ?c4 ?c5 ?_)
  case c3 => unfold maxLen; omega
  case c4 => omega
  case c5 => exact hsz
  intro v' w3 hown' hgrow hbk
  have HB3 := Lib.hid (HB.out.grown hgrow hsz (fun k hk => (HROW.out.lt k hk).1))
  have HO3 := Lib.hid hown'
  obtain ⟨xa, xc, rfl, _⟩ := own_slice hown'
  clear hown' hgrow hbk
  go_wp2_with fail
  go_roundw
  case rel => exact ⟨j + 1, _, rfl, hjl, by go_num, by rw [E1.out, List.length_append, cellsF_append, hFL]; exact HO3.out, HB3.out⟩
  case measure => simp [intOf]; omega
 obtain rfl : j = rs.length := by omega
 rw [List.take_length] at hrow ⊢
 have FIN : Hid (wr.ownsRow w.heap.size 83 2 (.slice ua rs.flatten.length uc) rs.flatten.length (cellsF rs.flatten) /\ Below w.heap.size w wr) := ⟨hrow, hb⟩
 clear hrow hb
 generalize hFL : rs.flatten.length = fl at *
 go_wp2_with fail
 go_ret
 obtain ⟨f1, f2⟩ := FIN.out
 refine ⟨_, rfl, ?_, f2⟩
 first | exact f1 | (rw [hFL]; exact f1)
end Go.Proofs.YtbkeoiefolkjfaaGreatDoor
namespace Go.Proofs.YtbkeoiefolkjfaaGreatDoor
open Go.RowKit Go.Shelf
attribute [local go_sem] Oper.semAt_some
def cutL (p : List UInt8) (xs : List Ln) : List UInt8 := xs.flatMap fun x => Lib.trimPrefix x.text p ++ if x.ended then [10] else []
theorem cutL_snoc (p : List UInt8) (pre : List Ln) (x : Ln) : cutL p (pre ++ [x]) = cutL p pre ++ Lib.trimPrefix x.text p ++ (endS x.ended).data.toList := by
 have e : (endS x.ended).data.toList = if x.ended then [10] else [] := by unfold endS; cases x.ended <;> rfl
 rw [e]
 simp [cutL]
theorem cutL_len (p : List UInt8) : ∀ xs : List Ln, (cutL p xs).length <= (xs.flatMap Ln.bytes).length
 | [] => by simp [cutL]
 | x :: xs => by
  have ih := cutL_len p xs
  have h1 := Lib.trimPrefix_le x.text p
  have e : cutL p (x :: xs) = (Lib.trimPrefix x.text p ++ if x.ended then [10] else []) ++ cutL p xs := by simp [cutL]
  rw [e, List.flatMap_cons]
  simp only [List.length_append, Ln.bytes]
  omega
theorem dd_all (p : List UInt8) (xs : List Ln) (h : ∀ x ∈ xs, Lib.hasPrefix x.text p = true) : dd p (xs.map sees) = (cutL p xs, true) := by
 unfold dd
 rw [if_pos]
 ·rw [List.flatMap_map]
  congr 1
  unfold cutL
  induction xs with
  | nil => rfl
  | cons x xs ih =>
  rw [List.flatMap_cons, List.flatMap_cons, ih (fun y hy => h y (List.mem_cons_of_mem _ hy))]
  have := h x List.mem_cons_self
  simp only [Lib.trimPrefix, this, if_true, sees]
  rfl
 rw [List.all_eq_true]
 intro y hy
 obtain ⟨x, hx, rfl⟩ := List.mem_map.1 hy
 exact h x hx
theorem dd_some (p : List UInt8) (xs : List Ln) (x : Ln) (hx : x ∈ xs) (h : Lib.hasPrefix x.text p = false) : dd p (xs.map sees) = ([], false) := by
 unfold dd
 rw [if_neg]
 intro ha
 have := (List.all_eq_true.1 ha) (sees x) (List.mem_map.2 ⟨x, hx, rfl⟩)
 have e : Lib.hasPrefix x.text p = true := this
 rw [h] at e
 cases e
def Rooms (w : World) (p : ByteArray) (W : World) : Prop :=
 Boxed W w.heap.size 9 (.string p) /\ Boxed W (w.heap.size + 1) 9 (.string ⟨#[]⟩) /\ Boxed W (w.heap.size + 2) 4 (.bool false) /\ Below w.heap.size w W
theorem Rooms.turned {w : World} {p : ByteArray} {W W' : World} {B k : Nat} (h : Rooms w p W) (ht : Turned B k W W') (hB : w.heap.size + 2 < B) : Rooms w p W' :=
 ⟨ht.box h.1 (.inl (by omega)), ht.box h.2.1 (.inl (by omega)), ht.box h.2.2.1 (.inl hB), h.2.2.2.trans (ht.below (by omega) h.2.2.2.size)⟩
theorem Rooms.alloc {w : World} {p : ByteArray} {W : World} (h : Rooms w p W) (o : Obj) : Rooms w p (W.alloc o) := ⟨h.1.alloc _, h.2.1.alloc _, h.2.2.1.alloc _, h.2.2.2.alloc h.2.2.2.size _⟩
theorem Rooms.wrote {w : World} {p : ByteArray} {W W' : World} {b R : Nat} (h : Rooms w p W) (ho : Wrote b R W W') (hb : w.heap.size + 2 < b) (hR : w.heap.size + 2 < R) : Rooms w p W' :=
 ⟨ho.box h.1 (by omega) (by omega), ho.box h.2.1 (by omega) (by omega), ho.box h.2.2.1 (by omega) (by omega), h.2.2.2.trans (ho.below (by omega) (by omega) h.2.2.2.size)⟩
def InvD (w : World) (p : ByteArray) (R : Nat) (pre : List Ln) (W : World) : Prop :=
 Rooms w p W /\ Bld (w.heap.size + 3) R (cutL p.data.toList pre) W /\ ∀ x ∈ pre, Lib.hasPrefix x.text p.data.toList = true
def OutD (w : World) (p : ByteArray) (c : Code) (pre : List Ln) (W : World) : Prop :=
 Rooms w p W /\ c = .ret /\ ∃ x ∈ pre, Lib.hasPrefix x.text p.data.toList = false
theorem twoOut (w W : World) (a b : ByteArray × Bool) (tmps : Array Value) (h4 : Boxed W (w.heap.size + 1) 9 (.string a.1)) (h5 : Boxed W (w.heap.size + 2) 4 (.bool b.2)) (hK : W.heap[w.heap.size + 5]? = some (.deferred (some []))) (hB : Below w.heap.size w W) (t4 : tmps[4]? = some (.pointer (some ⟨w.heap.size + 1, 0, none⟩))) (t5 : tmps[5]? = some (.pointer (some ⟨w.heap.size + 2, 0, none⟩))) :
  bodyPostM Fence.wide 9 Tryz.prog Tryz.f179 (fun e w' => e = .returned (.tuple #[.string a.1, .bool b.2]) /\ Below w.heap.size w w') .ret { tmps := tmps, defers := [{ target := .collected (w.heap.size + 5), args := #[] }] } W := by
 have p1 := grownBy_putObj' W (w.heap.size + 5) (.deferred none)
 have zW : w.heap.size + 5 < W.heap.size := (Array.getElem?_eq_some_iff.1 hK).1
 have r4 : Boxed (W.putObj (w.heap.size + 5) (.deferred none)) (w.heap.size + 1) 9 (.string a.1) := (p1.block _ (by omega) (fun e => by have := Option.some.inj e; omega)).trans h4
 have r5 : Boxed (W.putObj (w.heap.size + 5) (.deferred none)) (w.heap.size + 2) 4 (.bool b.2) := (p1.block _ (by omega) (fun e => by have := Option.some.inj e; omega)).trans h5
 have c4 := r4.cell
 have c5 := r5.cell
 refine ⟨by simp, .inl ⟨_, _, rfl, run_takeDeferred hK, ?_⟩⟩
 exact ⟨.tuple #[.string a.1, .bool b.2], by simp [results, Tryz.f179, go_sem, t4, t5, c4, c5], rfl, hB.trans (belowK_b (w := w) (Nat.le_refl _) W _ _ _ (by omega) hK rfl rfl)⟩
theorem dedent_any (s p : ByteArray) (hs : s.size <= 1000000000) (w : World) :
  Calls Tryz.prog 179 #[.string s, .string p] w fun e w' => e = .returned (.tuple #[.string ⟨(dd p.data.toList ((linesOf s.data.toList).map sees)).1.toArray⟩, .bool (dd p.data.toList ((linesOf s.data.toList).map sees)).2]) /\ Below w.heap.size w w' := by
 have hjl : ((linesOf s.data.toList).flatMap Ln.bytes).length <= 1000000000 := by rw [linesOf_join, <- Lib.size_eq]; exact hs
 obtain ⟨xs, hxs⟩ : ∃ xs, linesOf s.data.toList = xs := ⟨_, rfl⟩
 rw [hxs] at hjl ⊢
 have HXS := Lib.hid hxs
 clear hxs
 refine callsIn_wide (n := 9).1 ?_
 refine callsIn_of_wp_marks Tryz.func179 rfl trivial ?_ rfl
 simp only [Tryz.ntmps179, List.size_toArray, List.length_cons, List.length_nil, Nat.reduceAdd, Nat.reduceSub, Array.replicate_succ, Array.replicate_zero, List.push_toArray, List.append_toArray, List.nil_append, List.cons_append]
 gi_wp2_with fail
 refine ⟨trivial, (callsIn_wide.2 (split_any s _)).mono ?_⟩
 rintro e w3 ⟨rfl, rfl⟩
 gi_wp2_with fail
 have k1 := Boxed.new w 9 (.string p)
 have k2 := boxNew2 w (.cells #[.string p] 9) 9 (.string ⟨#[]⟩)
 have k3 := boxNew3 w (.cells #[.string p] 9) (.cells #[.string ⟨#[]⟩] 9) 4 (.bool false)
 have kb := Bld.new (((w.alloc (.cells #[.string p] 9)).alloc (.cells #[.string ⟨#[]⟩] 9)).alloc (.cells #[.bool false] 4)) (w.heap.size + 10)
 have kz : (((w.alloc (.cells #[.string p] 9)).alloc (.cells #[.string ⟨#[]⟩] 9)).alloc (.cells #[.bool false] 4)).heap.size = w.heap.size + 3 := by simp
 rw [kz] at kb
 have rooms : Rooms w p (((w.alloc (.cells #[.string p] 9)).alloc (.cells #[.string ⟨#[]⟩] 9)).alloc (.cells #[.bool false] 4)) :=
  ⟨(k1.alloc _).alloc _, k2.alloc _, k3, ((((Below.refl _ w).alloc (Nat.le_refl _) _).alloc (by simp) _).alloc (by simp; omega) _)⟩
 generalize ((w.alloc (.cells #[.string p] 9)).alloc (.cells #[.string ⟨#[]⟩] 9)).alloc (.cells #[.bool false] 4) = w1 at *
 have k7 := boxNew2 w1 (.cells #[.pointer none, .slice none 0 0] 133) 9 (.string s)
 rw [kz] at k7
 have HH := split_hands s (w.heap.size + 4) _ k7 (by omega)
 rw [HXS.out] at HH
 have hz : ((w1.alloc (.cells #[.pointer none, .slice none 0 0] 133)).alloc (.cells #[.string s] 9)).heap.size = w.heap.size + 5 := by simp [kz]
 have ab : ∀ k, k <= 5 -> Abide (w.heap.size + 5) k (InvD w p (w.heap.size + 10)) := fun k hk pre W W' h ht =>
  ⟨h.1.turned ht (by omega), h.2.1.turned ht (by omega) (by omega), h.2.2⟩
 have init : InvD w p (w.heap.size + 10) [] ((w1.alloc (.cells #[.pointer none, .slice none 0 0] 133)).alloc (.cells #[.string s] 9)) :=
  ⟨(rooms.alloc _).alloc _, kb.alloc _, fun x hx => by cases hx⟩
 refine wp_rangedA (gf := 98) (lb := #[.pointer (some ⟨w.heap.size + 4, 0, none⟩)]) rfl (enters_of Tryz.func98 (by kernel_rfl) rfl) HH (fun _ => rfl)
  (InvD w p (w.heap.size + 10)) (OutD w p) (by rw [hz]; exact ab _ (by omega)) (fun c pre W W' h ht => ⟨h.1.turned ht (by rw [hz]; omega), h.2⟩) init
  (fun a pre x a' W => ∃ Bx, w.heap.size + 5 + 5 <= Bx /\ a' = { tmps := (a.tmps.setIfInBounds 12 (.agg (lineV x))).setIfInBounds 7 (.pointer (some ⟨Bx, 0, none⟩)), defers := [] } /\ Cells W Bx 99 (lineV x) /\
   InvD w p (w.heap.size + 10) pre W)
  ?hM ?assign ?body ?done ?stop
 case hM =>
  rw [hz]
  rintro a pre x a' _ W W' ⟨Bx, h1, h2, h3, h4⟩ ht
  exact ⟨Bx, h1, h2, (ht.same Bx h3.lt (.inr (by omega))).trans h3, ab 2 (by omega) pre W W' h4 ht⟩
 case assign =>
  rw [hz]
  intro l pre x post W hx hsz hi
  clear hx
  dsimp only [lineV]
  gi_wp2
  exact ⟨(Stay.refl _ _ W).alloc hsz _, W.heap.size, by omega, rfl, Cells.new _ _ _, hi.1.alloc _, hi.2.1.alloc _, hi.2.2⟩
 case body =>
  rw [hz]
  rintro l pre x post a' W hx hsz ⟨Bx, hB, rfl, hc, h1, h2, h3⟩
  have hlen := cutL_len p.data.toList (pre ++ [x])
  have hlen2 : ((pre ++ [x]).flatMap Ln.bytes).length <= 1000000000 := by
   rw [hx, show pre ++ x :: post = (pre ++ [x]) ++ post by simp, List.flatMap_append, List.length_append] at hjl
   omega
  have hlen := Nat.le_trans hlen hlen2
  rw [cutL_snoc] at hlen
  simp only [List.length_append, <- Lib.size_eq] at hlen
  have HS := Lib.hid (cutL_snoc p.data.toList pre x)
  clear hx hjl hlen2
  simp only [List.setIfInBounds_toArray, List.set_cons_zero, List.set_cons_succ, lineV] at hc ⊢
  have hne : Bx ≠ w.heap.size + 3 := by omega
  obtain ⟨en, hen⟩ : ∃ en, x.ended = en := ⟨_, rfl⟩
  rw [hen] at hlen hc ⊢
  have c3 := h1.1.cell
  have p2 : W.cell? ⟨Bx, 2, none⟩ = some (.string ⟨x.text.toArray⟩) := hc.cell 2
  gi_wp2_with fail
  refine ⟨trivial, ((callsIn_wide.2 (Tryz.strings_CutPrefix ⟨x.text.toArray⟩ p W)).inRound l).mono ?_⟩
  rintro e V ⟨rfl, rfl⟩
  have eh : Lib.hasPrefix (⟨x.text.toArray⟩ : ByteArray).data.toList p.data.toList = Lib.hasPrefix x.text p.data.toList := rfl
  have et : Lib.trimPrefix (⟨x.text.toArray⟩ : ByteArray).data.toList p.data.toList = Lib.trimPrefix x.text p.data.toList := rfl
  rw [eh, et]
  cases hp : Lib.hasPrefix x.text p.data.toList
  ·have c4 := h1.2.1.cell
   have f4 := h1.2.1.frozen
   have c5 : V.cell? ⟨w.heap.size + 1 + 1, 0, none⟩ = some (.bool false) := h1.2.2.1.cell
   have f5 : V.frozen? ⟨w.heap.size + 1 + 1, 0, none⟩ = false := h1.2.2.1.frozen
   gi_wp2
   refine ⟨((Stay.refl _ _ _).setCell (.inl (by show w.heap.size + 1 < _; omega)) _).setCell (.inl (by show w.heap.size + 1 + 1 < _; omega)) _, ?_, rfl, x, by simp, hp⟩
   refine ⟨setOther (setOther h1.1 (by omega) _) (by omega) _, setOther (Boxed.set _ h1.2.1) (by omega) _, Boxed.set _ (setOther h1.2.2.1 (by omega) _), ?_⟩
   exact (h1.2.2.2.setCell (p := ⟨w.heap.size + 1, 0, none⟩) (by show _ <= w.heap.size + 1; omega) _).setCell (p := ⟨w.heap.size + 1 + 1, 0, none⟩) (by show _ <= w.heap.size + 1 + 1; omega) _
  gi_wp2_with fail
  refine ⟨trivial, ((callsIn_wide.2 (writes (w.heap.size + 3) (w.heap.size + 10) _ ⟨(Lib.trimPrefix x.text p.data.toList).toArray⟩ V h2 (by omega) (by omega) ?_)).inRound l).mono ?_⟩
  ·have e1 : (⟨(Lib.trimPrefix x.text p.data.toList).toArray⟩ : ByteArray).size = (Lib.trimPrefix x.text p.data.toList).length := by simp [ByteArray.size]
   omega
  rintro e W2 ⟨rfl, b2, o2⟩
  have m2 : Cells W2 Bx 99 _ := o2.other hc hne (by decide)
  have z2 := o2.size
  have q0 : W2.cell? ⟨Bx, 0, none⟩ = some (.int .i64 x.no) := m2.cell 0
  have q1 : W2.cell? ⟨Bx, 1, none⟩ = some (.int .i64 x.at_) := m2.cell 1
  have q2 : W2.cell? ⟨Bx, 2, none⟩ = some (.string ⟨x.text.toArray⟩) := m2.cell 2
  have q3 : W2.cell? ⟨Bx, 3, none⟩ = some (.bool en) := m2.cell 3
  gi_wp2_with fail
  refine ⟨trivial, ((callsIn_wide.2 (end_any _ _ _ _ _)).inRound l).mono ?_⟩
  rintro e W3 ⟨rfl, rfl⟩
  gi_wp2_with fail
  refine ⟨trivial, ((callsIn_wide.2 (writes (w.heap.size + 3) (w.heap.size + 10) _ (endS en) _ (b2.alloc _) (by omega) (by simp; omega) ?_)).inRound l).mono ?_⟩
  ·simp only [List.length_append]
   omega
  rintro e W4 ⟨rfl, b3, o3⟩
  gi_wp2_with fail
  have oo := (o2.alloc (.cells #[.int .i64 x.no, .int .i64 x.at_, .string ⟨x.text.toArray⟩, .bool en] 99)).trans o3
  refine ⟨oo.stay (by omega) (by omega) (by omega), h1.wrote oo (by omega) (by omega), ?_, ?_⟩
  ·rw [HS.out, hen]
   exact b3
  intro y hy
  rcases List.mem_append.1 hy with h | h
  ·exact h3 y h
  rw [List.mem_singleton.1 h]; exact hp
 case done =>
  rw [hz]
  rintro W ⟨h1, h2, h3⟩ hmark
  have zW : w.heap.size + 5 < W.heap.size := (Array.getElem?_eq_some_iff.1 hmark).1
  gi_wp2_with fail
  refine ⟨trivial, (callsIn_wide.2 (Tryz.Builder_String_any_k (w.heap.size + 3) (w.heap.size + 3) _ W (h2.library (by omega) (by omega)) (by omega))).mono ?_⟩
  rintro e W1 ⟨rfl, _, g2, g3⟩
  have hK : W1.heap[w.heap.size + 5]? = some (.deferred (some [])) := g3 _ _ hmark (by simp) (fun c fz e => by cases e)
  have b4 : Boxed W1 (w.heap.size + 1) 9 (.string ⟨#[]⟩) := under h1.2.1 g2 (by omega)
  have b5 : Boxed W1 (w.heap.size + 2) 4 (.bool false) := under h1.2.2.1 g2 (by omega)
  have hbel : Below w.heap.size w W1 := h1.2.2.2.trans (g2.mono (by omega))
  have c4 := b4.cell
  have f4 := b4.frozen
  have c5 : W1.cell? ⟨w.heap.size + 1 + 1, 0, none⟩ = some (.bool false) := b5.cell
  have f5 : W1.frozen? ⟨w.heap.size + 1 + 1, 0, none⟩ = false := b5.frozen
  clear k1 k2 k3 kb k7 HH ab init rooms
  gi_wp2
  rw [dd_all _ _ h3]
  obtain ⟨W2, hW2⟩ : ∃ W2, (W1.setCell ⟨w.heap.size + 1, 0, none⟩ (.string ⟨(cutL p.data.toList xs).toArray⟩)).setCell ⟨w.heap.size + 1 + 1, 0, none⟩ (.bool true) = W2 := ⟨_, rfl⟩
  have e4 : Boxed W2 (w.heap.size + 1) 9 (.string ⟨(cutL p.data.toList xs).toArray⟩) := by rw [<- hW2]; exact setOther (Boxed.set _ b4) (by omega) _
  have e5 : Boxed W2 (w.heap.size + 2) 4 (.bool true) := by rw [<- hW2]; exact Boxed.set _ (setOther b5 (by omega) _)
  have eK : W2.heap[w.heap.size + 5]? = some (.deferred (some [])) := by
   rw [<- hW2]
   exact (Below.heap_setCell _ _ _ _ (by show w.heap.size + 5 ≠ w.heap.size + 1 + 1; omega)).trans ((Below.heap_setCell _ _ _ _ (by show w.heap.size + 5 ≠ w.heap.size + 1; omega)).trans hK)
  have eB : Below w.heap.size w W2 := by
   rw [<- hW2]
   exact (hbel.setCell (p := ⟨w.heap.size + 1, 0, none⟩) (by show _ <= w.heap.size + 1; omega) _).setCell (p := ⟨w.heap.size + 1 + 1, 0, none⟩) (by show _ <= w.heap.size + 1 + 1; omega) _
  rw [hW2]
  exact twoOut w W2 (⟨(cutL p.data.toList xs).toArray⟩, true) (⟨#[]⟩, true) _ e4 e5 eK eB rfl rfl
 case stop =>
 rw [hz]
 rintro c pre W hpre ⟨h1, rfl, x, hx, hp⟩ hmark
 have zW : w.heap.size + 5 < W.heap.size := (Array.getElem?_eq_some_iff.1 hmark).1
 gi_wp2
 rw [dd_some _ _ x (hpre.subset hx) hp]
 exact twoOut w W (⟨#[]⟩, false) (⟨#[]⟩, false) _ h1.2.1 h1.2.2.1 hmark h1.2.2.2 rfl rfl
end Go.Proofs.YtbkeoiefolkjfaaGreatDoor
namespace Go.Proofs.YtbkeoiefolkjfaaGreatDoor
open Go.RowKit Go.Shelf
attribute [local go_sem] Oper.semAt_some
theorem akind_any (l : List UInt8) (w : World) : Calls Tryz.prog 146 #[.string (B l)] w fun e w' => e = .returned (.int .i64 (kindOf l)) /\ Below w.heap.size w w' := by
 obtain ⟨wa, hwa⟩ : ∃ wa, wa = w.alloc (.cells #[.int .i64 1, .int .i64 2, .int .i64 3] 3) := ⟨_, rfl⟩
 have HB : Hid (Below w.heap.size w wa) := by show Below _ _ _; rw [hwa]; exact (Below.refl _ w).alloc (Nat.le_refl _) _
 have c0 : wa.cell? ⟨w.heap.size, 0, none⟩ = some (.int .i64 1) := by rw [hwa]; simp
 have c1 : wa.cell? ⟨w.heap.size, 1, none⟩ = some (.int .i64 2) := by rw [hwa]; simp
 have c2 : wa.cell? ⟨w.heap.size, 2, none⟩ = some (.int .i64 3) := by rw [hwa]; simp
 have W1 := Lib.hid (word_any 1 wa)
 have W2 := Lib.hid (word_any 2 wa)
 have W3 := Lib.hid (word_any 3 wa)
 have KD := Lib.hid (show kindOf l = if l = wordL 1 then 1 else if l = wordL 2 then 2 else if l = wordL 3 then 3 else 0 from rfl)
 have eq : ∀ k, ((B (wordL k)).toList == (B l).toList) = decide (l = wordL k) := fun k => by
  rw [bsameA, Bool.eq_iff_iff, decide_eq_true_eq, decide_eq_true_eq]; exact ⟨fun h => h.symm, fun h => h.symm⟩
 have e1 := eq 1
 have e2 := eq 2
 have e3 := eq 3
 clear eq
 subst hwa
 go_enter Tryz.func146, Tryz.ntmps146
 go_wp2_with fail
 go_loopw [7] (fun i wr => ∃ k : Nat, k <= 3 /\ i = .int .i64 k /\ wr = w.alloc (.cells #[.int .i64 1, .int .i64 2, .int .i64 3] 3) /\ (1 <= k -> l ≠ wordL 1) /\ (2 <= k -> l ≠ wordL 2) /\ (3 <= k -> l ≠ wordL 3)) (fun i _ => 3 - (intOf i).toNat)
 case atStart => exact ⟨0, Nat.zero_le _, rfl, rfl, (by omega), (by omega), (by omega)⟩
 case round =>
 obtain ⟨k, hk, rfl, hwr, n1, n2, n3⟩ := hrel
 subst hwr
 obtain rfl | rfl | rfl | rfl : k = 0 \/ k = 1 \/ k = 2 \/ k = 3 := by omega
 ·by_cases hq : l = wordL 1
  ·rw [decide_eq_true hq] at e1
   have KD1 : Hid (kindOf l = 1) := by show _ = _; rw [KD.out, if_pos hq]
   clear n1 n2 n3 hq
   go_wp2_with fail
   refine W1.out.mono ?_
   rintro e w2 ⟨rfl, rfl⟩
   go_wp2_with fail
   go_ret
   exact ⟨by rw [KD1.out]; rfl, HB.out⟩
  rw [decide_eq_false hq] at e1
  clear n1 n2 n3
  go_wp2_with fail
  refine W1.out.mono ?_
  rintro e w2 ⟨rfl, rfl⟩
  go_wp2_with fail
  go_roundw
  case rel => exact ⟨1, by omega, by go_num, by first | trivial | rfl, (fun _ => hq), (by omega), (by omega)⟩
  case measure => simp [intOf]
 ·have n1' := n1 (by omega)
  by_cases hq : l = wordL 2
  ·rw [decide_eq_true hq] at e2
   have KD1 : Hid (kindOf l = 2) := by show _ = _; rw [KD.out, if_neg n1', if_pos hq]
   clear n1 n2 n3 hq n1'
   go_wp2_with fail
   refine W2.out.mono ?_
   rintro e w2 ⟨rfl, rfl⟩
   go_wp2_with fail
   go_ret
   exact ⟨by rw [KD1.out]; rfl, HB.out⟩
  rw [decide_eq_false hq] at e2
  clear n1 n2 n3
  go_wp2_with fail
  refine W2.out.mono ?_
  rintro e w2 ⟨rfl, rfl⟩
  go_wp2_with fail
  go_roundw
  case rel => exact ⟨2, by omega, by go_num, by first | trivial | rfl, (fun _ => n1'), (fun _ => hq), (by omega)⟩
  case measure => simp [intOf]
 ·have n1' := n1 (by omega)
  have n2' := n2 (by omega)
  by_cases hq : l = wordL 3
  ·rw [decide_eq_true hq] at e3
   have KD1 : Hid (kindOf l = 3) := by show _ = _; rw [KD.out, if_neg n1', if_neg n2', if_pos hq]
   clear n1 n2 n3 hq n1' n2'
   go_wp2_with fail
   refine W3.out.mono ?_
   rintro e w2 ⟨rfl, rfl⟩
   go_wp2_with fail
   go_ret
   exact ⟨by rw [KD1.out]; rfl, HB.out⟩
  rw [decide_eq_false hq] at e3
  clear n1 n2 n3
  go_wp2_with fail
  refine W3.out.mono ?_
  rintro e w2 ⟨rfl, rfl⟩
  go_wp2_with fail
  go_roundw
  case rel => exact ⟨3, by omega, by go_num, by first | trivial | rfl, (fun _ => n1'), (fun _ => n2'), (fun _ => hq)⟩
  case measure => simp [intOf]
 have KD1 : Hid (kindOf l = 0) := by show _ = _; rw [KD.out, if_neg (n1 (by omega)), if_neg (n2 (by omega)), if_neg (n3 (by omega))]
 clear n1 n2 n3
 go_wp2_with fail
 go_ret
 exact ⟨by rw [KD1.out]; rfl, HB.out⟩
theorem dd_le (p : List UInt8) (xs : List Ln) : (dd p (xs.map sees)).1.length <= (xs.flatMap Ln.bytes).length := by
 by_cases h : ∀ x ∈ xs, Lib.hasPrefix x.text p = true
 ·rw [dd_all p xs h]; exact cutL_len p xs
 simp only [Classical.not_forall] at h
 obtain ⟨x, hx, hp⟩ := h
 rw [dd_some p xs x hx (by simpa using hp)]; exact Nat.zero_le _
theorem recs_cnt (its : List It) : (recs its).length = cnt3 its := by
 unfold recs cnt3
 rw [List.length_map]
 congr 2
theorem lenS_le (rs : List (List Fld)) (n : Nat) (h : ∀ r ∈ rs, r.length <= n) : lenS rs <= rs.length * n := by
 unfold lenS
 induction rs with
 | nil => simp
 | cons r rs ih =>
 have := ih (fun x hx => h x (List.mem_cons_of_mem _ hx))
 have := h r List.mem_cons_self
 rw [List.map_cons, List.sum_cons, List.length_cons, Nat.add_mul]; omega
def FldsOwn (w w' : World) (u : Value) (fs : List Fld) : Prop := w'.ownsRow w.heap.size 83 2 u fs.length (cellsF fs) /\ Below w.heap.size w w'
theorem aunfold_any (t : List UInt8) (ht : t.length <= 60000) (w : World) : Calls Tryz.prog 147 #[.string (B t)] w fun e w' => ∃ u, e = .returned u /\ FldsOwn w w' u (unfoldF t) := by
 have DE := Lib.hid (dedent_any (B t) ⟨#[32, 32]⟩ (by rw [B_size]; omega) w)
 rw [B_data] at DE
 rw [show (⟨#[32, 32]⟩ : ByteArray).data.toList = [32, 32] from rfl] at DE
 obtain ⟨d, hd⟩ : ∃ d, (dd [32, 32] ((linesOf t).map sees)).1 = d := ⟨_, rfl⟩
 have hdl : d.length <= 60000 := by
  have := dd_le [32, 32] (linesOf t)
  rw [linesOf_join, hd] at this
  omega
 rw [hd] at DE
 have UN : Hid (unfoldF t = match parseL d with | .error _ => [] | .ok its => (recs its).flatten) := by show _ = _; unfold unfoldF; rw [hd]; rfl
 have PR := Lib.hid (fun W => parse_any (B d) (by rw [B_size]; exact hdl) W)
 rw [B_data] at PR
 rw [show (⟨d.toArray⟩ : ByteArray) = B d from rfl] at DE
 generalize (dd [32, 32] ((linesOf t).map sees)).2 = okd at *
 clear hd
 go_enter Tryz.func147, Tryz.ntmps147
 go_wp2_with fail
 refine DE.out.mono ?_
 rintro e w1 ⟨rfl, b1⟩
 have B1 := Lib.hid b1
 have PR1 := Lib.hid (PR.out w1)
 clear DE b1 PR
 go_wp2_with fail
 refine PR1.out.mono ?_
 rintro e w2 hp
 cases hpl : parseL d with
 | error an =>
  obtain ⟨a, n⟩ := an
  obtain ⟨b2, v, rfl, q, _, rfl, _⟩ := parseNo hp hpl
  rw [hpl] at UN
  have SZ := Lib.hid (stanzas_any [] (.slice none 0 0) w2 (Its.empty w2 none 0) (fun i b off n cap m c e => by cases e) (by simp) (fun it hit => by cases hit))
  have B2 := Lib.hid (B1.out.trans (b2.mono B1.out.size))
  clear b2 hp PR1
  go_wp2_with fail
  refine SZ.out.mono ?_
  rintro e w3 ⟨u, vs, rfl, hacc⟩
  have CC := Lib.hid (concat_any hacc (by simp [lenS, recs]) (by simp [recs]))
  have B3 := Lib.hid (B2.out.trans (hacc.below.mono B2.out.size))
  clear hacc SZ
  go_wp2_with fail
  refine CC.out.mono ?_
  rintro e w4 ⟨x, rfl, hx, b4⟩
  have R : Hid (FldsOwn w w4 x (unfoldF t)) := by
   show FldsOwn _ _ _ _
   rw [UN.out]
   exact ⟨rowBase hx B3.out.size, B3.out.trans (b4.mono B3.out.size)⟩
  clear hx b4 CC
  go_wp2_with fail
  go_ret
  exact ⟨_, rfl, R.out⟩
 | ok its =>
 obtain ⟨b2, v, rfl, hI, hN⟩ := parseYes hp hpl
 rw [hpl] at UN
 obtain ⟨_, hil, hif⟩ := parse_join hpl
 have hcnt := parse_cnt hpl
 rw [<- recs_cnt] at hcnt
 have SZ := Lib.hid (stanzas_any its v w2 hI hN (by omega) (fun it hit => by have := (hif it hit).1; omega))
 have hrl : lenS (recs its) <= 1000000 := by
  have := lenS_le (recs its) 40 (fun r hr => by
   unfold recs at hr
   obtain ⟨it, h1, rfl⟩ := List.mem_map.1 hr
   exact (hif it (List.mem_filter.1 h1).1).1)
  omega
 have B2 := Lib.hid (B1.out.trans (b2.mono B1.out.size))
 have HN := Lib.hid (And.intro hrl hcnt)
 obtain ⟨ia, ic, rfl, _, _⟩ := hI
 clear b2 hp PR1 hN hif hil hrl hcnt
 go_wp2_with fail
 refine SZ.out.mono ?_
 rintro e w3 ⟨u, vs, rfl, hacc⟩
 have CC := Lib.hid (concat_any hacc HN.out.1 (by have := HN.out.2; omega))
 have B3 := Lib.hid (B2.out.trans (hacc.below.mono B2.out.size))
 clear hacc SZ
 go_wp2_with fail
 refine CC.out.mono ?_
 rintro e w4 ⟨x, rfl, hx, b4⟩
 have R : Hid (FldsOwn w w4 x (unfoldF t)) := by
  show FldsOwn _ _ _ _
  rw [UN.out]
  exact ⟨rowBase hx B3.out.size, B3.out.trans (b4.mono B3.out.size)⟩
 clear hx b4 CC
 go_wp2_with fail
 go_ret
 exact ⟨_, rfl, R.out⟩
theorem takeW_all (c : UInt8) : ∀ t : List UInt8, c ∉ t -> t.takeWhile (· != c) = t
 | [], _ => rfl
 | x :: r, h => by
  have hx : (x != c) = true := by
   have : c ≠ x := fun e => h (e ▸ List.mem_cons_self)
   simp; exact fun e => this e.symm
  rw [List.takeWhile_cons, if_pos hx, takeW_all c r (fun hm => h (List.mem_cons_of_mem _ hm))]
theorem cut_byte (t : List UInt8) (c : UInt8) (ht : t.length <= 1000000) (w : World) :
  Calls Tryz.prog 56 #[.string (B t), .string ⟨#[c]⟩] w fun e w' => (∃ b, e = .returned (.tuple #[.string (B (t.takeWhile (· != c))), .string (B (t.drop ((t.takeWhile (· != c)).length + 1))), .bool b])) /\ Below w.heap.size w w' := by
 by_cases h : c ∈ t
 ·refine (cut_yes (B t) c w (by rw [B_size]; unfold maxLen; omega) (by rw [B_data]; exact h)).mono ?_
  rintro e w' ⟨rfl, n, rfl⟩
  refine ⟨⟨true, ?_⟩, drewN_below (Below.refl _ _) n⟩
  rw [B_data]
  have e1 : (B t).extract 0 (t.takeWhile (· != c)).length = B (t.takeWhile (· != c)) := by
   have : ∃ r, t = t.takeWhile (· != c) ++ r := ⟨t.dropWhile (· != c), List.takeWhile_append_dropWhile.symm⟩
   obtain ⟨r, hr⟩ := this
   generalize t.takeWhile (· != c) = k at *
   subst hr
   apply ByteArray.ext
   simp [B, ByteArray.data_extract]
  have e2 : (B t).extract ((t.takeWhile (· != c)).length + 1) (B t).size = B (t.drop ((t.takeWhile (· != c)).length + 1)) := by
   generalize (t.takeWhile (· != c)).length + 1 = k
   apply ByteArray.ext
   rw [B_size]
   simp [B, ByteArray.data_extract]
   exact List.take_of_length_le (by rw [List.length_drop]; omega)
  rw [e1, e2]
 refine (cut_no (B t) c w (by rw [B_data]; exact h)).mono ?_
 rintro e w' ⟨rfl, n, rfl⟩
 refine ⟨⟨false, ?_⟩, drewN_below (Below.refl _ _) n⟩
 have e1 : t.takeWhile (· != c) = t := takeW_all c t h
 rw [e1, List.drop_of_length_le (by omega)]; rfl
end Go.Proofs.YtbkeoiefolkjfaaGreatDoor
namespace Go.Proofs.YtbkeoiefolkjfaaGreatDoor
open Go.RowKit Go.Shelf
attribute [local go_sem] Oper.semAt_some
theorem freeze_below {N : Nat} {w w' : World} (h : Below N w w') {p : Addr} (hp : N <= p.block) (k : Nat) : Below N w (w'.freeze p k) := by
 unfold World.freeze
 by_cases hk : k = 0
 ·rw [if_pos hk]; exact h
 rw [if_neg hk]
 refine ⟨h.os, h.tape, h.output, ?_, fun j hj => ?_⟩
 ·simp; exact h.size
 simp only [Array.getElem?_modify]
 rw [if_neg (by omega)]
 exact h.block j hj
theorem bytes_below (w : World) (e : TypeId) (s : ByteArray) : Below w.heap.size w (Lib.bytesWorld w e s) := by
 unfold Lib.bytesWorld
 exact freeze_below ((Below.refl _ w).drew.alloc (Nat.le_refl _) _) (Nat.le_refl _) _
theorem atoi_any (l : List UInt8) (hl : l.length <= 1000000) (w : World) (ht : Tabs w) :
  Calls Tryz.prog 97 #[.string (B l)] w fun e w' => (∃ T q, e = .returned (.tuple #[.int .i64 (atoiV l), .nilIface]) \/ e = .returned (.tuple #[.int .i64 (atoiV l), .iface T q])) /\ Below w.heap.size w w' := by
 cases h : Lib.atoiAll l with
 | ok v =>
  refine (Tryz.strconv_Atoi_ok (B l) (by rw [B_size]; omega) v (by rw [B_data]; exact h) w).mono ?_
  rintro e w' ⟨rfl, hw⟩
  refine ⟨⟨0, undef, .inl (by unfold atoiV; rw [h])⟩, ?_⟩
  rcases hw with rfl | ⟨t, rfl⟩
  ·exact Below.refl _ _
  exact bytes_below _ _ _
 | range =>
  obtain ⟨tp, p, hv⟩ := ht.ran
  refine (Tryz.strconv_Atoi_range_var (B l) (by rw [B_size]; omega) (by rw [B_data]; exact h) tp p w hv).mono ?_
  rintro e w' ⟨N, rfl, _, _, hb⟩
  exact ⟨⟨_, _, .inr (by unfold atoiV; rw [h, B_data])⟩, hb⟩
 | _ =>
 obtain ⟨tp, p, hv⟩ := ht.syn
 refine (Tryz.strconv_Atoi_syntax_var (B l) (by rw [B_size]; omega) (by rw [B_data]; exact h) tp p w hv).mono ?_
 rintro e w' ⟨N, rfl, _, _, hb⟩
 exact ⟨⟨_, _, .inr (by unfold atoiV; rw [h])⟩, hb⟩
theorem results_cellE {fn : Func} {p : Tmp} {ty : TypeId} (h : fn.results = #[.cell p ty]) (tmps : Array Value) (P : Program) (w : World) :
  (results fn tmps).run P w = ((asAddr (tmps.getD p undef)).run P w).andThen fun a w₁ => (loadVar ty a).run P w₁ := by
 simp only [results, h]
 simp [Sem.run_bind, Result.andThen]
theorem ret_edit {fn : Func} {p : Tmp} (h : fn.results = #[.cell p 40]) (tmps : Array Value) (w : World) (b : Nat) (cur : Array Value) (hp : tmps.getD p undef = .pointer (some ⟨b, 0, none⟩))
  (hc : Cells w b 40 cur) (hz : cur.size = 3) : (results fn tmps).run Tryz.prog w = .ok (.agg cur) w := by
 have L := run_loadVar_row (P := Tryz.prog) w b 40 40 cur (0, 0) _ hc Tryz.underlying40 rfl (by rw [hz]; kernel_rfl)
 rw [results_cellE h, hp]
 show (loadVar _ _).run _ _ = _
 exact L
theorem trim_le (l p : List UInt8) : (Lib.trimPrefix l p).length <= l.length := by
 unfold Lib.trimPrefix
 split
 ·rw [List.length_drop]; omega
 exact Nat.le_refl _
theorem takeW_le (l : List UInt8) (p : UInt8 -> Bool) : (l.takeWhile p).length <= l.length := (List.takeWhile_sublist p).length_le
def SaidV (lo : Nat) (t : List UInt8) (v : Value) (w : World) : Prop := ∃ u, v = .agg #[.int .i64 (saidE t).kind, .int .i64 (saidE t).id, u] /\ w.ownsRow lo 83 2 u (saidE t).fields.length (cellsF (saidE t).fields)
theorem asaid_any (t : List UInt8) (ht : t.length <= 60000) (w : World) (hT : Tabs w) :
  Calls Tryz.prog 112 #[.string (B t)] w fun e w' => ∃ v, e = .returned v /\ SaidV w.heap.size t v w' /\ Below w.heap.size w w' := by
 obtain ⟨wa, hwa⟩ : ∃ wa, wa = w.alloc (.cells #[.int .i64 0, .int .i64 0, .slice none 0 0] 40) := ⟨_, rfl⟩
 have hba : Below w.heap.size w wa := by rw [hwa]; exact (Below.refl _ w).alloc (Nat.le_refl _) _
 have hza : wa.heap.size = w.heap.size + 1 := by rw [hwa]; simp
 have CX := Lib.hid (show Cells wa w.heap.size 40 #[.int .i64 0, .int .i64 0, .slice none 0 0] by rw [hwa]; exact Cells.new _ _ _)
 have HBA := Lib.hid hba
 have l1 : (lineS t).length <= 60000 := by have := takeW_le t (· != 10); unfold lineS; omega
 have l2 := trim_le (lineS t) [32]
 have l3 : (nameS t).length <= 60000 := by have := takeW_le (Lib.trimPrefix (lineS t) [32]) (· != 32); unfold nameS; omega
 have l4 : (figS t).length <= 60000 := by unfold figS; rw [List.length_drop]; omega
 have l5 : (restD t).length <= 60000 := by unfold restD; rw [List.length_drop]; omega
 have C1 := Lib.hid (cut_byte t 10 (by omega) wa)
 rw [show t.takeWhile (· != 10) = lineS t from rfl, show t.drop ((lineS t).length + 1) = restD t from rfl] at C1
 have TP := Lib.hid (fun W => Tryz.strings_TrimPrefix (B (lineS t)) ⟨#[32]⟩ W)
 rw [B_data, show (⟨#[32]⟩ : ByteArray).data.toList = [32] from rfl] at TP
 rw [show (⟨(Lib.trimPrefix (lineS t) [32]).toArray⟩ : ByteArray) = B (Lib.trimPrefix (lineS t) [32]) from rfl] at TP
 have C2 := Lib.hid (fun W => cut_byte (Lib.trimPrefix (lineS t) [32]) 32 (by omega) W)
 rw [show (Lib.trimPrefix (lineS t) [32]).takeWhile (· != 32) = nameS t from rfl, show (Lib.trimPrefix (lineS t) [32]).drop ((nameS t).length + 1) = figS t from rfl] at C2
 have AT := Lib.hid (fun W (hW : Below w.heap.size w W) => atoi_any (figS t) (by omega) W (hT.below hW (Nat.le_refl _)))
 have KN := Lib.hid (fun W => akind_any (nameS t) W)
 have UF := Lib.hid (fun W => aunfold_any (restD t) l5 W)
 have SD : Hid (saidE t = ⟨kindOf (nameS t), atoiV (figS t), unfoldF (restD t)⟩) := rfl
 generalize lineS t = la at *
 generalize B (Lib.trimPrefix la [32]) = tl at *
 generalize restD t = re at *
 generalize nameS t = na at *
 generalize figS t = fi at *
 clear hba hT l1 l2 l3 l4 l5
 subst hwa
 go_enter Tryz.func112, Tryz.ntmps112
 go_wp2_with fail
 refine C1.out.mono ?_
 rintro e w1 ⟨⟨b1, rfl⟩, h1⟩
 have HB1 := Lib.hid (HBA.out.trans (h1.mono HBA.out.size))
 have K1 := Lib.hid (cells_kept CX.out h1 (by rw [hza]; omega))
 have z1 := h1.size
 rw [hza] at z1
 have TP1 := Lib.hid (TP.out w1)
 clear C1 h1 TP CX
 go_wp2_with fail
 refine TP1.out.mono ?_
 rintro e w2 ⟨rfl, rfl⟩
 have C22 := Lib.hid (C2.out w2)
 clear TP1 C2
 go_wp2_with fail
 refine C22.out.mono ?_
 rintro e w3 ⟨⟨b3, rfl⟩, h3⟩
 have HB3 := Lib.hid (HB1.out.trans (h3.mono HB1.out.size))
 have K3 := Lib.hid (cells_kept K1.out h3 (by omega))
 have z3 := h3.size
 have AT3 := Lib.hid (AT.out w3 HB3.out)
 clear C22 h3 K1 AT
 go_wp2_with fail
 refine AT3.out.mono ?_
 rintro e w4 ⟨⟨T, q, hq⟩, h4⟩
 have HB4 := Lib.hid (HB3.out.trans (h4.mono HB3.out.size))
 have K4 := Lib.hid (cells_kept K3.out h4 (by omega))
 have z4 := h4.size
 have KN4 := Lib.hid (KN.out w4)
 clear AT3 h4 K3 KN
 rcases hq with rfl | rfl
 all_goals
  go_wp2_with fail
  refine KN4.out.mono ?_
  rintro e w5 ⟨rfl, h5⟩
  have HB5 := Lib.hid (HB4.out.trans (h5.mono HB4.out.size))
  have K5 := Lib.hid (cells_kept K4.out h5 (by omega))
  have z5 := h5.size
  have UF5 := Lib.hid (UF.out w5)
  clear KN4 h5 K4 UF
  go_wp2_with fail
  refine UF5.out.mono ?_
  rintro e w6 ⟨u, rfl, hu, h6⟩
  have HB6 := Lib.hid (HB5.out.trans (h6.mono HB5.out.size))
  have K6 := cells_kept K5.out h6 (by omega)
  obtain ⟨ua, uc, rfl, _⟩ := own_slice hu
  have hlow : ∀ k, (Value.slice ua (unfoldF re).length uc).ownBlock = some k -> w.heap.size < k := fun k hk => by have := (hu.lt k hk).1; omega
  have k0 := K6.cell 0
  have k1 := K6.cell 1
  have k2 := K6.cell 2
  have f0 := K6.frozen 0
  have f1 := K6.frozen 1
  have f2 := K6.frozen 2
  have R7 := Lib.hid (((K6.set 0 (.int .i64 (kindOf na))).set 1 (.int .i64 (atoiV fi))).set 2 (.slice ua (unfoldF re).length uc))
  have HU := Lib.hid (rowBase (base' := w.heap.size) hu (by omega))
  have HL := Lib.hid hlow
  clear UF5 h6 K5 hu K6 hlow
  go_wp2_with fail
  refine bodyPost_ret (ret_edit rfl _ _ w.heap.size _ rfl R7.out rfl) rfl ?_
  refine ⟨_, rfl, ?_, ((HB6.out.setCell (p := ⟨w.heap.size, 0, none⟩) (Nat.le_refl _) _).setCell (p := ⟨w.heap.size, 1, none⟩) (Nat.le_refl _) _).setCell (p := ⟨w.heap.size, 2, none⟩) (Nat.le_refl _) _⟩
  rw [show SaidV w.heap.size t = fun v w' => ∃ u, v = .agg #[.int .i64 (saidE t).kind, .int .i64 (saidE t).id, u] /\ w'.ownsRow w.heap.size 83 2 u (saidE t).fields.length (cellsF (saidE t).fields) from rfl, SD.out]
  have hn : ∀ p : Addr, p.block = w.heap.size -> ∀ k, (Value.slice ua (unfoldF re).length uc).ownBlock = some k -> k ≠ p.block := fun p hp k hk => by have := HL.out k hk; omega
  exact ⟨_, rfl, row_cell (p := ⟨w.heap.size, 2, none⟩) (row_cell (p := ⟨w.heap.size, 1, none⟩) (row_cell (p := ⟨w.heap.size, 0, none⟩) HU.out (fun e => by have := HL.out _ e; simp at this) _) (fun e => by have := HL.out _ e; simp at this) _) (fun e => by have := HL.out _ e; simp at this) _⟩
end Go.Proofs.YtbkeoiefolkjfaaGreatDoor
namespace Go.Proofs.YtbkeoiefolkjfaaGreatDoor
open Go.RowKit Go.Shelf
def ops_ow5 : List Oper := [
 { dst := some 13, op := Op.move (Operand.tmp 3), type := 37, pos := "num.go:120", after := #[], guard := none },
 { dst := some 14, op := Op.fieldAddr 40 (Operand.tmp 5) 0, type := 0, pos := "num.go:120", after := #[], guard := none },
 { dst := some 15, op := Op.load 3 (Operand.tmp 14), type := 3, pos := "num.go:120", after := #[{ on := 1, ground := Ground.data }], guard := none },
 { dst := some 16, op := Op.fieldAddr 40 (Operand.tmp 5) 1, type := 0, pos := "num.go:120", after := #[], guard := none },
 { dst := some 17, op := Op.load 3 (Operand.tmp 16), type := 3, pos := "num.go:120", after := #[{ on := 3, ground := Ground.data }], guard := none },
 { dst := some 18, op := Op.fieldAddr 40 (Operand.tmp 5) 2, type := 0, pos := "num.go:120", after := #[], guard := none },
 { dst := some 19, op := Op.load 38 (Operand.tmp 18), type := 38, pos := "num.go:120", after := #[{ on := 5, ground := Ground.data }], guard := none },
 { dst := some 20, op := Op.call { callee := Callee.value (Operand.func 41), args := #[Operand.tmp 19], argTypes := #[38] }, type := 38, pos := "num.go:120", after := #[{ on := 6, ground := Ground.data }], guard := none },
 { dst := some 21, op := Op.build 40 #[(0, Operand.tmp 15), (1, Operand.tmp 17), (2, Operand.tmp 20)], type := 40, pos := "num.go:120", after := #[{ on := 2, ground := Ground.data }, { on := 4, ground := Ground.data }, { on := 7, ground := Ground.data }], guard := none },
 { dst := some 22, op := Op.buildSlice 37 1 #[(0, Operand.tmp 21)], type := 37, pos := "num.go:120", after := #[{ on := 8, ground := Ground.data }], guard := none },
 { dst := some 23, op := Op.call { callee := Callee.builtin Builtin.append, args := #[Operand.tmp 13, Operand.tmp 22], argTypes := #[37, 37] }, type := 37, pos := "num.go:120", after := #[{ on := 0, ground := Ground.data }, { on := 9, ground := Ground.data }, { on := 7, ground := Ground.chain }], guard := none },
 { dst := some 3, op := Op.assign (Operand.tmp 23), type := 37, pos := "num.go:120", after := #[{ on := 10, ground := Ground.data }, { on := 10, ground := Ground.chain }, { on := 0, ground := Ground.phase }, { on := 1, ground := Ground.phase }, { on := 2, ground := Ground.phase }, { on := 3, ground := Ground.phase }, { on := 4, ground := Ground.phase }, { on := 5, ground := Ground.phase }, { on := 6, ground := Ground.phase }, { on := 7, ground := Ground.phase }, { on := 8, ground := Ground.phase }, { on := 9, ground := Ground.phase }, { on := 10, ground := Ground.phase }], guard := none }]
def dst_ow5 (i : Nat) : Option Nat := (ops_ow5[i]?).bind (·.dst)
theorem inj_ow5 : ∀ i, i < 10 -> ∀ k, k < 10 -> dst_ow5 i ≠ none -> dst_ow5 i = dst_ow5 k -> i = k := by decide +kernel
theorem lt_ow5 : ∀ i, i < 10 -> (dst_ow5 i).getD 0 < 26 := by decide +kernel
theorem low_ow5 : ∀ i : Fin 12, ∀ e ∈ (ops_ow5[i.1]'(by exact i.2)).after, Region.binds .any e = true -> e.on < i.1 := by decide +kernel
def pv_ow5 (eb lo : Nat) (ov : Value) (k i : Int) (fa : Option Addr) (fn fc : Nat) (PL : Value -> World -> Prop) : List (Value -> World -> Prop) := [
 fun v w => v = ov,
 fun v w => v = .pointer (some ⟨eb, 0, none⟩),
 fun v w => v = .int .i64 k,
 fun v w => v = .pointer (some ⟨eb, 1, none⟩),
 fun v w => v = .int .i64 i,
 fun v w => v = .pointer (some ⟨eb, 2, none⟩),
 fun v w => v = .slice fa fn fc,
 fun v w => PL v w,
 fun v w => ∃ u, v = .agg #[.int .i64 k, .int .i64 i, u] /\ PL u w,
 fun v w => ∃ b u, v = .slice (some ⟨b, 0, none⟩) 1 1 /\ PL u w /\ lo <= b /\ Cells w b 40 #[.int .i64 k, .int .i64 i, u]]
theorem region_ow5 (a0 : Act) (w0 : World) (eb lo : Nat) (ov : Value) (k i : Int) (fa : Option Addr) (fn fc : Nat) (PL : Value -> World -> Prop) (Q : Exit -> Act -> World -> Prop)
  (hsz : a0.tmps.size = 26) (h3 : a0.tmps[3]? = some (ov)) (h5 : a0.tmps[5]? = some (.pointer (some ⟨eb, 0, none⟩)))
  (hE : ∀ W, Below w0.heap.size w0 W -> W.cell? ⟨eb, 0, none⟩ = some (.int .i64 k) /\ W.cell? ⟨eb, 1, none⟩ = some (.int .i64 i) /\ W.cell? ⟨eb, 2, none⟩ = some (.slice fa fn fc)) (hlo : lo <= w0.heap.size)
  (hPM : ∀ v x y, Below x.heap.size x y -> PL v x -> PL v y) (hPF : ∀ v w, PL v w -> ∃ fa fn fc, v = .slice fa fn fc)
  (hC7 : ∀ (W : World) (_ : Below w0.heap.size w0 W), Calls Tryz.prog 41 #[.slice fa fn fc] W fun e w => ∃ v, e = .returned v /\ (PL v w) /\ Below W.heap.size W w)
  (hQ : ∀ (y0 y1 y2 y3 y4 y5 y6 y7 y8 y9 : Value) (w : World), Below w0.heap.size w0 w -> ((fun (v : Value) (w : World) => v = ov) y0 w) -> ((fun (v : Value) (w : World) => ∃ b u, v = .slice (some ⟨b, 0, none⟩) 1 1 /\ PL u w /\ lo <= b /\ Cells w b 40 #[.int .i64 k, .int .i64 i, u]) y9 w) -> wpList Tryz.prog ops_ow5.toArray Q [{ dst := some 23, op := Op.call { callee := Callee.builtin Builtin.append, args := #[Operand.tmp 13, Operand.tmp 22], argTypes := #[37, 37] }, type := 37, pos := "num.go:120", after := #[{ on := 0, ground := Ground.data }, { on := 9, ground := Ground.data }, { on := 7, ground := Ground.chain }], guard := none }, { dst := some 3, op := Op.assign (Operand.tmp 23), type := 37, pos := "num.go:120", after := #[{ on := 10, ground := Ground.data }, { on := 10, ground := Ground.chain }, { on := 0, ground := Ground.phase }, { on := 1, ground := Ground.phase }, { on := 2, ground := Ground.phase }, { on := 3, ground := Ground.phase }, { on := 4, ground := Ground.phase }, { on := 5, ground := Ground.phase }, { on := 6, ground := Ground.phase }, { on := 7, ground := Ground.phase }, { on := 8, ground := Ground.phase }, { on := 9, ground := Ground.phase }, { on := 10, ground := Ground.phase }], guard := none }] { a0 with tmps := [(13, y0), (14, y1), (15, y2), (16, y3), (17, y4), (18, y5), (19, y6), (20, y7), (21, y8), (22, y9)].foldl (fun u p => u.setIfInBounds p.1 p.2) a0.tmps } w) :
  wpAny Tryz.prog .any ops_ow5.toArray Q ops_ow5.toArray.size (Array.replicate ops_ow5.toArray.size false) a0 w0 := by
 have M : AllM (pv_ow5 eb lo ov k i fa fn fc PL) := ⟨fun v x y hb h => h, fun v x y hb h => h, fun v x y hb h => h, fun v x y hb h => h, fun v x y hb h => h, fun v x y hb h => h, fun v x y hb h => h, fun v x y hb h => hPM v x y hb h, fun v x y hb h => by obtain ⟨u, e, h1⟩ := h; exact ⟨u, e, hPM u x y hb h1⟩, fun v x y hb h => by obtain ⟨b, u, e, h1, h2, h4⟩ := h; exact ⟨b, u, e, hPM u x y hb h1, h2, cells_kept h4 hb h4.lt⟩, trivial⟩
 refine wpAny_mono_tail 10 2 (by kernel_rfl) (by decide) a0 w0 dst_ow5 (pv_ow5 eb lo ov k i fa fn fc PL) M (by kernel_rfl) (by kernel_rfl) (by kernel_rfl)
  (fun i o _ ho => by unfold dst_ow5; rw [ho]; rfl)
  (fun i k d hi hk h1 h2 => inj_ow5 i hi k hk (by rw [h1]; intro q; cases q) (by rw [h1, h2]))
  (fun i d hi h => by have := lt_ow5 i hi; rw [h] at this; rw [hsz]; exact this)
  (fun i o e ho he hb => by
   obtain ⟨hi, rfl⟩ := List.getElem?_eq_some_iff.1 ho
   exact low_ow5 ⟨i, hi⟩ e he hb)
  ?step ?fin
 case fin =>
  intro a w hd hs hf hv hR
  obtain ⟨y0, hy0, pv0⟩ := hv 0 13 (by decide) rfl
  obtain ⟨y1, hy1, pv1⟩ := hv 1 14 (by decide) rfl
  obtain ⟨y2, hy2, pv2⟩ := hv 2 15 (by decide) rfl
  obtain ⟨y3, hy3, pv3⟩ := hv 3 16 (by decide) rfl
  obtain ⟨y4, hy4, pv4⟩ := hv 4 17 (by decide) rfl
  obtain ⟨y5, hy5, pv5⟩ := hv 5 18 (by decide) rfl
  obtain ⟨y6, hy6, pv6⟩ := hv 6 19 (by decide) rfl
  obtain ⟨y7, hy7, pv7⟩ := hv 7 20 (by decide) rfl
  obtain ⟨y8, hy8, pv8⟩ := hv 8 21 (by decide) rfl
  obtain ⟨y9, hy9, pv9⟩ := hv 9 22 (by decide) rfl
  rw [act_set' (a := a) (a0 := a0) [(13, y0), (14, y1), (15, y2), (16, y3), (17, y4), (18, y5), (19, y6), (20, y7), (21, y8), (22, y9)] hd hs (by
   intro p hp
   simp only [List.mem_cons, List.not_mem_nil, or_false] at hp
   rcases hp with rfl | rfl | rfl | rfl | rfl | rfl | rfl | rfl | rfl | rfl
   ·exact hy0
   ·exact hy1
   ·exact hy2
   ·exact hy3
   ·exact hy4
   ·exact hy5
   ·exact hy6
   ·exact hy7
   ·exact hy8
   ·exact hy9
   ) (fun j hj => hf j (fun k hk q => hj (by
    have : ∀ k, k < 10 -> (dst_ow5 k).all (fun d => [13, 14, 15, 16, 17, 18, 19, 20, 21, 22].contains d) = true := by decide +kernel
    have h1 := this k hk
    rw [q] at h1
    simpa using h1)))]
  exact hQ y0 y1 y2 y3 y4 y5 y6 y7 y8 y9 w hR pv0 pv9
 case step =>
 intro i o a w hi ho hs hf dep hR
 have e3 := evT ((hf 3 (by decide +kernel)).trans h3)
 have e5 := evT ((hf 5 (by decide +kernel)).trans h5)
 rcases (by omega : i = 0 \/ i = 1 \/ i = 2 \/ i = 3 \/ i = 4 \/ i = 5 \/ i = 6 \/ i = 7 \/ i = 8 \/ i = 9) with rfl | rfl | rfl | rfl | rfl | rfl | rfl | rfl | rfl | rfl
 ·have ho2 : some _ = some o := ho
  obtain rfl := Option.some.inj ho2
  exact .inl ⟨wantN rfl, fun K hK => mo_move rfl e3 (hK _ _ (Below.refl _ _) rfl)⟩
 ·have ho2 : some _ = some o := ho
  obtain rfl := Option.some.inj ho2
  exact .inl ⟨wantN rfl, fun K hK => mo_field (by simp [go_sem]) rfl e5 (hK _ _ (Below.refl _ _) rfl)⟩
 ·have ho2 : some _ = some o := ho
  obtain rfl := Option.some.inj ho2
  obtain ⟨_, hv1, rfl⟩ : ∃ v, a.tmps[14]? = some v /\ (fun (v : Value) (w : World) => v = .pointer (some ⟨eb, 0, none⟩)) v w := dep ⟨1, Ground.data⟩ (by first | simp | simp [ops_ow5]) rfl 14 rfl
  exact .inl ⟨wantN rfl, fun K hK => mo_load (by simp [go_sem, (hE w hR).1]) rfl (evT hv1) (hK _ _ (Below.refl _ _) rfl)⟩
 ·have ho2 : some _ = some o := ho
  obtain rfl := Option.some.inj ho2
  exact .inl ⟨wantN rfl, fun K hK => mo_field (by simp [go_sem]) rfl e5 (hK _ _ (Below.refl _ _) rfl)⟩
 ·have ho2 : some _ = some o := ho
  obtain rfl := Option.some.inj ho2
  obtain ⟨_, hv3, rfl⟩ : ∃ v, a.tmps[16]? = some v /\ (fun (v : Value) (w : World) => v = .pointer (some ⟨eb, 1, none⟩)) v w := dep ⟨3, Ground.data⟩ (by first | simp | simp [ops_ow5]) rfl 16 rfl
  exact .inl ⟨wantN rfl, fun K hK => mo_load (by simp [go_sem, (hE w hR).2.1]) rfl (evT hv3) (hK _ _ (Below.refl _ _) rfl)⟩
 ·have ho2 : some _ = some o := ho
  obtain rfl := Option.some.inj ho2
  exact .inl ⟨wantN rfl, fun K hK => mo_field (by simp [go_sem]) rfl e5 (hK _ _ (Below.refl _ _) rfl)⟩
 ·have ho2 : some _ = some o := ho
  obtain rfl := Option.some.inj ho2
  obtain ⟨_, hv5, rfl⟩ : ∃ v, a.tmps[18]? = some v /\ (fun (v : Value) (w : World) => v = .pointer (some ⟨eb, 2, none⟩)) v w := dep ⟨5, Ground.data⟩ (by first | simp | simp [ops_ow5]) rfl 18 rfl
  exact .inl ⟨wantN rfl, fun K hK => mo_load (by simp [go_sem, (hE w hR).2.2]) rfl (evT hv5) (hK _ _ (Below.refl _ _) rfl)⟩
 ·have ho2 : some _ = some o := ho
  obtain rfl := Option.some.inj ho2
  obtain ⟨_, hv6, rfl⟩ : ∃ v, a.tmps[19]? = some v /\ (fun (v : Value) (w : World) => v = .slice fa fn fc) v w := dep ⟨6, Ground.data⟩ (by first | simp | simp [ops_ow5]) rfl 19 rfl
  exact .inl ⟨wantN rfl, fun K hK => mo_call1 41 rfl (evT hv6) (enters_of (P := Tryz.prog) Tryz.func41 (by kernel_rfl) rfl) (hC7 w hR) (fun v w' h => hK v w' h.2 h.1)⟩
 ·have ho2 : some _ = some o := ho
  obtain rfl := Option.some.inj ho2
  obtain ⟨_, hv2, rfl⟩ : ∃ v, a.tmps[15]? = some v /\ (fun (v : Value) (w : World) => v = .int .i64 k) v w := dep ⟨2, Ground.data⟩ (by first | simp | simp [ops_ow5]) rfl 15 rfl
  obtain ⟨_, hv4, rfl⟩ : ∃ v, a.tmps[17]? = some v /\ (fun (v : Value) (w : World) => v = .int .i64 i) v w := dep ⟨4, Ground.data⟩ (by first | simp | simp [ops_ow5]) rfl 17 rfl
  obtain ⟨z7, hv7, pv7⟩ : ∃ v, a.tmps[20]? = some v /\ (fun (v : Value) (w : World) => PL v w) v w := dep ⟨7, Ground.data⟩ (by first | simp | simp [ops_ow5]) rfl 20 rfl
  exact .inl ⟨wantN rfl, fun K hK => by obtain ⟨fa1, fn1, fc1, rfl⟩ := hPF _ _ pv7; exact mo_build3 rfl (evT hv2) (evT hv4) (evT hv7) (hK _ _ (Below.refl _ _) ⟨_, rfl, pv7⟩)⟩
 have ho2 : some _ = some o := ho
 obtain rfl := Option.some.inj ho2
 obtain ⟨z8, hv8, pv8⟩ : ∃ v, a.tmps[21]? = some v /\ (fun (v : Value) (w : World) => ∃ u, v = .agg #[.int .i64 k, .int .i64 i, u] /\ PL u w) v w := dep ⟨8, Ground.data⟩ (by first | simp | simp [ops_ow5]) rfl 21 rfl
 exact .inl ⟨wantN rfl, fun K hK => by obtain ⟨u1, rfl, h1⟩ := pv8; obtain ⟨fa1, fn1, fc1, rfl⟩ := hPF _ _ h1; exact mo_lit3 rfl (evT hv8) (hK _ _ ((Below.refl _ _).alloc (Nat.le_refl _) _) ⟨w.heap.size, _, rfl, hPM _ _ _ ((Below.refl _ _).alloc (Nat.le_refl _) _) h1, Nat.le_trans hlo hR.size, Cells.new _ _ _⟩)⟩
end Go.Proofs.YtbkeoiefolkjfaaGreatDoor
namespace Go.Proofs.YtbkeoiefolkjfaaGreatDoor
open Go.RowKit Go.Shelf
attribute [local go_sem] Oper.semAt_some
end Go.Proofs.YtbkeoiefolkjfaaGreatDoor
namespace Go.Proofs.YtbkeoiefolkjfaaGreatDoor
open Go.RowKit Go.Shelf
attribute [local go_sem] Oper.semAt_some
end Go.Proofs.YtbkeoiefolkjfaaGreatDoor
namespace Go.Proofs.YtbkeoiefolkjfaaGreatDoor
open Go.RowKit Go.Shelf
attribute [local go_sem] Oper.semAt_some
end Go.Proofs.YtbkeoiefolkjfaaGreatDoor
namespace Go.Proofs.YtbkeoiefolkjfaaGreatDoor
open Go.RowKit Go.Shelf
attribute [local go_sem] Oper.semAt_some
end Go.Proofs.YtbkeoiefolkjfaaGreatDoor
