/- Texts put together: ET, EX. -/
import Derived.Test.YtflnlenkgbphpaaGreatDoorBaf18
import Derived.Test.YtflnlenkgbphpaaGreatDoorBaf21
import Derived.Test.YtflnlenkgbphpaaGreatDoorBaf22
import Derived.Test.YtflnlenkgbphpaaGreatDoorBaf23
import Derived.Test.YtflnlenkgbphpaaGreatDoorBaf24
import Derived.Test.YtflnlenkgbphpaaGreatDoorBaf28
set_option linter.unusedVariables false
namespace Go.Proofs.YtflnlenkgbphpaaGreatDoor
open Go.RowKit Go.Shelf
attribute [local go_sem] Oper.semAt_some

theorem results_t3 {fn : Func} {p u z : Tmp} {ty : TypeId} (h : fn.results = #[.tmp u, .cell p ty, .tmp z]) (tmps : Array Value) (P : Program) (w : World) :
    (results fn tmps).run P w = ((asAddr (tmps.getD p undef)).run P w).andThen fun a w₁ => ((loadVar ty a).run P w₁).andThen fun v w₂ => .ok (.tuple #[tmps.getD u undef, v, tmps.getD z undef]) w₂ := by
  simp only [results, h]
  simp [Sem.run_bind, Result.andThen]
set_option maxRecDepth 100000 in
theorem ret_t3 {fn : Func} {p u z : Tmp} (h : fn.results = #[.tmp u, .cell p 43, .tmp z]) (tmps : Array Value) (w : World) (b : Nat) (cur : Array Value) (hp : tmps.getD p undef = .pointer (some ⟨b, 0, none⟩))
    (hc : Cells w b 43 cur) (hz : cur.size = 2) : (results fn tmps).run Tryz.prog w = .ok (.tuple #[tmps.getD u undef, .agg cur, tmps.getD z undef]) w := by
  have L := run_loadVar_row (P := Tryz.prog) w b 43 43 cur (0, 0) _ hc Tryz.underlying43 rfl (by rw [hz]; kernel_rfl)
  rw [results_t3 h, hp]
  show ((loadVar _ _).run _ _).andThen _ = _
  rw [L]; rfl
/-- Fields don't lie where no texts lie. -/
theorem fld_not {w : World} {v : Value} {fs : List Fld} {b : Nat} {T : TypeId} {cur : Array Value} (h : Flds w v fs) (hne : fs ≠ []) (hb : v.ownBlock = some b) (hc : Cells w b T cur) (hn : ∀ x ∈ cur, ∀ s, x ≠ .string s) : False := by
  obtain ⟨A, cap, rfl, hle, hcs⟩ := h
  obtain ⟨f, hf⟩ : ∃ f, fs[0]? = some f := by
    cases fs with
    | nil => exact absurd rfl hne
    | cons a r => exact ⟨a, rfl⟩
  obtain ⟨b', off, rfl, _, c0, _⟩ := hcs 0 f hf
  have e : b' = b := by cases hb; rfl
  subst e
  rw [Nat.zero_mul, Nat.add_zero, hc.cell off] at c0
  exact hn _ (Array.mem_of_getElem? c0) _ rfl
/-- What lists comes to. -/
def ListsR (w : World) (t : List UInt8) (e : Ending) (w' : World) : Prop :=
  Below w.heap.size w w' ∧ match parseL t with
    | .error _ => e = .returned (.tuple #[.pointer none, .agg #[.slice none 0 0, .int .i64 0], .bool false])
    | .ok its => ∃ lb ev ps v qs, e = .returned (.tuple #[ptr lb, .agg #[v, .int .i64 (fromL its).next], .bool true]) ∧ Carry w.heap.size w' lb ev ps (fromL its) 3000 ∧ EntsQ w' v qs ∧ qs.map Prod.fst = (fromL its).es
set_option maxRecDepth 100000 in
set_option maxHeartbeats 4000000 in
theorem lists_any (s : ByteArray) (hs : s.size ≤ 3000) (w : World) : Calls Tryz.prog 20 #[.string s] w fun e w' => ListsR w s.data.toList e w' := by
  obtain ⟨wa, hwa⟩ : ∃ wa, wa = w.alloc (.cells #[.slice none 0 0, .int .i64 0] 43) := ⟨_, rfl⟩
  have hba : Below w.heap.size w wa := by rw [hwa]; exact (Below.refl _ w).alloc (Nat.le_refl _) _
  have hza : wa.heap.size = w.heap.size + 1 := by rw [hwa]; simp
  have c3a : Cells wa w.heap.size 43 #[.slice none 0 0, .int .i64 0] := by rw [hwa]; exact Cells.new _ _ _
  have OF := Lib.hid (of_any s (by omega) wa)
  have RO_ := Lib.hid (fun W => refOf7_any s (by omega) W)
  have HBA := Lib.hid hba
  have HC3 := Lib.hid c3a
  clear hba c3a
  subst hwa
  go_enter Tryz.func20, Tryz.ntmps20
  go_wp2_with fail
  refine OF.out.mono ?_
  rintro e w1 hof
  have RO1 := Lib.hid (RO_.out w1)
  clear OF RO_
  cases hp : parseL s.data.toList with
  | error an =>
    obtain ⟨a, n⟩ := an
    obtain ⟨b1, u, rfl, hf⟩ := hof.no hp
    obtain ⟨q, _, rfl, _⟩ := hf
    have hn0 := (parse_no hp).1
    have HP := Lib.hid hp
    have HB1 := Lib.hid b1
    clear hof hp b1
    go_wp2_with fail
    refine RO1.out.mono ?_
    rintro e w2 ⟨b2, h2⟩
    rw [HP.out] at h2
    subst h2
    have B2 : Below (w.alloc (.cells #[.slice none 0 0, .int .i64 0] 43)).heap.size (w.alloc (.cells #[.slice none 0 0, .int .i64 0] 43)) w2 := HB1.out.trans (b2.mono HB1.out.size)
    obtain ⟨w3, hw3⟩ : ∃ w3, w3 = (w2.alloc (.cells #[.slice none 0 0, .int .i64 0] 43)) := ⟨_, rfl⟩
    have cM : Cells w3 w2.heap.size 43 #[.slice none 0 0, .int .i64 0] := by rw [hw3]; exact Cells.new _ _ _
    have B3 : Below (w.alloc (.cells #[.slice none 0 0, .int .i64 0] 43)).heap.size (w.alloc (.cells #[.slice none 0 0, .int .i64 0] 43)) w3 := by rw [hw3]; exact B2.alloc B2.size _
    have c3 := cells_kept HC3.out B3 (by omega)
    have hz2 := B2.size
    have B3w : Below w.heap.size w w3 := HBA.out.trans (B3.mono HBA.out.size)
    have RE := Lib.hid ((c3.drew.set 0 (.slice none 0 0)).set 1 (.int .i64 0))
    have FIN : Hid (Below w.heap.size w ((w3.drew.setCell ⟨w.heap.size, 0, none⟩ (.slice none 0 0)).setCell ⟨w.heap.size, 1, none⟩ (.int .i64 0))) := (B3w.drew.setCell (p := ⟨w.heap.size, 0, none⟩) (Nat.le_refl _) _).setCell (p := ⟨w.heap.size, 1, none⟩) (Nat.le_refl _) _
    have HM := Lib.hid cM.drew
    have HR3 := Lib.hid c3.drew
    have hne : w2.heap.size ≠ w.heap.size := by omega
    clear B2 B3 c3 cM b2 RO1 HC3 HBA HB1 B3w
    subst hw3
    go_upto_region 3 with fail
    refine wp_region_any (by kernel_rfl) ?_
    refine region_liF _ (w2.alloc (.cells #[.slice none 0 0, .int .i64 0] 43)).drew w2.heap.size w.heap.size none 0 0 0 _ _ _ _ rfl rfl rfl rfl rfl rfl hne HM.out ⟨_, HR3.out, rfl⟩ ?_
    simp only [List.foldl, List.setIfInBounds_toArray, List.set_cons_zero, List.set_cons_succ]
    go_wp2_with fail
    refine bodyPost_ret (ret_t3 rfl _ _ w.heap.size _ rfl RE.out rfl) rfl ?_
    refine ⟨FIN.out, ?_⟩
    rw [HP.out]; rfl
  | ok its =>
    obtain ⟨b1, lb, ev, ps, rfl, hlb, hev, hla, hps⟩ := hof.yes hp
    have hlen : (fromL its).es.length ≤ 3000 ∧ (fromL its).next ≤ 3001 := by
      have h1 := (parse_join hp).2.1
      rw [← Lib.size_eq] at h1
      have h2 : (fromL its).es.length = its.length := from_len 1 its
      have h3 := (from_next 1 its).2
      have h4 : (fromL its).next = fromNext 1 its := rfl
      omega
    have CA : Carry w.heap.size w1 lb ev ps (fromL its) 3000 := by
      refine ⟨hla, hps, from_ok hp, fun e he => ?_, by omega, (fun b e => by have := hev b e; omega), hlen.1, hlen.2⟩
      have h1 := (parse_join hp).2.2
      have h2 : e.1 ∈ its := by rw [← from_items 1 its]; exact List.mem_map_of_mem he
      obtain ⟨q1, q2⟩ := h1 _ h2
      rw [← Lib.size_eq] at q2
      exact ⟨by omega, by omega⟩
    have HP := Lib.hid hp
    have HB1 := Lib.hid b1
    have HCA := Lib.hid CA
    have hev' := hev
    have hz1 := b1.size
    clear hof hp b1 hla hps hev CA hlen
    unfold ptr
    go_wp2_with fail
    refine RO1.out.mono ?_
    rintro e w2 ⟨b2, h2⟩
    rw [HP.out] at h2
    obtain ⟨v, qs, rfl, hq, hqe, hqv, hqb⟩ := h2
    obtain ⟨va, vc, rfl, _⟩ := hq.empty
    have B2 : Below (w.alloc (.cells #[.slice none 0 0, .int .i64 0] 43)).heap.size (w.alloc (.cells #[.slice none 0 0, .int .i64 0] 43)) w2 := HB1.out.trans (b2.mono HB1.out.size)
    obtain ⟨w3, hw3⟩ : ∃ w3, w3 = (w2.alloc (.cells #[.slice va qs.length vc, .int .i64 (fromL its).next] 43)) := ⟨_, rfl⟩
    have cM : Cells w3 w2.heap.size 43 #[.slice va qs.length vc, .int .i64 (fromL its).next] := by rw [hw3]; exact Cells.new _ _ _
    have B23 : Below w2.heap.size w2 w3 := by rw [hw3]; exact (Below.refl _ _).alloc (Nat.le_refl _) _
    have B3 : Below (w.alloc (.cells #[.slice none 0 0, .int .i64 0] 43)).heap.size (w.alloc (.cells #[.slice none 0 0, .int .i64 0] 43)) w3 := by rw [hw3]; exact B2.alloc B2.size _
    have c3 := cells_kept HC3.out B3 (by omega)
    have hz2 := B2.size
    have B3w : Below w.heap.size w w3 := HBA.out.trans (B3.mono HBA.out.size)
    have RE := Lib.hid ((c3.drew.set 0 (.slice va qs.length vc)).set 1 (.int .i64 (fromL its).next))
    have HM := Lib.hid cM.drew
    have HR3 := Lib.hid c3.drew
    have hne : w2.heap.size ≠ w.heap.size := by omega
    have o3 : Only (· = w.heap.size) w3 ((w3.drew.setCell ⟨w.heap.size, 0, none⟩ (.slice va qs.length vc)).setCell ⟨w.heap.size, 1, none⟩ (.int .i64 (fromL its).next)) := (((Only.refl (· = w.heap.size) w3).drew).cellS 0 _).cellS 1 _
    have hCA3 := (HCA.out.below b2 (Nat.le_refl _)).below B23 (Nat.le_refl _)
    have FIN : Hid (Below w.heap.size w ((w3.drew.setCell ⟨w.heap.size, 0, none⟩ (.slice va qs.length vc)).setCell ⟨w.heap.size, 1, none⟩ (.int .i64 (fromL its).next)) ∧ ∃ lb' ev ps v qs', Ending.returned (.tuple #[.pointer (some ⟨lb, 0, none⟩), .agg #[.slice va qs.length vc, .int .i64 (fromL its).next], .bool true]) = .returned (.tuple #[ptr lb', .agg #[v, .int .i64 (fromL its).next], .bool true]) ∧ Carry w.heap.size ((w3.drew.setCell ⟨w.heap.size, 0, none⟩ (.slice va qs.length vc)).setCell ⟨w.heap.size, 1, none⟩ (.int .i64 (fromL its).next)) lb' ev ps (fromL its) 3000 ∧ EntsQ ((w3.drew.setCell ⟨w.heap.size, 0, none⟩ (.slice va qs.length vc)).setCell ⟨w.heap.size, 1, none⟩ (.int .i64 (fromL its).next)) v qs' ∧ qs'.map Prod.fst = (fromL its).es) := by
      have hblk : ∀ r, BlkR lb ev ps (.slice none 0 0) [] r → ¬ r = w.heap.size := by
        rintro r (e | e | e | ⟨p, hp, hne, hb⟩ | ⟨p, hp, _⟩) q
        · omega
        · have := hev' r e; omega
        · cases e
        · exact fld_not (hCA3.la.lr.ents.each p hp).1 hne hb (by rw [q]; exact c3) (by intro x hx; simp at hx; rcases hx with rfl | rfl <;> (intro s e; cases e))
        · cases hp
      have hq3 : EntsQ w3 (.slice va qs.length vc) qs := hq.below B23 (Nat.le_refl _)
      refine ⟨(B3w.drew.setCell (p := ⟨w.heap.size, 0, none⟩) (Nat.le_refl _) _).setCell (p := ⟨w.heap.size, 1, none⟩) (Nat.le_refl _) _, lb, ev, ps, _, qs, rfl, hCA3.only o3 hblk, hq3.only o3 (fun b e => by have := hqv b e; omega) (fun p hp _ b e => by have := hqb p hp b e; omega), hqe⟩
    clear B2 B3 c3 cM b2 RO1 HC3 HBA HB1 B3w hq hqe hqv hqb B23 o3 HCA hCA3 hev'
    subst hw3
    go_upto_region 3 with fail
    refine wp_region_any (by kernel_rfl) ?_
    refine region_liT _ (w2.alloc (.cells #[.slice va qs.length vc, .int .i64 (fromL its).next] 43)).drew lb w2.heap.size w.heap.size va qs.length vc (fromL its).next _ rfl rfl rfl rfl rfl rfl hne HM.out ⟨_, HR3.out, rfl⟩ ?_
    simp only [List.foldl, List.setIfInBounds_toArray, List.set_cons_zero, List.set_cons_succ]
    go_wp2_with fail
    refine bodyPost_ret (ret_t3 rfl _ _ w.heap.size _ rfl RE.out rfl) rfl ?_
    refine ⟨FIN.out.1, ?_⟩
    rw [HP.out]; exact FIN.out.2
end Go.Proofs.YtflnlenkgbphpaaGreatDoor

namespace Go.Proofs.YtflnlenkgbphpaaGreatDoor
open Go.RowKit Go.Shelf
attribute [local go_sem] Oper.semAt_some

theorem err_form {lo : Nat} {w : World} {u : Value} {a : Int} {n : Nat} (h : ErrZ lo w u a n) (hn : n ≠ 0) : (∃ z, u = .iface 70 (.int .i64 z)) ∨ ∃ q, u = .iface 77 (.pointer (some ⟨q, 0, none⟩)) := by
  obtain ⟨_, ⟨rfl, _⟩ | ⟨_, ⟨q, _, rfl, _⟩, _, _⟩⟩ := h
  · rw [errV_pos _ (by omega)]; exact .inl ⟨_, rfl⟩
  · exact .inr ⟨q, rfl⟩
theorem err_nil {lo : Nat} {w : World} {u : Value} {a : Int} (h : ErrZ lo w u a 0) : u = .nilIface := by
  obtain ⟨_, ⟨rfl, _⟩ | ⟨_, _, _, hx⟩⟩ := h
  · rfl
  · exact absurd rfl hx
theorem Carry.weaken {S0 S1 : Nat} {w : World} {lb : Nat} {ev : Value} {ps : List Pr} {l : LS} {m m' : Nat} (h : Carry S0 w lb ev ps l m) (hS : S1 ≤ S0) (hm : m ≤ m') : Carry S1 w lb ev ps l m' :=
  ⟨h.la, h.es, h.ok, h.sz, Nat.le_trans hS h.lb0, fun b e => Nat.le_trans hS (h.ev0 b e), Nat.le_trans h.len hm, by have := h.nx; omega⟩
theorem doOn_bound : ∀ (q : Nat) (l : LS) (a : List Ed), (doOn q l a).1 = -9 ∨ (0 ≤ (doOn q l a).1 ∧ (doOn q l a).1 ≤ ((q + a.length : Nat) : Int))
  | q, l, [] => .inl rfl
  | q, l, ed :: r => by
    have ih := doOn_bound (q + 1) (stepE l ed).ls r
    have e1 : doOn q l (ed :: r) = if (stepE l ed).bad = 0 then doOn (q + 1) (stepE l ed).ls r else ((q : Nat), (stepE l ed).bad) := rfl
    rw [e1]
    by_cases h0 : (stepE l ed).bad = 0
    · rw [if_pos h0]
      rcases ih with h | ⟨h1, h2⟩
      · exact .inl h
      · refine .inr ⟨h1, Int.le_trans h2 ?_⟩
        rw [List.length_cons]; omega
    · rw [if_neg h0]
      refine .inr ⟨by show (0 : Int) ≤ ((q : Nat) : Int); omega, by show ((q : Nat) : Int) ≤ _; omega⟩
set_option maxRecDepth 100000 in
set_option maxHeartbeats 16000000 in
theorem twoLaw (s : ByteArray) (hs : s.size ≤ maxLen) (as_ bs : List Ed) (v1 v2 : Value) (w : World) (ha : EdsIn w v1 as_) (hb : EdsIn w v2 bs) (hg : ErrT w) :
    Calls Tryz.prog 6 #[.string s, v1, v2] w fun e w' => e = .returned (.bool true) ∧ Below w.heap.size w w' := by
  obtain ⟨i0, hi, hz0, hz1, hz2⟩ := info_parts infoEd9
  obtain ⟨j0, ji, jz0, jz1, jz2⟩ := info_parts infoInt9
  have AL := Lib.hid (alive9_any w hg)
  have HEA := Lib.hid ha
  have HEB := Lib.hid hb
  have HG := Lib.hid hg
  unfold maxLen at hs
  obtain ⟨va, vac, rfl, _⟩ : ∃ A c, v1 = .slice A as_.length c ∧ True := by obtain ⟨_, A, c, e, _⟩ := ha; exact ⟨A, c, e, trivial⟩
  obtain ⟨vb, vbc, rfl, _⟩ : ∃ A c, v2 = .slice A bs.length c ∧ True := by obtain ⟨_, A, c, e, _⟩ := hb; exact ⟨A, c, e, trivial⟩
  clear ha hb hg
  go_enter Tryz.func6, Tryz.ntmps6
  go_wp2_with fail
  refine AL.out.mono ?_
  rintro e w1 ⟨rfl, b1⟩
  have B1 := Lib.hid b1
  clear AL b1
  by_cases hlong : 3000 < s.size
  · go_wp2_with fail
    go_ret
    exact ⟨rfl, B1.out⟩
  have HV := Lib.hid (heavy_any as_ _ w1 (HEA.out.below B1.out (Nat.le_refl _)))
  go_wp2_with fail
  refine HV.out.mono ?_
  rintro e w2 ⟨⟨q, rfl, hq⟩, b2⟩
  have B2 := Lib.hid (B1.out.trans (b2.mono B1.out.size))
  have HQ := Lib.hid hq
  clear HV b2 hq
  cases q with
  | true =>
    go_wp2_with fail
    go_ret
    exact ⟨rfl, B2.out⟩
  | false =>
  have LA : Hid (Light as_) := HQ.out (by first | exact rfl | trivial)
  have HV2 := Lib.hid (heavy_any bs _ w2 (HEB.out.below B2.out (Nat.le_refl _)))
  clear HQ
  go_wp2_with fail
  refine HV2.out.mono ?_
  rintro e w3 ⟨⟨q, rfl, hq⟩, b3⟩
  have B3 := Lib.hid (B2.out.trans (b3.mono B2.out.size))
  have HQ := Lib.hid hq
  clear HV2 b3 hq
  cases q with
  | true =>
    go_wp2_with fail
    go_ret
    exact ⟨rfl, B3.out⟩
  | false =>
  have LB : Hid (Light bs) := HQ.out (by first | exact rfl | trivial)
  have LI := Lib.hid (lists_any s (by omega) w3)
  clear HQ
  go_wp2_with fail
  refine LI.out.mono ?_
  rintro e w4 ⟨b4, h4⟩
  have B4 := Lib.hid (B3.out.trans (b4.mono B3.out.size))
  cases hp : parseL s.data.toList with
  | error an =>
    rw [hp] at h4
    subst h4
    have B5 := Lib.hid (B4.out.alloc B4.out.size (.cells #[.slice none 0 0, .int .i64 0] 43))
    clear LI b4 hp
    go_wp2_with fail
    go_ret
    exact ⟨rfl, B5.out⟩
  | ok its =>
  rw [hp] at h4
  obtain ⟨lb, ev, ps, v, qs, rfl, hC, hq, _⟩ := h4
  obtain ⟨qa, qc, rfl, _⟩ := hq.empty
  generalize fromL its = l at *
  obtain ⟨w5, hw5⟩ : ∃ w5, w5 = w4.alloc (.cells #[.slice qa qs.length qc, .int .i64 l.next] 43) := ⟨_, rfl⟩
  have b45 : Below w4.heap.size w4 w5 := by rw [hw5]; exact (Below.refl _ w4).alloc (Nat.le_refl _) _
  have B5 := Lib.hid (B4.out.trans (b45.mono B4.out.size))
  have HC := Lib.hid (hC.below b45 (Nat.le_refl _))
  have EA : Hid (∀ W, Below w.heap.size w W → EdV W (.slice va as_.length vac) as_ ∧ ErrT W) := fun W hW => ⟨HEA.out.edv.below hW (Nat.le_refl _), HG.out.below hW (Nat.le_refl _)⟩
  have EB : Hid (∀ W, Below w.heap.size w W → EdV W (.slice vb bs.length vbc) bs) := fun W hW => HEB.out.edv.below hW (Nat.le_refl _)
  have la51 : as_.length ≤ 51 := LA.out.1
  have lb51 : bs.length ≤ 51 := LB.out.1
  have CA := Lib.hid (checkB_any as_ _ w5 (EA.out w5 B5.out).1 (by omega) LA.out.fines (EA.out w5 B5.out).2)
  clear LI b4 hp hC hq b45
  subst hw5
  unfold ptr
  go_wp2_with fail
  refine CA.out.mono ?_
  rintro e w6 ⟨u6, rfl, b6, z6⟩
  have B6 := Lib.hid (B5.out.trans (b6.mono B5.out.size))
  have HB6 := Lib.hid b6
  clear CA b6
  by_cases hca : (chkB as_).2 = 0
  rotate_left
  · have hform := err_form z6 hca
    clear z6
    rcases hform with ⟨z, rfl⟩ | ⟨q, rfl⟩
    all_goals
      go_wp2_with fail
      go_ret
      exact ⟨rfl, B6.out⟩
  rw [hca] at z6
  obtain rfl := err_nil z6
  have CB := Lib.hid (checkB_any bs _ w6 (EB.out w6 B6.out) (by omega) LB.out.fines (EA.out w6 B6.out).2)
  clear z6
  go_wp2_with fail
  refine CB.out.mono ?_
  rintro e w7 ⟨u7, rfl, b7, z7⟩
  have B7 := Lib.hid (B6.out.trans (b7.mono B6.out.size))
  have HB7 := Lib.hid (HB6.out.trans (b7.mono HB6.out.size))
  clear CB b7 HB6
  by_cases hcb : (chkB bs).2 = 0
  rotate_left
  · have hform := err_form z7 hcb
    clear z7
    rcases hform with ⟨z, rfl⟩ | ⟨q, rfl⟩
    all_goals
      go_wp2_with fail
      go_ret
      exact ⟨rfl, B7.out⟩
  rw [hcb] at z7
  obtain rfl := err_nil z7
  clear z7
  have hwr : IntKind.i64.wrap ((as_.length : Int) + (bs.length : Int)) = (as_.length : Int) + (bs.length : Int) := IntWalk.i64_in _ (by omega)
  by_cases h40 : 40 < as_.length + bs.length
  · have h40' : (40 : Int) < (as_.length : Int) + (bs.length : Int) := by omega
    go_wp2_with fail
    go_ret
    exact ⟨rfl, B7.out⟩
  have h40' : ¬ (40 : Int) < (as_.length : Int) + (bs.length : Int) := by omega
  obtain ⟨⟨ca1, _⟩, cag⟩ := chkB_good hca
  obtain ⟨⟨cb1, _⟩, cbg⟩ := chkB_good hcb
  have hcab : chkB (as_ ++ bs) = (-9, 0) := chkB_of (by rw [List.length_append]; omega) (by rw [List.length_append]; omega) (fun x hx => by
    rcases List.mem_append.1 hx with hx | hx
    · exact cag x hx
    · exact cbg x hx)
  have DA : Hid (doB l as_ = doOn 0 l as_) := by show _ = _; unfold doB; rw [if_pos hca]
  have DB : Hid (∀ l', doB l' bs = doOn 0 l' bs) := fun l' => by unfold doB; rw [if_pos hcb]
  have DAB : Hid (doB l (as_ ++ bs) = doOn 0 l (as_ ++ bs)) := by show _ = _; unfold doB; rw [hcab]; rfl
  have HC7 := Lib.hid (HC.out.below HB7.out (Nat.le_refl _))
  have DO1 := Lib.hid (Do_any as_ _ (EA.out w7 B7.out).1 la51 LA.out.fines LA.out.smalls (EA.out w7 B7.out).2 HC7.out (by omega))
  unfold ptr at DO1
  clear hcab ca1 cag cbg HC HB7
  go_wp2_with fail
  refine DO1.out.mono ?_
  rintro e w8 ⟨b8, R8⟩
  have B8 := Lib.hid (B7.out.trans (b8.mono B7.out.size))
  have HC8 := Lib.hid (HC7.out.below b8 (Nat.le_refl _))
  -- the second call's batch
  obtain ⟨bb, boff, bcap, bfvs, hvb, blen, bcells, bone, bflds⟩ := edv_cells HEB.out.edv (by intro q; rw [q] at cb1; simp at cb1)
  obtain ⟨rfl, rfl⟩ : vb = some ⟨bb, boff, none⟩ ∧ vbc = bcap := by injection hvb with q1 _ q2; exact ⟨q1, q2⟩
  have OW : Hid (∀ W, Below w.heap.size w W → Calls Tryz.prog 10 #[.slice va as_.length vac] W fun e w' => ∃ v' fvs, e = .returned v' ∧ OwnE W.heap.size w' v' as_ fvs ∧ Below W.heap.size W w') := fun W hW => own_any as_ _ W (EA.out W hW).1 la51 LA.out.fines
  have HCELL : Hid (∀ W, Below w.heap.size w W → ∀ (j : Nat) (u : Value), (edRow bs bfvs)[j]? = some u → W.cell? ((⟨bb, boff, none⟩ : Addr).add j) = some u) := fun W hW j u hj => by
    have h1 := bcells j u hj
    exact (hW.cell (World.block_lt_of_cell? w _ h1)).trans h1
  have BRL : Hid ((edRow bs bfvs).length = bs.length * 3) := edRow_len bs bfvs blen
  have BONE := Lib.hid bone
  have COMB : Hid (∀ (lo : Nat) (W' W'' : World) (v' v'' : Value) (fvs : List Value), w.heap.size ≤ lo → Below w.heap.size w W' → OwnE lo W' v' as_ fvs → W''.ownsRow lo 33 3 v'' (as_.length + bs.length) (edRow as_ fvs ++ edRow bs bfvs) → W'.grownBy W'' v'.ownBlock → EdV W'' v'' (as_ ++ bs) ∧ Below w.heap.size w W'') := by
    intro lo W' W'' v' v'' fvs hlo hB' hO hrow hgr
    have hB'' : Below w.heap.size w W'' := hB'.grown hgr hB'.size (fun r e => Nat.le_trans hlo (hO.row.lt r e).1)
    refine ⟨edv_row (lo := lo) (fvs := fvs ++ bfvs) (by rw [List.length_append, edRow_append _ _ _ _ hO.len]; exact hrow) (by rw [List.length_append, List.length_append, hO.len, blen]) (fun i ed fv h1 h2 => ?_), hB''⟩
    rcases Nat.lt_or_ge i as_.length with q | q
    · rw [List.getElem?_append_left q] at h1
      rw [List.getElem?_append_left (by rw [hO.len]; exact q)] at h2
      have hx := hO.each i ed fv h1 h2
      exact FldR.own (row_same hx (fun r e => hgr.block r (hx.lt r e).2 (fun q => own_own_ne hO.row hx (by decide) r q.symm e)))
    · rw [List.getElem?_append_right q] at h1
      rw [List.getElem?_append_right (by rw [hO.len]; exact q), hO.len] at h2
      exact (bflds _ ed fv h1 h2).below hB'' (Nat.le_refl _)
  have FAB : Hid (Fines (as_ ++ bs) ∧ Smalls (as_ ++ bs)) := ⟨fun x hx => by
      rcases List.mem_append.1 hx with hx | hx
      · exact LA.out.fines x hx
      · exact LB.out.fines x hx, fun x hx => by
      rcases List.mem_append.1 hx with hx | hx
      · exact LA.out.smalls x hx
      · exact LB.out.smalls x hx⟩
  have OW8 := Lib.hid (OW.out w8 B8.out)
  have HB8 := Lib.hid b8
  have hlo8 := B8.out.size
  have h78 := b8.size
  have AFT : Hid (∀ (w9 w10 : World) (v9 v10 : Value) (fvs : List Value), Below w8.heap.size w8 w9 → OwnE w8.heap.size w9 v9 as_ fvs → w10.ownsRow w8.heap.size 33 3 v10 (as_.length + bs.length) (edRow as_ fvs ++ edRow bs bfvs) → w9.grownBy w10 v9.ownBlock →
      Below w8.heap.size w8 w10 ∧ Calls Tryz.prog 21 #[.pointer (some ⟨lb, 0, none⟩), v10] w10 fun e w' => DoR w10 w' l 3000 (as_ ++ bs) e) := by
    intro w9 w10 v9 v10 fvs b9 hO hrow hgr
    have hb : Below w8.heap.size w8 w10 := b9.grown hgr b9.size (fun r e => (hO.row.lt r e).1)
    obtain ⟨hE, hB⟩ := COMB.out w8.heap.size w9 w10 v9 v10 fvs hlo8 (B8.out.trans (b9.mono hlo8)) hO hrow hgr
    exact ⟨hb, Do_any (as_ ++ bs) v10 hE (by rw [List.length_append]; omega) FAB.out.1 FAB.out.2 (EA.out w10 hB).2 (HC8.out.below hb (Nat.le_refl _)) (by omega)⟩
  clear bcells bone hvb bflds b8 OW COMB FAB HC7
  rcases R8 with ⟨h8, u8, rfl, z8⟩ | ⟨h8, k8, o8, lb1, ev1, ps1, g1, rfl, C1, K1, own1⟩
  · -- the first batch is refused
    have hdd : doB l (as_ ++ bs) = doB l as_ := by
      rw [DAB.out, DA.out]
      exact doOn_left 0 l as_ bs (by rw [← DA.out]; exact h8)
    have hform := err_form z8 h8
    have Z8 := Lib.hid z8
    clear z8
    rcases hform with ⟨zz, rfl⟩ | ⟨zz, rfl⟩
    all_goals
      go_wp2_with fail
      refine OW8.out.mono ?_
      rintro e w9 ⟨v9, fvs, rfl, hO, b9⟩
      obtain ⟨oa, oc, rfl, _⟩ := own_slice hO.row
      have HO := Lib.hid hO
      have HB9 := Lib.hid b9
      have B9 := Lib.hid (B8.out.trans (b9.mono hlo8))
      have HV := Lib.hid (HCELL.out w9 B9.out)
      have hlo9 := b9.size
      clear hO b9
      go_wp2_with (at_builtin; refine wpList_append_at rfl _ _ 22 rfl w8.heap.size 33 i0 _ 3 40 Tryz.underlying22 hi hz0 hz1 hz2 rfl (by decide) _ _ _ rfl HO.out.row ⟨bb, boff, none⟩ bs.length vbc _ rfl BRL.out HV.out BONE.out (by unfold maxLen; omega) (by omega) hlo9 ?_)
      intro v10 w10 own10 grow10 at10
      obtain ⟨b10, DO2⟩ := AFT.out w9 w10 _ v10 fvs HB9.out HO.out own10 grow10
      have B10 := Lib.hid (B8.out.trans (b10.mono hlo8))
      have Z10 := Lib.hid (Z8.out.below b10 (Nat.le_refl _))
      have DO2 := Lib.hid DO2
      obtain ⟨pa, pn, pc, rfl⟩ : ∃ A n c, v10 = .slice A n c := by
        obtain ⟨A, c, e, _⟩ := own_slice own10
        exact ⟨A, _, c, e⟩
      clear own10 grow10 at10 b10 HO HV HB9
      go_wp2_with fail
      refine DO2.out.mono ?_
      rintro e w11 ⟨b11, R11⟩
      rw [hdd] at R11
      rcases R11 with ⟨_, u11, rfl, z11⟩ | ⟨h11, _⟩
      rotate_left
      · rw [h11] at h8; exact absurd rfl h8
      have B11 := Lib.hid (B10.out.trans (b11.mono B10.out.size))
      have A8 := Lib.hid (at_z (Z10.out.below b11 (Nat.le_refl _)))
      have A11 := Lib.hid (at_z z11)
      have hform2 := err_form z11 h8
      clear z11 b11 DO2
      rcases hform2 with ⟨zz2, rfl⟩ | ⟨zz2, rfl⟩
      all_goals
        go_wp2_with fail
        refine A11.out.mono ?_
        rintro e w' ⟨rfl, rfl⟩
        go_wp2_with fail
        refine A8.out.mono ?_
        rintro e w' ⟨rfl, rfl⟩
        go_wp2_with fail
        go_ret
        exact ⟨by first | rfl | simp, B11.out⟩
  · -- the first batch is done
    have hz7 := B7.out.size
    have ids51 : (idsOn l as_).length ≤ 51 := Nat.le_trans (idsOn_len l as_) la51
    have ids51' : (idsOn (lsOn l as_) bs).length ≤ 51 := Nat.le_trans (idsOn_len _ bs) lb51
    obtain ⟨ga, gc, rfl, _⟩ : ∃ A c, g1 = .slice A (idsOn l as_).length c ∧ (idsOn l as_).length ≤ c := own_slice own1
    have HC1 := Lib.hid C1
    have HOW1 := Lib.hid own1
    have HK1 : Hid (∀ r, BlkR lb1 ev1 ps1 (.slice none 0 0) [] r → w7.heap.size ≤ r) := K1
    have OKA := Lib.hid o8
    clear C1 own1 K1 o8 k8 h8
    unfold ptr
    go_wp2_with fail
    refine OW8.out.mono ?_
    rintro e w9 ⟨v9, fvs, rfl, hO, b9⟩
    obtain ⟨oa, oc, rfl, _⟩ := own_slice hO.row
    have HO := Lib.hid hO
    have HB9 := Lib.hid b9
    have B9 := Lib.hid (B8.out.trans (b9.mono hlo8))
    have HV := Lib.hid (HCELL.out w9 B9.out)
    have hlo9 := b9.size
    clear hO b9
    go_wp2_with (at_builtin; refine wpList_append_at rfl _ _ 22 rfl w8.heap.size 33 i0 _ 3 40 Tryz.underlying22 hi hz0 hz1 hz2 rfl (by decide) _ _ _ rfl HO.out.row ⟨bb, boff, none⟩ bs.length vbc _ rfl BRL.out HV.out BONE.out (by unfold maxLen; omega) (by omega) hlo9 ?_)
    intro v10 w10 own10 grow10 at10
    obtain ⟨b10, DO2⟩ := AFT.out w9 w10 _ v10 fvs HB9.out HO.out own10 grow10
    have B10 := Lib.hid (B8.out.trans (b10.mono hlo8))
    have DO2 := Lib.hid DO2
    have HC10 := Lib.hid (HC1.out.below b10 (Nat.le_refl _))
    have HOW10 := Lib.hid (row_below HOW1.out b10 (Nat.le_refl _))
    have hz10 := b10.size
    obtain ⟨pa, pn, pc, rfl⟩ : ∃ A n c, v10 = .slice A n c := by
      obtain ⟨A, c, e, _⟩ := own_slice own10
      exact ⟨A, _, c, e⟩
    have hgb : ∀ r, (Value.slice ga (idsOn l as_).length gc).ownBlock = some r → w7.heap.size ≤ r ∧ r < w8.heap.size := fun r e => HOW1.out.lt r e
    have HGB := Lib.hid hgb
    clear own10 grow10 at10 b10 HO HV HB9 HC1 HOW1 hgb AFT
    go_wp2_with fail
    refine DO2.out.mono ?_
    rintro e w11 ⟨b11, R11⟩
    have B11 := Lib.hid (B10.out.trans (b11.mono B10.out.size))
    have HC11 := Lib.hid (HC10.out.below b11 (Nat.le_refl _))
    have HOW11 := Lib.hid (row_below HOW10.out b11 (Nat.le_refl _))
    have DO3 := Lib.hid (Do_any bs _ (EB.out w11 B11.out) lb51 LB.out.fines LB.out.smalls (EA.out w11 B11.out).2 HC11.out (by omega))
    unfold ptr at DO3
    have DAB2 : Hid (doB l (as_ ++ bs) = doOn as_.length (lsOn l as_) bs) := by
      show _ = _
      rw [DAB.out, doOn_append 0 l as_ bs OKA.out, Nat.zero_add]
    have hz11 := b11.size
    have HB11 := Lib.hid b11
    clear b11 DO2 HC10 HOW10 OW8 HC8
    rcases R11 with ⟨h11, u11, rfl, z11⟩ | ⟨h11, k11, o11, lb2, ev2, ps2, g2, rfl, C2, K2, own2⟩
    · -- the whole batch is refused: in its second part
      have hform := err_form z11 h11
      have Z11 := Lib.hid z11
      clear z11
      have hbad : (doOn 0 (lsOn l as_) bs).2 ≠ 0 := fun q => h11 (by
        rw [DAB2.out]
        have := doOn_zero 0 _ _ q
        rw [doOn_ok as_.length _ _ this])
      have hsh := doOn_shift 0 as_.length (lsOn l as_) bs hbad
      rw [Nat.zero_add] at hsh
      have hbd := doOn_bound 0 (lsOn l as_) bs
      rcases hform with ⟨zz, rfl⟩ | ⟨zz, rfl⟩
      all_goals
        go_wp2_with fail
        refine DO3.out.mono ?_
        rintro e w12 ⟨b12, R12⟩
        rw [DB.out] at R12
        rcases R12 with ⟨h12, u12, rfl, z12⟩ | ⟨h12, _⟩
        rotate_left
        · rw [h12] at hbad; exact absurd rfl hbad
        have B12 := Lib.hid (B11.out.trans (b12.mono B11.out.size))
        have Z11' := Z11.out.below b12 (Nat.le_refl _)
        rw [DAB2.out, hsh] at Z11'
        have A11 := Lib.hid (at_z Z11')
        have A12 := Lib.hid (at_z z12)
        have hform2 := err_form z12 h12
        have hw12 : IntKind.i64.wrap ((doOn 0 (lsOn l as_) bs).1 + (as_.length : Int)) = (doOn 0 (lsOn l as_) bs).1 + (as_.length : Int) := IntWalk.i64_in _ (by omega)
        clear z12 b12 DO3 Z11' hsh hbd
        generalize (doOn 0 (lsOn l as_) bs).1 = at12 at *
        rcases hform2 with ⟨zz2, rfl⟩ | ⟨zz2, rfl⟩
        all_goals
          go_wp2_with fail
          refine A11.out.mono ?_
          rintro e w' ⟨rfl, rfl⟩
          go_wp2_with fail
          refine A12.out.mono ?_
          rintro e w' ⟨rfl, rfl⟩
          go_wp2_with fail
          go_ret
          exact ⟨by first | rfl | simp, B12.out⟩
    · -- it is done
      have hok2 : (doOn 0 (lsOn l as_) bs).2 = 0 := by
        rw [DAB2.out] at h11
        have := doOn_zero as_.length _ _ (by rw [h11])
        rw [doOn_ok 0 _ _ this]
      obtain ⟨ha2, hc2, rfl, _⟩ : ∃ A c, g2 = .slice A (idsOn l (as_ ++ bs)).length c ∧ (idsOn l (as_ ++ bs)).length ≤ c := own_slice own2
      have HC2 := Lib.hid C2
      have HOW2 := Lib.hid own2
      have HK2 : Hid (∀ r, BlkR lb2 ev2 ps2 (.slice none 0 0) [] r → w10.heap.size ≤ r) := K2
      clear C2 own2 K2 o11 k11 h11
      unfold ptr
      go_wp2_with fail
      refine DO3.out.mono ?_
      rintro e w12 ⟨b12, R12⟩
      rw [DB.out] at R12
      rcases R12 with ⟨h12, _⟩ | ⟨h12, k12, o12, lb3, ev3, ps3, g3, rfl, C3, K3, own3⟩
      · exact absurd hok2 h12
      obtain ⟨ka, kc, rfl, _⟩ : ∃ A c, g3 = .slice A (idsOn (lsOn l as_) bs).length c ∧ (idsOn (lsOn l as_) bs).length ≤ c := own_slice own3
      have B12 := Lib.hid (B11.out.trans (b12.mono B11.out.size))
      have HC12 := Lib.hid (HC2.out.below b12 (Nat.le_refl _))
      have HOW12 := Lib.hid (row_below HOW2.out b12 (Nat.le_refl _))
      have HIDS := Lib.hid (row_below HOW11.out b12 (Nat.le_refl _))
      have e3 : lsOn (lsOn l as_) bs = lsOn l (as_ ++ bs) := (lsOn_append l as_ bs).symm
      rw [e3] at C3
      have HC3 := Lib.hid C3
      have HK3 : Hid (∀ r, BlkR lb3 ev3 ps3 (.slice none 0 0) [] r → w11.heap.size ≤ r) := K3
      have hz12 := b12.size
      have eids : idsOn l (as_ ++ bs) = idsOn l as_ ++ idsOn (lsOn l as_) bs := idsOn_append l as_ bs
      -- behind the append
      have AF : Hid (∀ (w13 : World) (v13 : Value), Only (fun r => (Value.slice ga (idsOn l as_).length gc).ownBlock = some r) w12 w13 → w13.ownsRow w7.heap.size 3 1 v13 ((idsOn l as_).length + (idsOn (lsOn l as_) bs).length) ((idsOn l as_).map encI ++ (idsOn (lsOn l as_) bs).map encI) →
          Below w.heap.size w w13 ∧ NumsV w13 (.slice ha2 (idsOn l (as_ ++ bs)).length hc2) (idsOn l (as_ ++ bs)) ∧ NumsV w13 v13 (idsOn l (as_ ++ bs)) ∧ Carry w10.heap.size w13 lb2 ev2 ps2 (lsOn l (as_ ++ bs)) (3000 + (as_ ++ bs).length) ∧ Carry w11.heap.size w13 lb3 ev3 ps3 (lsOn l (as_ ++ bs)) (3000 + as_.length + bs.length)) := by
        intro w13 v13 ho hrow
        refine ⟨B12.out.trans (ho.to_below B12.out.size (fun r hr e => by have := (HGB.out r e).1; omega)), nums_row (row_only HOW12.out ho (fun r e q => by have := (HOW12.out.lt r e).1; have := (HGB.out r q).2; omega)), ?_, HC12.out.only ho (fun r hr q => by have := HK2.out r hr; have := (HGB.out r q).2; omega), HC3.out.only ho (fun r hr q => by have := HK3.out r hr; have := (HGB.out r q).2; omega)⟩
        refine nums_row (lo := w7.heap.size) ?_
        rw [eids, List.length_append, List.map_append]; exact hrow
      have idsn : (idsOn l (as_ ++ bs)).length ≤ 1000000 := by rw [eids, List.length_append]; omega
      have m1 : 3000 + (as_ ++ bs).length ≤ 10000 := by rw [List.length_append]; omega
      have m2 : 3000 + as_.length + bs.length ≤ 10000 := by omega
      have FINAL : Hid (∀ (w13 : World) (v13 : Value), Below w.heap.size w w13 ∧ NumsV w13 (.slice ha2 (idsOn l (as_ ++ bs)).length hc2) (idsOn l (as_ ++ bs)) ∧ NumsV w13 v13 (idsOn l (as_ ++ bs)) ∧ Carry w10.heap.size w13 lb2 ev2 ps2 (lsOn l (as_ ++ bs)) (3000 + (as_ ++ bs).length) ∧ Carry w11.heap.size w13 lb3 ev3 ps3 (lsOn l (as_ ++ bs)) (3000 + as_.length + bs.length) →
          Calls Tryz.prog 23 #[.slice ha2 (idsOn l (as_ ++ bs)).length hc2, v13] w13 (fun e w' => e = .returned (.bool true) ∧ Below w13.heap.size w13 w') ∧
          (∀ W, Below w13.heap.size w13 W → Calls Tryz.prog 24 #[.pointer (some ⟨lb3, 0, none⟩)] W (fun e w' => e = .returned (.string (B ((apartL ((lsOn l (as_ ++ bs)).es.map Prod.fst)).flatMap It.raw))) ∧ Below W.heap.size W w') ∧ Calls Tryz.prog 24 #[.pointer (some ⟨lb2, 0, none⟩)] W (fun e w' => e = .returned (.string (B ((apartL ((lsOn l (as_ ++ bs)).es.map Prod.fst)).flatMap It.raw))) ∧ Below W.heap.size W w') ∧
            Calls Tryz.prog 27 #[.pointer (some ⟨lb3, 0, none⟩)] W (fun e w' => ∃ u, e = .returned u ∧ Szs w' u (szE (lsOn l (as_ ++ bs)).es) ∧ Below W.heap.size W w') ∧ Calls Tryz.prog 27 #[.pointer (some ⟨lb2, 0, none⟩)] W (fun e w' => ∃ u, e = .returned u ∧ Szs w' u (szE (lsOn l (as_ ++ bs)).es) ∧ Below W.heap.size W w')) ∧
          (∀ W x y, Szs W x (szE (lsOn l (as_ ++ bs)).es) → Szs W y (szE (lsOn l (as_ ++ bs)).es) → Calls Tryz.prog 26 #[x, y] W fun e w' => ∃ u, e = .returned u ∧ u = .bool true ∧ Below W.heap.size W w')) := by
        rintro w13 v13 ⟨_, n1, n2, c2, c3⟩
        refine ⟨ints_same _ _ _ w13 n1 n2 idsn, fun W hW => ⟨carry_text (c3.below hW (Nat.le_refl _)) m2, carry_text (c2.below hW (Nat.le_refl _)) m1, carry_stanzas (c3.below hW (Nat.le_refl _)) m2, carry_stanzas (c2.below hW (Nat.le_refl _)) m1⟩, fun W x y hx hy => cSame hx hy (carry_small c2).1 (carry_small c2).2⟩
      have hkrow : (Value.slice ka (idsOn (lsOn l as_) bs).length kc = .slice none 0 0 ∧ (idsOn (lsOn l as_) bs) = []) ∨ ∃ g9, ka = some ⟨g9, 0, none⟩ ∧ ∀ (j : Nat) (u : Value), ((idsOn (lsOn l as_) bs).map encI)[j]? = some u → w12.cell? ((⟨g9, 0, none⟩ : Addr).add j) = some u := by
        by_cases hn0 : idsOn (lsOn l as_) bs = []
        · rcases own3.2 with ⟨e, _⟩ | ⟨g', cap', cur', e, _⟩
          · exact .inl ⟨e, hn0⟩
          · right
            injection e with e1 _ _
            refine ⟨g', e1, fun j u hj => ?_⟩
            rw [hn0] at hj; simp at hj
        · right
          have hn : (idsOn (lsOn l as_) bs).length ≠ 0 := fun e => hn0 (List.length_eq_zero_iff.1 e)
          have hrow := own3
          obtain ⟨g', cap', hug⟩ := Joins.ownsRow_form hrow (by omega)
          rw [hug] at hrow
          injection hug with e1 _ _
          refine ⟨g', e1, fun j u hj => ?_⟩
          have hjl := (List.getElem?_eq_some_iff.1 hj).1
          rw [List.length_map] at hjl
          have ea : (⟨g', 0, none⟩ : Addr).add j = ⟨g', j, none⟩ := by unfold Addr.add; split <;> simp_all
          rw [ea, World.ownsRow.cellAt hrow j (by omega), hj]
      have ONE : Hid (∀ u ∈ (idsOn (lsOn l as_) bs).map encI, u.oneCell' = true) := fun u hu => by
        obtain ⟨z, _, rfl⟩ := List.mem_map.1 hu; rfl
      have hlo7 : w7.heap.size ≤ w12.heap.size := by omega
      clear own3 C3 b12 HC12 HOW12 HC2 HOW2 HK2 HK3 HC3 DO3 HC11 HOW11 e3
      have hqq : ∀ t : ByteArray, ((t.toList == t.toList) = true) := fun t => by simp
      rcases hkrow with ⟨hk0, hk1⟩ | ⟨g9, rfl, hkc⟩
      · have AF0 := AF.out w12 (.slice ga (idsOn l as_).length gc) (Only.refl _ _) (by rw [hk1]; simpa using HIDS.out)
        obtain ⟨FI1, FI2, FI3⟩ := FINAL.out _ _ AF0
        have F1 := Lib.hid FI1
        have F2 := Lib.hid FI2
        have F3 := Lib.hid FI3
        have B13 := Lib.hid AF0.1
        rw [hk0]
        unfold ptr
        clear AF AF0 FINAL FI1 FI2 FI3 hk0 hk1 eids DAB DAB2 DA DB hok2
        go_wp2_with (at_builtin; refine wpList_append_none_want (by simp [Region.wanted, yielded]) _ _ 46 rfl w7.heap.size 3 j0 1 Tryz.underlying46 ji _ _ _ rfl HIDS.out rfl ?_)
        go_wp2_with fail
        refine F1.out.mono ?_
        rintro e w14 ⟨rfl, b14⟩
        obtain ⟨T1, _, _, _⟩ := F2.out w14 b14
        have T1 := Lib.hid T1
        have HB14 := Lib.hid b14
        clear b14 F1
        go_wp2_with fail
        refine T1.out.mono ?_
        rintro e w15 ⟨rfl, b15⟩
        have HB15 := Lib.hid (HB14.out.trans (b15.mono HB14.out.size))
        obtain ⟨_, T2, _, _⟩ := F2.out w15 HB15.out
        have T2 := Lib.hid T2
        clear b15 T1 HB14
        go_wp2_with fail
        refine T2.out.mono ?_
        rintro e w16 ⟨rfl, b16⟩
        have HB16 := Lib.hid (HB15.out.trans (b16.mono HB15.out.size))
        obtain ⟨_, _, T3, _⟩ := F2.out w16 HB16.out
        have T3 := Lib.hid T3
        clear b16 T2 HB15
        have hq9 := hqq (B ((apartL ((lsOn l (as_ ++ bs)).es.map Prod.fst)).flatMap It.raw))
        go_wp2_with fail
        refine T3.out.mono ?_
        rintro e w17 ⟨x17, rfl, sx, b17⟩
        have HB17 := Lib.hid (HB16.out.trans (b17.mono HB16.out.size))
        obtain ⟨_, _, _, T4⟩ := F2.out w17 HB17.out
        have T4 := Lib.hid T4
        have SX := Lib.hid sx
        clear b17 T3 HB16 sx
        go_wp2_with fail
        refine T4.out.mono ?_
        rintro e w18 ⟨y18, rfl, sy, b18⟩
        have HB18 := Lib.hid (HB17.out.trans (b18.mono HB17.out.size))
        have T5 := Lib.hid (F3.out w18 x17 y18 (SX.out.below b18 (Nat.le_refl _)) sy)
        clear b18 T4 HB17 sy SX
        go_wp2_with fail
        refine T5.out.mono ?_
        rintro e w19 ⟨u19, rfl, rfl, b19⟩
        have HB19 := Lib.hid (B13.out.trans ((HB18.out.trans (b19.mono HB18.out.size)).mono B13.out.size))
        clear b19 T5 HB18
        go_wp2_with fail
        go_ret
        exact ⟨by first | rfl | simp, HB19.out⟩
      · have HKC := Lib.hid hkc
        unfold ptr
        clear hkc eids DAB DAB2 DA DB hok2
        go_wp2_with (at_builtin; refine wpList_append_want (by simp [Region.wanted, yielded]) _ _ 46 rfl w7.heap.size 3 j0 _ 1 8 Tryz.underlying46 ji jz0 jz1 jz2 rfl (by decide) _ _ _ rfl HIDS.out ⟨g9, 0, none⟩ (idsOn (lsOn l as_) bs).length kc _ rfl (by rw [List.length_map]; omega) HKC.out ONE.out (by unfold maxLen; omega) (by omega) hlo7 ?_)
        intro v13 w13 own13 grow13 at13
        have AF0 := AF.out w13 v13 ((Only.refl _ w12).grown grow13 (fun r e => .inl e)) own13
        obtain ⟨FI1, FI2, FI3⟩ := FINAL.out _ _ AF0
        have F1 := Lib.hid FI1
        have F2 := Lib.hid FI2
        have F3 := Lib.hid FI3
        have B13 := Lib.hid AF0.1
        obtain ⟨pa3, pn3, pc3, rfl⟩ : ∃ A n c, v13 = .slice A n c := by
          obtain ⟨A, c, e, _⟩ := own_slice own13
          exact ⟨A, _, c, e⟩
        clear AF AF0 FINAL FI1 FI2 FI3 own13 grow13 at13 HKC
        go_wp2_with fail
        refine F1.out.mono ?_
        rintro e w14 ⟨rfl, b14⟩
        obtain ⟨T1, _, _, _⟩ := F2.out w14 b14
        have T1 := Lib.hid T1
        have HB14 := Lib.hid b14
        clear b14 F1
        go_wp2_with fail
        refine T1.out.mono ?_
        rintro e w15 ⟨rfl, b15⟩
        have HB15 := Lib.hid (HB14.out.trans (b15.mono HB14.out.size))
        obtain ⟨_, T2, _, _⟩ := F2.out w15 HB15.out
        have T2 := Lib.hid T2
        clear b15 T1 HB14
        go_wp2_with fail
        refine T2.out.mono ?_
        rintro e w16 ⟨rfl, b16⟩
        have HB16 := Lib.hid (HB15.out.trans (b16.mono HB15.out.size))
        obtain ⟨_, _, T3, _⟩ := F2.out w16 HB16.out
        have T3 := Lib.hid T3
        clear b16 T2 HB15
        have hq9 := hqq (B ((apartL ((lsOn l (as_ ++ bs)).es.map Prod.fst)).flatMap It.raw))
        go_wp2_with fail
        refine T3.out.mono ?_
        rintro e w17 ⟨x17, rfl, sx, b17⟩
        have HB17 := Lib.hid (HB16.out.trans (b17.mono HB16.out.size))
        obtain ⟨_, _, _, T4⟩ := F2.out w17 HB17.out
        have T4 := Lib.hid T4
        have SX := Lib.hid sx
        clear b17 T3 HB16 sx
        go_wp2_with fail
        refine T4.out.mono ?_
        rintro e w18 ⟨y18, rfl, sy, b18⟩
        have HB18 := Lib.hid (HB17.out.trans (b18.mono HB17.out.size))
        have T5 := Lib.hid (F3.out w18 x17 y18 (SX.out.below b18 (Nat.le_refl _)) sy)
        clear b18 T4 HB17 sy SX
        go_wp2_with fail
        refine T5.out.mono ?_
        rintro e w19 ⟨u19, rfl, rfl, b19⟩
        have HB19 := Lib.hid (B13.out.trans ((HB18.out.trans (b19.mono HB18.out.size)).mono B13.out.size))
        clear b19 T5 HB18
        go_wp2_with fail
        go_ret
        exact ⟨by first | rfl | simp, HB19.out⟩
open Go.Maps Go.ChangeShapes Go.Joins Go.WideShapes in
set_option maxRecDepth 100000 in
/-- .. at a text and two batches that came in. -/
theorem twoCall {H : Type} {enc : TypeId × Value → H} (s : ByteArray) (v1 : Value) (d1 : DataW H) (p1 : List MemPlace) (v2 : Value) (d2 : DataW H) (p2 : List MemPlace) (W : World) (hs : s.size ≤ maxLen) {b0 : Nat} (hval1 : Value.okWide Tryz.prog W .any b0 22 v1) {base1 : Nat} {sp1 : Nat → Bool} {held1 : Bool} (h1 : DataW.Trod enc Tryz.prog W base1 sp1 held1 22 v1 d1 p1)
    {b2 : Nat} (hval2 : Value.okWide Tryz.prog W .any b2 22 v2) {base2 : Nat} {sp2 : Nat → Bool} {held2 : Bool} (h2 : DataW.Trod enc Tryz.prog W base2 sp2 held2 22 v2 d2 p2) (hg : ErrT W) :
    Calls Tryz.prog 6 #[.string s, v1, v2] W fun e w' => e = .returned (.bool true) ∧ Below W.heap.size W w' := by
  obtain ⟨n1, hn1⟩ := h1
  obtain ⟨ao, len, cap, rfl⟩ := okWide_slice Tryz.underlying22 hval1
  obtain ⟨as_, hr1⟩ := edits_in (v := .slice ao len cap) hn1
  obtain ⟨n2, hn2⟩ := h2
  obtain ⟨ao2, len2, cap2, rfl⟩ := okWide_slice Tryz.underlying22 hval2
  obtain ⟨bs, hr2⟩ := edits_in (v := .slice ao2 len2 cap2) hn2
  exact twoLaw s hs as_ bs _ _ W hr1 hr2 hg
end Go.Proofs.YtflnlenkgbphpaaGreatDoor

