/- Texts put together: EC, EO, EW, HA, ES. -/
import Derived.BigFrame
import Derived.Laws.AppendOwnNone
import Derived.Test.YtfjklpgmnakcaaaGreatDoorBae8
import Derived.Test.YtfjklpgmnakcaaaGreatDoorBae10
import Derived.Test.YtfjklpgmnakcaaaGreatDoorBae13
import Derived.Test.YtfjklpgmnakcaaaGreatDoorBae17
import Derived.Test.YtfjklpgmnakcaaaGreatDoorBae18
import Derived.Test.YtfjklpgmnakcaaaGreatDoorBae19
import Derived.Test.YtfjklpgmnakcaaaGreatDoorBae21
set_option linter.unusedVariables false
set_option maxRecDepth 100000
set_option maxHeartbeats 16000000
namespace Go.Proofs.YtfjklpgmnakcaaaGreatDoor
structure BackS where
  ren : Int -> Int
  next : Int
  out : List Ed
def wasE (es : List En) (id : Int) : List Fld := match (findR es id).bind (es[·]?) with | some e => e.1.fields | none => []
def aheadZ (rs : List (Int × List Fld)) (id : Int) : Int := match rs.findIdx? fun s => s.1 == id with
  | some (k + 1) => ((rs[k]?).map Prod.fst).getD 0
  | _ => 0
def undoE (ren : Int -> Int) (l : LS) (ed : Ed) : Ed :=
  if ed.kind = 1 then ⟨1, ren ed.id, wasE l.es ed.id⟩ else if ed.kind = 2 then ⟨3, ren (aheadZ (szE l.es) ed.id), wasE l.es ed.id⟩ else ⟨2, ren l.next, []⟩
def updR (ren : Int -> Int) (id n : Int) : Int -> Int := fun i => if i = id then n else ren i
def backStep (l : LS) (ed : Ed) (s : BackS) : BackS := ⟨if ed.kind = 2 then updR s.ren ed.id s.next else s.ren, if ed.kind = 2 then s.next + 1 else s.next, s.out ++ [undoE s.ren l ed]⟩
def backAt (l : LS) (eds : List Ed) : Nat -> BackS
  | 0 => ⟨fun i => i, (lsOn l eds).next, []⟩
  | i + 1 => match eds[eds.length - 1 - i]? with
    | some ed => backStep (lsOn l (eds.take (eds.length - 1 - i))) ed (backAt l eds i)
    | none => backAt l eds i
def backB (l : LS) (eds : List Ed) : List Ed := (backAt l eds eds.length).out
def mapR (ren : Int -> Int) (rs : List (Int × List Fld)) : List (Int × List Fld) := rs.map fun s => (ren s.1, s.2)
theorem mapR_append (ren : Int -> Int) (a b : List (Int × List Fld)) : mapR ren (a ++ b) = mapR ren a ++ mapR ren b := List.map_append
theorem mapR_upd {ren : Int -> Int} {id n : Int} {rs : List (Int × List Fld)} (h : id ∉ rs.map Prod.fst) : mapR (updR ren id n) rs = mapR ren rs := by
  unfold mapR
  refine List.map_congr_left fun s hs => ?_
  have : s.1 ≠ id := fun q => h (by rw [<- q]; exact List.mem_map_of_mem hs)
  show (updR ren id n s.1, s.2) = _
  unfold updR
  rw [if_neg this]
theorem was_found {es : List En} {id : Int} {k : Nat} {e : En} (h : findR es id = some k) (he : es[k]? = some e) : wasE es id = e.1.fields := by unfold wasE; rw [h]; simp [he]
theorem ahead_first {a : List (Int × List Fld)} {s : Int × List Fld} {b : List (Int × List Fld)} (h : s.1 ∉ a.map Prod.fst) : (a ++ s :: b).findIdx? (fun x => x.1 == s.1) = some a.length := by
  rw [List.findIdx?_append]
  have : a.findIdx? (fun x => x.1 == s.1) = none := by
    rw [List.findIdx?_eq_none_iff]
    intro x hx
    have : x.1 ≠ s.1 := fun q => h (by rw [<- q]; exact List.mem_map_of_mem hx)
    exact beq_eq_false_iff_ne.2 this
  rw [this]
  simp [List.findIdx?_cons]
structure Undo (l1 : LS) (ed : Ed) (ren : Int -> Int) (m : LS) : Prop where
  good : goodE (undoE ren l1 ed) = 0
  ok : (stepE m (undoE ren l1 ed)).bad = 0
  next : (stepE m (undoE ren l1 ed)).ls.next = if ed.kind = 2 then m.next + 1 else m.next
  sz : szE (stepE m (undoE ren l1 ed)).ls.es = mapR (if ed.kind = 2 then updR ren ed.id m.next else ren) (szE l1.es)
  zero : (if ed.kind = 2 then updR ren ed.id m.next else ren) 0 = 0
theorem undo_step {l1 m : LS} {ed : Ed} {ren : Int -> Int} (ok1 : OkL l1) (gk1 : GkL l1.es) (okm : OkL m) (hk : ed.kind = 1 \/ ed.kind = 2 \/ ed.kind = 3) (h0 : (stepE l1 ed).bad = 0) (hz : ren 0 = 0) (hs : szE m.es = mapR ren (szE (stepE l1 ed).ls.es)) : Undo l1 ed ren m := by
  rcases hk with hk | hk | hk
  . -- a replacing one
    have e1 : stepE l1 ed = replaceR l1 ed.id ed.fields := by unfold stepE editR; rw [if_pos hk]
    rw [e1] at h0 hs
    unfold replaceR at h0 hs
    cases hf : findR l1.es ed.id with
    | none => rw [hf] at h0; cases h0
    | some k =>
    rw [hf] at h0 hs
    dsimp only at h0 hs
    by_cases hc : chkN ed.fields = 0
    . rw [if_pos hc] at hs
      dsimp only at hs
      obtain ⟨e, he, h3, h2⟩ := findR_stz ok1.wf hf
      have hp : 0 < e.2 := by rcases ok1.wf e (List.mem_of_getElem? he) with q | q
                              . exact q.2
                              exact absurd h3 q.1
      rw [sz_set he hp, mapR_append] at hs
      have hs' : szE m.es = mapR ren (szE (l1.es.take k)) ++ (ren e.2, (itemOf ed.fields).fields) :: mapR ren (szE (l1.es.drop (k + 1))) := hs
      obtain ⟨k', e', f1, f2, f3, f4, f5, f6, f7⟩ := sz_find okm hs'
      have hw := was_found hf he
      have hg : chkN e.1.fields = 0 := gk1 e (List.mem_of_getElem? he) h3
      have eu : undoE ren l1 ed = ⟨1, ren ed.id, e.1.fields⟩ := by unfold undoE; rw [if_pos hk, hw]
      rw [<- h2] at eu
      have es : stepE m (undoE ren l1 ed) = ⟨⟨setE m.es k' (itemOf e.1.fields), m.next⟩, -9, 0, 0⟩ := by
        rw [eu]
        show replaceR m (ren e.2) e.1.fields = _
        unfold replaceR
        rw [show findR m.es (ren e.2) = some k' from f1]
        dsimp only
        rw [if_pos hg]
      have hp' : 0 < e'.2 := by
        rcases okm.wf e' (List.mem_of_getElem? f2) with q | q
        . exact q.2
        exact absurd f3 q.1
      have n2 : ¬ ed.kind = 2 := by omega
      refine ⟨by rw [eu]; unfold goodE; rw [if_pos (.inl rfl)]; exact hg, by rw [es], by rw [es, if_neg n2], ?_, by rw [if_neg n2]; exact hz⟩
      rw [es, if_neg n2]
      show szE (setE m.es k' (itemOf e.1.fields)) = _
      rw [sz_set f2 hp', f6, f7, f4, sz_at he hp, mapR_append]
      rfl
    rw [if_neg hc] at h0; exact absurd h0 hc
  . -- a deleting one
    have e1 : stepE l1 ed = deleteR l1 ed.id := by unfold stepE editR; rw [if_neg (by omega), if_pos hk]
    rw [e1] at h0 hs
    unfold deleteR at h0 hs
    cases hf : findR l1.es ed.id with
    | none => rw [hf] at h0; cases h0
    | some k =>
    rw [hf] at hs
    dsimp only at hs
    obtain ⟨e, he, h3, h2⟩ := findR_stz ok1.wf hf
    have hp : 0 < e.2 := by
      rcases ok1.wf e (List.mem_of_getElem? he) with q | q
      . exact q.2
      exact absurd h3 q.1
    have hat := sz_at he hp
    rw [sz_cut, mapR_append] at hs
    have hg : chkN e.1.fields = 0 := gk1 e (List.mem_of_getElem? he) h3
    have hw := was_found hf he
    have hnd : ((szE l1.es).map Prod.fst).Nodup := by rw [szE_nums]; exact ok1.nd
    have hlen := szE_len m.es
    have hlen1 := szE_len l1.es
    have hl400 := ok1.len
    rw [hat] at hnd hlen1
    rw [hs] at hlen
    generalize szE (l1.es.take k) = A at *
    generalize szE (l1.es.drop (k + 1)) = Bz at *
    rw [List.map_append, List.map_cons] at hnd
    have hA : e.2 ∉ A.map Prod.fst := fun q => (List.nodup_append.1 hnd).2.2 _ q _ List.mem_cons_self rfl
    have hB : e.2 ∉ Bz.map Prod.fst := (List.nodup_cons.1 (List.nodup_append.1 hnd).2.1).1
    have hfull : ¬ 400 <= lenR m.es := by
      rw [<- hlen]
      rw [List.length_append, List.length_cons] at hlen1
      unfold mapR
      rw [List.length_append, List.length_map, List.length_map]
      omega
    have hfi := ahead_first (b := Bz) (s := (e.2, e.1.fields)) hA
    have n1 : ¬ ed.kind = 1 := by omega
    have h02 : updR ren ed.id m.next 0 = 0 := by unfold updR; rw [if_neg (by omega)]; exact hz
    have goal : mapR (updR ren ed.id m.next) (A ++ (e.2, e.1.fields) :: Bz) = mapR ren A ++ (m.next, e.1.fields) :: mapR ren Bz := by
      rw [mapR_append]
      show _ ++ (updR ren ed.id m.next e.2, e.1.fields) :: mapR (updR ren ed.id m.next) Bz = _
      rw [<- h2, mapR_upd hA, mapR_upd hB]
      unfold updR
      rw [if_pos rfl]
    rcases List.eq_nil_or_concat A with hA0 | ⟨A', a, hA1⟩
    . subst hA0
      have ea : aheadZ (szE l1.es) ed.id = 0 := by
        unfold aheadZ
        rw [hat, <- h2, hfi]
        rfl
      have eu : undoE ren l1 ed = ⟨3, 0, e.1.fields⟩ := by unfold undoE; rw [if_neg n1, if_pos hk, ea, hw, hz]
      have es : stepE m (undoE ren l1 ed) = ⟨⟨putE m.es 0 (itemOf e.1.fields, m.next), m.next + 1⟩, -9, 0, m.next⟩ := by
        rw [eu]
        show insertR m 0 e.1.fields = _
        unfold insertR gapR
        rw [if_pos rfl]
        dsimp only
        rw [if_pos hg, if_neg hfull]
      refine ⟨by rw [eu]; unfold goodE; rw [if_pos (.inr rfl)]; exact hg, by rw [es], by rw [es, if_pos hk], ?_, by rw [if_pos hk]; exact h02⟩
      rw [es, if_pos hk, hat, goal]
      show szE (putE m.es 0 (itemOf e.1.fields, m.next)) = _
      rw [sz_put _ _ okm.pos, List.drop_zero, hs]
      rfl
    rw [List.concat_eq_append] at hA1
    subst hA1
    have ea : aheadZ (szE l1.es) ed.id = a.1 := by
      unfold aheadZ
      rw [hat, <- h2, hfi, List.length_append]
      show (((A' ++ [a] ++ (e.2, e.1.fields) :: Bz)[A'.length]?).map Prod.fst).getD 0 = a.1
      rw [List.append_assoc, List.getElem?_append_right (Nat.le_refl _)]
      simp
    have hs' : szE m.es = mapR ren A' ++ (ren a.1, a.2) :: mapR ren Bz := by
      rw [hs, mapR_append, List.append_assoc]; rfl
    obtain ⟨k', e', f1, f2, f3, f4, f5, f6, f7⟩ := sz_find okm hs'
    have hp' : 0 < e'.2 := by
      rcases okm.wf e' (List.mem_of_getElem? f2) with q | q
      . exact q.2
      exact absurd f3 q.1
    have f4' : e'.2 = ren a.1 := f4
    have eu : undoE ren l1 ed = ⟨3, ren a.1, e.1.fields⟩ := by unfold undoE; rw [if_neg n1, if_pos hk, ea, hw]
    have es : stepE m (undoE ren l1 ed) = ⟨⟨putE m.es (k' + 1) (itemOf e.1.fields, m.next), m.next + 1⟩, -9, 0, m.next⟩ := by
      rw [eu]
      show insertR m (ren a.1) e.1.fields = _
      unfold insertR gapR
      rw [if_neg (by omega), show findR m.es (ren a.1) = some k' from f1]
      show (if chkN e.1.fields = 0 then (if 400 <= lenR m.es then _ else _) else _) = _
      rw [if_pos hg, if_neg hfull]
    refine ⟨by rw [eu]; unfold goodE; rw [if_pos (.inr rfl)]; exact hg, by rw [es], by rw [es, if_pos hk], ?_, by rw [if_pos hk]; exact h02⟩
    rw [es, if_pos hk, hat, goal]
    show szE (putE m.es (k' + 1) (itemOf e.1.fields, m.next)) = _
    rw [sz_put _ _ okm.pos, List.take_add_one, f2]
    show szE (m.es.take k' ++ [e']) ++ (m.next, e.1.fields) :: szE (m.es.drop (k' + 1)) = _
    rw [szE_append, f6, f7, szE_cons hp', f4, show e'.1.fields = a.2 from f5, mapR_append]
    rfl
  -- an inserting one
  have e1 : stepE l1 ed = insertR l1 ed.id ed.fields := by unfold stepE editR; rw [if_neg (by omega), if_neg (by omega)]
  rw [e1] at h0 hs
  unfold insertR at h0 hs
  cases hf : gapR l1.es ed.id with
  | none => rw [hf] at h0; cases h0
  | some k =>
  rw [hf] at h0 hs
  dsimp only at h0 hs
  by_cases hc : chkN ed.fields = 0
  . rw [if_pos hc] at h0 hs
    by_cases hfull : 400 <= lenR l1.es
    . rw [if_pos hfull] at h0; cases h0
    rw [if_neg hfull] at hs
    dsimp only at hs
    rw [sz_put _ _ ok1.pos, mapR_append] at hs
    have hs' : szE m.es = mapR ren (szE (l1.es.take k)) ++ (ren l1.next, ed.fields) :: mapR ren (szE (l1.es.drop k)) := hs
    obtain ⟨k', e', f1, f2, f3, f4, f5, f6, f7⟩ := sz_find okm hs'
    have n1 : ¬ ed.kind = 1 := by omega
    have n2 : ¬ ed.kind = 2 := by omega
    have eu : undoE ren l1 ed = ⟨2, ren l1.next, []⟩ := by unfold undoE; rw [if_neg n1, if_neg n2]
    have es : stepE m (undoE ren l1 ed) = ⟨⟨cutE m.es k', m.next⟩, -9, 0, 0⟩ := by
      rw [eu]
      show deleteR m (ren l1.next) = _
      unfold deleteR
      rw [show findR m.es (ren l1.next) = some k' from f1]
    refine ⟨by rw [eu]; rfl, by rw [es], by rw [es, if_neg n2], ?_, by rw [if_neg n2]; exact hz⟩
    rw [es, if_neg n2]
    show szE (cutE m.es k') = _
    rw [sz_cut, f6, f7, <- mapR_append, <- szE_append, List.take_append_drop]
  rw [if_neg hc] at h0; exact absurd h0 hc
structure Undone (l : LS) (eds : List Ed) (i : Nat) : Prop where
  len : (backAt l eds i).out.length = i
  good : ∀ x ∈ (backAt l eds i).out, goodE x = 0
  ok : okOn (lsOn l eds) (backAt l eds i).out
  next : (lsOn (lsOn l eds) (backAt l eds i).out).next = (backAt l eds i).next
  sz : szE (lsOn (lsOn l eds) (backAt l eds i).out).es = mapR (backAt l eds i).ren (szE (lsOn l (eds.take (eds.length - i))).es)
  zero : (backAt l eds i).ren 0 = 0
theorem okOn_get : ∀ {l : LS} {eds : List Ed} {k : Nat} {ed : Ed}, okOn l eds -> eds[k]? = some ed -> (stepE (lsOn l (eds.take k)) ed).bad = 0
  | l, [], k, ed, _, h => by simp at h
  | l, a :: r, 0, ed, ho, h => by simp at h; subst h; exact ho.1
  | l, a :: r, k + 1, ed, ho, h => okOn_get (l := (stepE l a).ls) (eds := r) ho.2 (by simpa using h)
theorem undone_at {l : LS} {eds : List Ed} (okl : OkL l) (gk : GkL l.es) (ho : okOn l eds) (hg : ∀ x ∈ eds, goodE x = 0) : ∀ i, i <= eds.length -> Undone l eds i := by
  intro i
  induction i with
  | zero =>
    intro _
    refine ⟨rfl, fun x hx => (by cases hx), trivial, rfl, ?_, rfl⟩
    show szE (lsOn l eds).es = mapR (fun i => i) (szE (lsOn l (eds.take (eds.length - 0))).es)
    rw [Nat.sub_zero, List.take_length]
    unfold mapR
    simp
  | succ i ih =>
  intro hi
  obtain ⟨u1, u2, u3, u4, u5, u6⟩ := ih (by omega)
  obtain ⟨ed, hed⟩ : ∃ ed, eds[eds.length - 1 - i]? = some ed := ⟨_, List.getElem?_eq_getElem (by omega)⟩
  have eb : backAt l eds (i + 1) = backStep (lsOn l (eds.take (eds.length - 1 - i))) ed (backAt l eds i) := by
    show (match eds[eds.length - 1 - i]? with | some ed => backStep (lsOn l (eds.take (eds.length - 1 - i))) ed (backAt l eds i) | none => backAt l eds i) = _
    rw [hed]
  have ej : eds.length - i = eds.length - 1 - i + 1 := by omega
  rw [ej, lsOn_snoc hed] at u5
  have un := undo_step (ren := (backAt l eds i).ren) (okl.on (eds.take (eds.length - 1 - i))) (gk.on (eds.take (eds.length - 1 - i))) ((okl.on eds).on (backAt l eds i).out) (goodE_kind (hg ed (List.mem_of_getElem? hed))) (okOn_get ho hed) u6 u5
  have ek : eds.length - (i + 1) = eds.length - 1 - i := by omega
  have eo : (backAt l eds (i + 1)).out = (backAt l eds i).out ++ [undoE (backAt l eds i).ren (lsOn l (eds.take (eds.length - 1 - i))) ed] := by rw [eb]; rfl
  have er : (backAt l eds (i + 1)).ren = if ed.kind = 2 then updR (backAt l eds i).ren ed.id (backAt l eds i).next else (backAt l eds i).ren := by rw [eb]; rfl
  have en : (backAt l eds (i + 1)).next = if ed.kind = 2 then (backAt l eds i).next + 1 else (backAt l eds i).next := by rw [eb]; rfl
  have el : lsOn (lsOn l eds) (backAt l eds (i + 1)).out = (stepE (lsOn (lsOn l eds) (backAt l eds i).out) (undoE (backAt l eds i).ren (lsOn l (eds.take (eds.length - 1 - i))) ed)).ls := by rw [eo, lsOn_append]; rfl
  refine ⟨by rw [eo, List.length_append, u1]; rfl, fun x hx => ?_, ?_, ?_, ?_, ?_⟩
  . rw [eo] at hx
    rcases List.mem_append.1 hx with hx | hx
    . exact u2 x hx
    rw [List.mem_singleton.1 hx]; exact un.good
  . rw [eo, okOn_append]
    exact ⟨u3, un.ok, trivial⟩
  . rw [el, en, un.next, u4]
  . rw [ek, el, er, un.sz, u4]
  rw [er, <- u4]; exact un.zero
theorem back_is {l : LS} {eds : List Ed} (okl : OkL l) (gk : GkL l.es) (h : doB l eds = (-9, 0)) (hc : chkB eds = (-9, 0)) :
    chkB (backB l eds) = (-9, 0) /\ okOn (lsOn l eds) (backB l eds) /\ (szE (lsOn (lsOn l eds) (backB l eds)).es).map Prod.snd = (szE l.es).map Prod.snd := by
  obtain ⟨⟨c1, c2⟩, c3⟩ := chkB_good (eds := eds) (by rw [hc])
  have ho : okOn l eds := doOn_zero 0 l eds (by unfold doB at h; rw [hc] at h; rw [show doOn 0 l eds = (-9, 0) from h])
  obtain ⟨u1, u2, u3, u4, u5, u6⟩ := undone_at okl gk ho c3 eds.length (Nat.le_refl _)
  refine ⟨chkB_of (by unfold backB; rw [u1]; exact c1) (by unfold backB; rw [u1]; exact c2) u2, u3, ?_⟩
  rw [Nat.sub_self, List.take_zero] at u5
  show (szE (lsOn (lsOn l eds) (backAt l eds eds.length).out).es).map Prod.snd = _
  rw [u5]
  unfold mapR
  rw [List.map_map]
  rfl
end Go.Proofs.YtfjklpgmnakcaaaGreatDoor
namespace Go.Proofs.YtfjklpgmnakcaaaGreatDoor
open Go.RowKit Go.Shelf
attribute [local go_sem] Oper.semAt_some
theorem stzL_sz {ps : List Pr} (h : WF (ps.map Prod.fst)) : stzL (stzP 0 ps) = szE (ps.map Prod.fst) := by
  have e1 := stzG_map (κ := fun e : En => e.1.kind) (Prod.fst : Pr -> En) 0 ps
  have e2 := stz_filter 0 (ps.map Prod.fst) h
  unfold szE
  rw [<- e2]
  show List.map _ (stzP 0 ps) = List.map _ (List.map Prod.snd (stzG (fun e : En => e.1.kind) 0 (ps.map Prod.fst)))
  rw [<- e1, List.map_map, List.map_map]
  rfl
theorem placeP_sz {ps : List Pr} (h : WF (ps.map Prod.fst)) (id : Int) : placeP ps id = match (szE (ps.map Prod.fst)).findIdx? fun s => s.1 == id with | none => -1 | some k => (k : Nat) := by
  rw [<- stzL_sz h]
  unfold placeP stzL
  rw [List.findIdx?_map]
  rfl
theorem ret_step {fn : Func} {p : Tmp} (h : fn.results = #[.cell p 65]) (tmps : Array Value) (w : World) (b : Nat) (cur : Array Value) (hp : tmps.getD p undef = .pointer (some ⟨b, 0, none⟩))
    (hc : Cells w b 65 cur) (hz : cur.size = 6) : (results fn tmps).run Tryz.prog w = .ok (.agg cur) w := by
  have L := run_loadVar_row (P := Tryz.prog) w b 65 65 cur (0, 0) _ hc Tryz.underlying65 rfl (by rw [hz]; kernel_rfl)
  rw [results_cell1 h, hp]
  show (loadVar _ _).run _ _ = _
  exact L
theorem Carry.plen {S0 : Nat} {w : World} {lb : Nat} {ev : Value} {ps : List Pr} {l : LS} {m : Nat} (h : Carry S0 w lb ev ps l m) : ps.length <= m := by have := h.len; rw [<- h.es, List.length_map] at this; exact this
theorem aheadZ_none {rs : List (Int × List Fld)} {id : Int} (h : rs.findIdx? (fun s => s.1 == id) = none) : aheadZ rs id = 0 := by unfold aheadZ; rw [h]
theorem aheadZ_zero {rs : List (Int × List Fld)} {id : Int} (h : rs.findIdx? (fun s => s.1 == id) = some 0) : aheadZ rs id = 0 := by unfold aheadZ; rw [h]
theorem aheadZ_succ {rs : List (Int × List Fld)} {id : Int} {k : Nat} {s : Int × List Fld} (h : rs.findIdx? (fun s => s.1 == id) = some (k + 1)) (hs : rs[k]? = some s) : aheadZ rs id = s.1 := by unfold aheadZ; rw [h]; simp [hs]
theorem ahead_any {S0 : Nat} {w : World} {lb : Nat} {ev : Value} {ps : List Pr} {l : LS} {m : Nat} (C : Carry S0 w lb ev ps l m) (hm : m <= 10000) (id : Int) :
    Calls Tryz.prog 44 #[ptr lb, .int .i64 id] w fun e w' => e = .returned (.int .i64 (aheadZ (szE l.es) id)) /\ Below w.heap.size w w' := by
  have hl := C.plen
  have PL := place_gen ps ev (some ⟨lb, 0, none⟩) id w (fun W hW => AllR.of (C.la.lr.below hW (Nat.le_refl _))) (by omega)
  rw [placeP_sz C.wf, C.es] at PL
  have hrs : stzL (stzP 0 ps) = szE l.es := by rw [stzL_sz C.wf, C.es]
  have ST : Hid (∀ W, Below w.heap.size w W -> Calls Tryz.prog 14 #[ptr lb] W fun e w' => ∃ u fvs, e = .returned u /\ AccZ W.heap.size W w' u fvs (szE l.es)) := by
    intro W hW
    have := stanzas_gen ps ev (some ⟨lb, 0, none⟩) W (fun W' hW' => AllR.of ((C.la.lr.below hW (Nat.le_refl _)).below hW' (Nat.le_refl _))) ((C.below hW (Nat.le_refl _)).ents hm)
    rw [hrs] at this
    exact this
  have hlen : (szE l.es).length <= 400 := by rw [szE_len]; exact C.ok.len
  unfold ptr at *
  cases hf : (szE l.es).findIdx? (fun s => s.1 == id) with
  | none =>
    rw [hf] at PL
    rw [aheadZ_none hf]
    have PL := Lib.hid PL
    clear C hrs ST hf
    go_enter Tryz.func44, Tryz.ntmps44
    go_wp2_with fail
    refine PL.out.mono ?_
    rintro e w1 ⟨rfl, b1⟩
    go_wp2_with fail
    go_ret
    exact ⟨rfl, b1⟩
  | some k =>
  rw [hf] at PL
  cases k with
  | zero =>
    rw [aheadZ_zero hf]
    have PL := Lib.hid PL
    clear C hrs ST hf
    go_enter Tryz.func44, Tryz.ntmps44
    go_wp2_with fail
    refine PL.out.mono ?_
    rintro e w1 ⟨rfl, b1⟩
    go_wp2_with fail
    go_ret
    exact ⟨rfl, b1⟩
  | succ k =>
  have hk := (List.findIdx?_eq_some_iff_getElem.1 hf).1
  obtain ⟨s, hs⟩ : ∃ s, (szE l.es)[k]? = some s := ⟨_, List.getElem?_eq_getElem (by omega)⟩
  rw [aheadZ_succ hf hs]
  have PL := Lib.hid PL
  have HS := Lib.hid hs
  have c1 : decide ((k : Int) + 1 < 1) = false := by simp; omega
  have hwr : IntKind.i64.wrap ((k : Int) + 1 - 1) = (k : Int) := by
    rw [show ((k : Int) + 1 - 1) = (k : Int) by omega]
    exact IntWalk.i64_in _ (by omega)
  have hwr2 : IntKind.i64.wrap (k : Int) = (k : Int) := IntWalk.i64_in _ (by omega)
  clear C hrs hf hs
  go_enter Tryz.func44, Tryz.ntmps44
  go_wp2_with fail
  refine PL.out.mono ?_
  rintro e w1 ⟨rfl, b1⟩
  have S1 := Lib.hid (ST.out w1 b1)
  have B1 := Lib.hid b1
  clear ST b1 PL
  go_wp2_with fail
  refine S1.out.mono ?_
  rintro e w2 ⟨u, fvs, rfl, acc⟩
  have B2 := Lib.hid (B1.out.trans (acc.below.mono B1.out.size))
  obtain ⟨f, hfv⟩ : ∃ f, fvs[k]? = some f := ⟨_, List.getElem?_eq_getElem (by rw [acc.len]; omega)⟩
  have hat := (stzCells_at _ fvs k s f HS.out hfv).1
  obtain ⟨g, cap, rfl, hcell⟩ : ∃ g cap, u = .slice (some ⟨g, 0, none⟩) (szE l.es).length cap /\ w2.cell? ⟨g, k * 2, none⟩ = some (.int .i64 s.1) := by
    have hrow := acc.row
    obtain ⟨g, cap, hug⟩ := Joins.ownsRow_form hrow (by omega)
    rw [hug] at hrow
    exact ⟨g, cap, hug, by rw [World.ownsRow.cellAt hrow (k * 2) (by omega), hat]⟩
  have hkl : k < (szE l.es).length := by omega
  clear acc hat hfv S1 HS
  generalize (szE l.es).length = len at *
  go_wp2_with fail
  go_ret
  exact ⟨rfl, B2.out⟩
end Go.Proofs.YtfjklpgmnakcaaaGreatDoor
namespace Go.Proofs.YtfjklpgmnakcaaaGreatDoor
open Go.RowKit Go.Shelf
attribute [local go_sem] Oper.semAt_some
theorem edv_row {lo : Nat} {w : World} {v : Value} {eds : List Ed} {fvs : List Value} (row : w.ownsRow lo 53 3 v eds.length (edRow eds fvs)) (len : fvs.length = eds.length) (each : ∀ (i : Nat) ed fv, eds[i]? = some ed -> fvs[i]? = some fv -> FldR w fv ed.fields) : EdV w v eds := by
  by_cases h0 : eds = []
  . subst h0
    obtain ⟨A, c, rfl, hle⟩ := own_slice row
    exact ⟨A, c, rfl, hle, fun i ed hi => by simp at hi⟩
  have hn : eds.length ≠ 0 := fun e => h0 (List.length_eq_zero_iff.1 e)
  have hrow := row
  obtain ⟨g, cap, hug⟩ := Joins.ownsRow_form hrow (by omega)
  have hle : eds.length <= cap := by
    obtain ⟨A, c, e, hle⟩ := own_slice row
    rw [hug] at e; cases e; exact hle
  rw [hug] at hrow
  refine ⟨_, cap, hug, hle, fun i ed hi => ?_⟩
  have hil := (List.getElem?_eq_some_iff.1 hi).1
  obtain ⟨fv, hfv⟩ : ∃ fv, fvs[i]? = some fv := ⟨_, List.getElem?_eq_getElem (by rw [len]; exact hil)⟩
  obtain ⟨a0, a1, a2⟩ := edRow_at eds fvs i ed fv hi hfv
  refine ⟨g, 0, fv, rfl, (hrow.lt g rfl).2, ?_, ?_, ?_, each i ed fv hi hfv⟩
  . rw [Nat.zero_add, World.ownsRow.cellAt hrow (i * 3) (by omega), a0]
  . rw [Nat.zero_add, World.ownsRow.cellAt hrow (i * 3 + 1) (by omega), a1]
  rw [Nat.zero_add, World.ownsRow.cellAt hrow (i * 3 + 1 + 1) (by omega), a2]
theorem carry_stanzas {S0 : Nat} {w : World} {lb : Nat} {ev : Value} {ps : List Pr} {l : LS} {m : Nat} (C : Carry S0 w lb ev ps l m) (hm : m <= 10000) :
    Calls Tryz.prog 14 #[ptr lb] w fun e w' => ∃ u, e = .returned u /\ Szs w' u (szE l.es) /\ Below w.heap.size w w' := by
  refine (stanzas_gen ps ev (some ⟨lb, 0, none⟩) w (fun W hW => AllR.of (C.la.lr.below hW (Nat.le_refl _))) (C.ents hm)).mono ?_
  rintro e w' ⟨u, fvs, rfl, acc⟩
  have hz := acc.szs
  rw [stzL_sz C.wf, C.es] at hz
  exact ⟨u, rfl, hz, acc.below⟩
theorem carry_small {S0 : Nat} {w : World} {lb : Nat} {ev : Value} {ps : List Pr} {l : LS} {m : Nat} (C : Carry S0 w lb ev ps l m) : (szE l.es).length <= 1000000 /\ ∀ s ∈ szE l.es, s.2.length <= 1000000 := by
  refine ⟨by rw [szE_len]; have := C.ok.len; omega, fun s hs => ?_⟩
  unfold szE at hs
  obtain ⟨e, he, rfl⟩ := List.mem_map.1 hs
  exact (C.sz e (List.mem_filter.1 he).1).2
end Go.Proofs.YtfjklpgmnakcaaaGreatDoor
namespace Go.Proofs.YtfjklpgmnakcaaaGreatDoor
open Go.RowKit Go.Shelf
attribute [local go_sem] Oper.semAt_some
theorem WrQ.end2 {w wa w1 : World} {v v' x : Value} {ps ps' : List Pr} {es : List En} {fs : List Fld} {b : Nat} (h : WrQ wa v ps x es w1 v' ps') (hb : Below w.heap.size w wa) (hq : EntsQ w v ps) (hx : Flds w x fs) (hb1 : w.heap.size <= b) (hb2 : b < wa.heap.size) (o : Obj) (u0 u1 : Value) :
    WrQ w v ps x es (((w1.alloc o).setCell ⟨b, 0, none⟩ u0).setCell ⟨b, 1, none⟩ u1) v' ps' := by
  have h1 := h.from hb
  have b2 : Below w1.heap.size w1 (w1.alloc o) := (Below.refl _ w1).alloc (Nat.le_refl _) _
  have o2 : Only (· = b) w1 (((w1.alloc o).setCell ⟨b, 0, none⟩ u0).setCell ⟨b, 1, none⟩ u1) := ((Only.of_below (S := (· = b)) b2 (Nat.le_refl _)).cellS 0 u0).cellS 1 u1
  refine ⟨h1.ents.only o2 (fun r e q => ?_) (fun p hp hne r e q => ?_), h1.es, ?_, h1.blk, h1.mem⟩
  . rcases h.blk with k | k
    . rw [k] at e; have := (hq.row.lt r e).2; omega
    have := k r e; omega
  . rcases h1.mem p hp with k | k
    . have := (hq.each p k).lt hne r e; omega
    have hf : fs ≠ [] := by
      intro e0
      obtain ⟨A, c, e1, _⟩ := h1.ents.each p hp
      obtain ⟨A2, c2, e2, _⟩ := hx
      rw [k, e2] at e1
      injection e1 with _ e3 _
      rw [e0] at e3
      exact hne (List.length_eq_zero_iff.1 e3.symm)
    rw [k] at e
    have := hx.lt hf r e; omega
  exact h1.below.trans (o2.to_below h1.below.size (fun r hr e => by omega))
theorem refOne_any (qs : List Pr) (v fv : Value) (nx : Int) (ed : Ed) (w : World) (h : EntsQ w v qs) (hqs : qs.length <= 1000000) (hnx : -1000000 <= nx /\ nx <= 1000000) (hx : Flds w fv ed.fields) (hf : Fine7 ed.fields) :
    Calls Tryz.prog 27 #[.agg #[v, .int .i64 nx], .agg #[.int .i64 ed.kind, .int .i64 ed.id, fv]] w fun e w' => ∃ v' qs' x, e = .returned (.tuple #[.agg #[v', .int .i64 (stepE ⟨qs.map Prod.fst, nx⟩ ed).ls.next], .int .i64 (stepE ⟨qs.map Prod.fst, nx⟩ ed).id, .int .i64 (stepE ⟨qs.map Prod.fst, nx⟩ ed).bad]) /\ WrQ w v qs x (stepE ⟨qs.map Prod.fst, nx⟩ ed).ls.es w' v' qs' /\ (x = fv \/ x = .slice none 0 0) := by
  obtain ⟨va, vc, rfl, _⟩ := h.empty
  obtain ⟨fa, fc, rfl, _, _⟩ := _root_.id hx
  obtain ⟨wa, hwa⟩ : ∃ wa, wa = ((w.alloc (.cells #[.slice va qs.length vc, .int .i64 nx] 28)).alloc (.cells #[.int .i64 ed.kind, .int .i64 ed.id, .slice fa ed.fields.length fc] 53)).alloc (.cells #[.slice none 0 0, .int .i64 0] 28) := ⟨_, rfl⟩
  have hba : Below w.heap.size w wa := by rw [hwa]; exact (((Below.refl _ w).alloc (Nat.le_refl _) _).alloc (by simp) _).alloc (by simp; omega) _
  have hza : wa.heap.size = w.heap.size + 3 := by rw [hwa]; simp
  have c4 : Cells wa (w.heap.size + 1 + 1) 28 #[.slice none 0 0, .int .i64 0] := by
    rw [hwa]
    have := (Cells.new ((w.alloc (.cells #[.slice va qs.length vc, .int .i64 nx] 28)).alloc (.cells #[.int .i64 ed.kind, .int .i64 ed.id, .slice fa ed.fields.length fc] 53)) 28 #[.slice none 0 0, .int .i64 0])
    simp only [World.size_alloc] at this
    exact this
  have hqa := h.below hba (Nat.le_refl _)
  have hxa := hx.below hba (Nat.le_refl _)
  have FIN : Hid (∀ (w1 : World) (v' x : Value) (qs' : List Pr) (es : List En) (n : Int) (fs : List Fld), WrQ wa (.slice va qs.length vc) qs x es w1 v' qs' -> Flds w x fs ->
      WrQ w (.slice va qs.length vc) qs x es (((w1.alloc (.cells #[v', .int .i64 n] 28)).setCell ⟨w.heap.size + 1 + 1, 0, none⟩ v').setCell ⟨w.heap.size + 1 + 1, 1, none⟩ (.int .i64 n)) v' qs' /\ Cells (((w1.alloc (.cells #[v', .int .i64 n] 28)).setCell ⟨w.heap.size + 1 + 1, 0, none⟩ v').setCell ⟨w.heap.size + 1 + 1, 1, none⟩ (.int .i64 n)) (w.heap.size + 1 + 1) 28 #[v', .int .i64 n] /\
      (w1.alloc (.cells #[v', .int .i64 n] 28)).cell? ⟨w.heap.size + 1 + 1, 0, none⟩ = some (.slice none 0 0) /\ (w1.alloc (.cells #[v', .int .i64 n] 28)).cell? ⟨w.heap.size + 1 + 1, 1, none⟩ = some (.int .i64 0) /\ (w1.alloc (.cells #[v', .int .i64 n] 28)).frozen? ⟨w.heap.size + 1 + 1, 0, none⟩ = false /\ (w1.alloc (.cells #[v', .int .i64 n] 28)).frozen? ⟨w.heap.size + 1 + 1, 1, none⟩ = false) := by
    intro w1 v' x qs' es n fs hW hxs
    have c1 := cells_kept c4 hW.below (by omega)
    have h3 := ((c1.alloc (.cells #[v', .int .i64 n] 28)).set 0 v').set 1 (.int .i64 n)
    rw [set2] at h3
    have c2 := c1.alloc (.cells #[v', .int .i64 n] 28)
    exact ⟨hW.end2 hba h hxs (by omega) (by omega) _ _ _, h3, by rw [c2.cell]; rfl, by rw [c2.cell]; rfl, c2.frozen 0, c2.frozen 1⟩
  have HX := Lib.hid hx
  have HN : Hid (Flds w (.slice none 0 0) []) := ⟨none, 0, rfl, Nat.le_refl _, fun i f h => by simp at h⟩
  have hl : (⟨qs.map Prod.fst, nx⟩ : LS) = ⟨qs.map Prod.fst, nx⟩ := rfl
  by_cases h1 : ed.kind = 1
  . have R := Lib.hid (refReplace_any qs (.slice va qs.length vc) (.slice fa ed.fields.length fc) nx ed.id ed.fields wa hqa hqs hxa hf)
    rw [stepE_1 _ h1, replaceR_id9]
    generalize replaceR ⟨qs.map Prod.fst, nx⟩ ed.id ed.fields = dd at *
    rw [h1] at hwa ⊢
    clear hba hza c4 hqa hxa h hx hl
    subst hwa
    go_enter Tryz.func27, Tryz.ntmps27
    go_wp2_with fail
    refine R.out.mono ?_
    rintro e w1 ⟨v', qs', rfl, hW⟩
    obtain ⟨f1, f2, k0, k1, m0, m1⟩ := FIN.out w1 v' _ qs' _ dd.ls.next ed.fields hW HX.out
    obtain ⟨xa, xc, rfl, _⟩ := f1.ents.empty
    have F1 := Lib.hid f1
    have F2 := Lib.hid f2
    clear hW f1 f2 FIN R
    go_wp2_with fail
    refine bodyPost_ret (ret_q3 rfl _ _ (w.heap.size + 1 + 1) _ rfl F2.out rfl) rfl ?_
    exact ⟨_, qs', _, rfl, F1.out, .inl rfl⟩
  have q1 : (ed.kind == 1) = false := by simpa using h1
  by_cases h2 : ed.kind = 2
  . have R := Lib.hid (refDelete_any qs (.slice va qs.length vc) nx ed.id wa hqa hqs)
    rw [stepE_2 _ h2, deleteR_id9]
    generalize deleteR ⟨qs.map Prod.fst, nx⟩ ed.id = dd at *
    rw [h2] at hwa ⊢
    clear hba hza c4 hqa hxa h hx hl q1
    subst hwa
    go_enter Tryz.func27, Tryz.ntmps27
    go_wp2_with fail
    refine R.out.mono ?_
    rintro e w1 ⟨v', qs', rfl, hW⟩
    obtain ⟨f1, f2, k0, k1, m0, m1⟩ := FIN.out w1 v' _ qs' _ dd.ls.next [] hW HN.out
    obtain ⟨xa, xc, rfl, _⟩ := f1.ents.empty
    have F1 := Lib.hid f1
    have F2 := Lib.hid f2
    clear hW f1 f2 FIN R
    go_wp2_with fail
    refine bodyPost_ret (ret_q3 rfl _ _ (w.heap.size + 1 + 1) _ rfl F2.out rfl) rfl ?_
    exact ⟨_, qs', _, rfl, F1.out, .inr rfl⟩
  have q2 : (ed.kind == 2) = false := by simpa using h2
  have R := Lib.hid (refInsert_any qs (.slice va qs.length vc) (.slice fa ed.fields.length fc) nx ed.id ed.fields wa hqa hqs hnx hxa hf)
  rw [stepE_3 _ h1 h2]
  generalize insertR ⟨qs.map Prod.fst, nx⟩ ed.id ed.fields = dd at *
  clear hba hza c4 hqa hxa h hx hl
  subst hwa
  go_enter Tryz.func27, Tryz.ntmps27
  go_wp2_with fail
  refine R.out.mono ?_
  rintro e w1 ⟨v', qs', rfl, hW⟩
  obtain ⟨f1, f2, k0, k1, m0, m1⟩ := FIN.out w1 v' _ qs' _ dd.ls.next ed.fields hW HX.out
  obtain ⟨xa, xc, rfl, _⟩ := f1.ents.empty
  have F1 := Lib.hid f1
  have F2 := Lib.hid f2
  clear hW f1 f2 FIN R
  go_wp2_with fail
  refine bodyPost_ret (ret_q3 rfl _ _ (w.heap.size + 1 + 1) _ rfl F2.out rfl) rfl ?_
  exact ⟨_, qs', _, rfl, F1.out, .inl rfl⟩
end Go.Proofs.YtfjklpgmnakcaaaGreatDoor
namespace Go.Proofs.YtfjklpgmnakcaaaGreatDoor
open Go.RowKit Go.Shelf
attribute [local go_sem] Oper.semAt_some
theorem refGood_any (ed : Ed) (fv : Value) (w : World) (h : Flds w fv ed.fields) (hf : Fine8 ed.fields) :
    Calls Tryz.prog 48 #[.agg #[.int .i64 ed.kind, .int .i64 ed.id, fv]] w fun e w' => e = .returned (.int .i64 (goodE ed : Nat)) /\ Below w.heap.size w w' := by
  obtain ⟨fa, fc, rfl, _, _⟩ := _root_.id h
  obtain ⟨wa, hwa⟩ : ∃ wa, wa = w.alloc (.cells #[.int .i64 ed.kind, .int .i64 ed.id, .slice fa ed.fields.length fc] 53) := ⟨_, rfl⟩
  have hba : Below w.heap.size w wa := by rw [hwa]; exact (Below.refl _ w).alloc (Nat.le_refl _) _
  have HC := Lib.hid (refChk_any ed.fields (.slice fa ed.fields.length fc) wa (h.below hba (Nat.le_refl _)) (by have := hf.len; omega) (fun f hm => by have := hf.each f hm; omega))
  have HB := Lib.hid hba
  have GE := Lib.hid (show goodE ed = if ed.kind = 1 \/ ed.kind = 3 then chkN ed.fields else if ed.kind = 2 /\ ed.fields.length = 0 then 0 else 2 from rfl)
  clear hba h
  generalize goodE ed = ge at *
  generalize chkN ed.fields = cn at *
  generalize chkAt ed.fields = ca at *
  generalize ed.fields.length = fl at *
  generalize ed.kind = kk at *
  generalize ed.id = ii at *
  by_cases hlo : kk < 1
  . have hg : ge = 2 := by rw [GE.out, if_neg (by omega), if_neg (by omega)]
    subst hg hwa
    go_enter Tryz.func48, Tryz.ntmps48
    go_wp2_with fail
    go_ret
    exact ⟨rfl, HB.out⟩
  by_cases hhi : 3 < kk
  . have hg : ge = 2 := by rw [GE.out, if_neg (by omega), if_neg (by omega)]
    subst hg hwa
    go_enter Tryz.func48, Tryz.ntmps48
    go_wp2_with fail
    go_ret
    exact ⟨rfl, HB.out⟩
  by_cases h2 : kk = 2
  . subst h2
    by_cases h0 : fl = 0
    . have hg : ge = 0 := by rw [GE.out, if_neg (by omega), if_pos ⟨rfl, h0⟩]
      subst hg h0 hwa
      go_enter Tryz.func48, Tryz.ntmps48
      go_wp2_with fail
      go_ret
      exact ⟨rfl, HB.out⟩
    have hg : ge = 2 := by rw [GE.out, if_neg (by omega), if_neg (by omega)]
    have hp : (0 : Int) < (fl : Int) := by omega
    subst hg hwa
    go_enter Tryz.func48, Tryz.ntmps48
    go_wp2_with fail
    go_ret
    exact ⟨rfl, HB.out⟩
  have hg : ge = cn := by rw [GE.out, if_pos (by omega)]
  have q2 : (kk == 2) = false := by simpa using h2
  subst hg hwa
  go_enter Tryz.func48, Tryz.ntmps48
  go_wp2_with fail
  refine HC.out.mono ?_
  rintro e w2 ⟨rfl, b2⟩
  have B2 := Lib.hid (HB.out.trans (b2.mono HB.out.size))
  clear b2 HC
  go_wp2_with fail
  go_ret
  exact ⟨rfl, B2.out⟩
theorem refCheckB_any8 (eds : List Ed) (v : Value) (w : World) (h : EdV w v eds) (hl : eds.length <= 1000000) (hf : Fines8 eds) :
    Calls Tryz.prog 26 #[v] w fun e w' => e = .returned (.tuple #[.int .i64 (chkB eds).1, .int .i64 (chkB eds).2]) /\ Below w.heap.size w w' := by
  obtain ⟨A, cap, rfl, hle, hc⟩ := h
  have PC := Lib.hid hc
  have HF := Lib.hid hf
  clear hc hf
  by_cases h0 : eds.length < 1
  . have e0 : chkB eds = (-9, 1) := by unfold chkB; rw [if_pos (by omega)]
    have z0 : eds.length = 0 := by omega
    rw [e0, z0]
    go_enter Tryz.func26, Tryz.ntmps26
    go_wp2_with fail
    go_ret2
    exact ⟨rfl, Below.refl _ _⟩
  have q0 : ¬ ((eds.length : Int) < 1) := by omega
  by_cases h40 : 40 < eds.length
  . have e0 : chkB eds = (-9, 1) := by unfold chkB; rw [if_pos (by omega)]
    rw [e0]
    go_enter Tryz.func26, Tryz.ntmps26
    go_wp2_with fail
    go_ret2
    exact ⟨rfl, Below.refl _ _⟩
  have e1 : chkB eds = chkOn 0 eds := by unfold chkB; rw [if_neg (by omega)]
  rw [e1]
  go_enter Tryz.func26, Tryz.ntmps26
  go_wp2_with fail
  go_loopw [4] (fun i wr => ∃ k : Nat, k <= eds.length /\ i = .int .i64 k /\ (∀ x ∈ eds.take k, goodE x = 0) /\ Below w.heap.size w wr) (fun i _ => eds.length - (intOf i).toNat)
  case atStart => exact ⟨0, Nat.zero_le _, rfl, (fun x hx => by simp at hx), Below.refl _ _⟩
  case round =>
  obtain ⟨k, hk, rfl, hsm, hb⟩ := hrel
  by_cases hlt : k < eds.length
  . obtain ⟨ed, hed⟩ : ∃ ed, eds[k]? = some ed := ⟨_, List.getElem?_eq_getElem hlt⟩
    obtain ⟨b, off, fv, rfl, hbb, c0, c1, c2, hfl⟩ := PC.out k ed hed
    obtain ⟨fa, fc, rfl, _, _⟩ := _root_.id hfl.1
    replace c0 := (hb.cell (p := ⟨b, off + k * 3, none⟩) hbb).trans c0
    replace c1 := (hb.cell (p := ⟨b, off + k * 3 + 1, none⟩) hbb).trans c1
    replace c2 := (hb.cell (p := ⟨b, off + k * 3 + 1 + 1, none⟩) hbb).trans c2
    have CK := Lib.hid (refGood_any ed (.slice fa ed.fields.length fc) wr (hfl.1.below hb (Nat.le_refl _)) (HF.out ed (List.mem_of_getElem? hed)))
    have SM : Hid (goodE ed = 0 -> ∀ x ∈ eds.take (k + 1), goodE x = 0) := fun hz x hx => by
      rw [take_snoc hed] at hx
      rcases List.mem_append.1 hx with hx | hx
      . exact hsm x hx
      rw [List.mem_singleton.1 hx]; exact hz
    have AT : Hid (goodE ed ≠ 0 -> chkOn 0 eds = (((k : Nat) : Int), goodE ed)) := fun hz => by rw [chkOn_at eds 0 k ed hsm hed hz, Nat.zero_add]
    have HBA := Lib.hid hb
    clear hed hsm hfl hb
    generalize goodE ed = ge at *
    go_wp2_with fail
    refine CK.out.mono ?_
    rintro e w2 ⟨rfl, b2⟩
    have B2 := Lib.hid (HBA.out.trans (b2.mono HBA.out.size))
    clear b2 CK
    by_cases hg0 : ge = 0
    . subst hg0
      have SM1 := Lib.hid (SM.out rfl)
      clear SM AT
      go_wp2_with fail
      go_roundw
      case rel => exact ⟨k + 1, hlt, by go_num, SM1.out, B2.out⟩
      case measure => simp [intOf]; omega
    have AT1 := Lib.hid (AT.out hg0)
    have qn : ((ge : Int) == 0) = false := by simpa using hg0
    have FIN : Hid (Ending.returned (.tuple #[.int .i64 (k : Nat), .int .i64 (ge : Nat)]) = .returned (.tuple #[.int .i64 (chkOn 0 eds).1, .int .i64 (chkOn 0 eds).2])) := by
      show _ = _
      rw [AT1.out]
    clear SM AT AT1
    go_wp2_with fail
    go_ret2
    exact ⟨FIN.out, B2.out⟩
  obtain rfl : k = eds.length := by omega
  rw [List.take_length] at hsm
  have FIN : Hid (Ending.returned (.tuple #[.int .i64 (-9), .int .i64 0]) = .returned (.tuple #[.int .i64 (chkOn 0 eds).1, .int .i64 (chkOn 0 eds).2])) := by
    show _ = _
    rw [chkOn_all eds 0 hsm]; rfl
  clear PC hsm
  go_wp2_with fail
  go_ret2
  exact ⟨FIN.out, hb⟩
theorem refCheckB_any (eds : List Ed) (v : Value) (w : World) (h : EdV w v eds) (hl : eds.length <= 1000000) (hf : Fines eds) :
    Calls Tryz.prog 26 #[v] w fun e w' => e = .returned (.tuple #[.int .i64 (chkB eds).1, .int .i64 (chkB eds).2]) /\ Below w.heap.size w w' := refCheckB_any8 eds v w h hl hf.eight
end Go.Proofs.YtfjklpgmnakcaaaGreatDoor
