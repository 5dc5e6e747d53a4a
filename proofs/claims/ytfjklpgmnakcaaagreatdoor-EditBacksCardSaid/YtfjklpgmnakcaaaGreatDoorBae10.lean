/- Texts put together: TD, TE, TL, UA, UK, UB, UC, UD. -/
import Derived.Test.YtfjklpgmnakcaaaGreatDoorBae2
import Derived.Test.YtfjklpgmnakcaaaGreatDoorBae5
import Derived.Test.YtfjklpgmnakcaaaGreatDoorBae7
import Derived.Test.YtfjklpgmnakcaaaGreatDoorBae8
import Derived.Test.YtfjklpgmnakcaaaGreatDoorBae9
set_option linter.unusedVariables false
set_option maxRecDepth 100000
set_option maxHeartbeats 16000000
namespace Go.Proofs.YtfjklpgmnakcaaaGreatDoor
open Go.RowKit Go.Shelf
attribute [local go_sem] errV_0
theorem refChk_any (fs : List Fld) (v : Value) (w : World) (hs : Flds w v fs) (hn : fs.length <= 1000000) (hl : ∀ f ∈ fs, f.1.length <= 1000000 /\ f.2.length <= 1000000) :
    Calls Tryz.prog 74 #[v] w fun e w' => e = .returned (.tuple #[.int .i64 (chkAt fs), .int .i64 (chkN fs : Nat)]) /\ Below w.heap.size w w' := by
  obtain ⟨A, cap, rfl, hle, hc⟩ := hs
  have PC := Lib.hid hc
  have HL := Lib.hid hl
  clear hc hl
  by_cases h0 : fs.length = 0
  . have e1 : chkAt fs = -9 := by unfold chkAt; rw [if_pos (.inl h0)]
    have e2 : chkN fs = 2 := by unfold chkN; rw [if_pos h0]
    rw [e1, e2, h0]
    go_enter Tryz.func74, Tryz.ntmps74
    go_wp2_with fail
    go_ret2
    exact ⟨rfl, Below.refl _ _⟩
  have c0 : ((fs.length : Int) == 0) = false := by simp; intro h; exact h0 (by rw [h]; rfl)
  by_cases h40 : 40 < fs.length
  . have e1 : chkAt fs = -9 := by unfold chkAt; rw [if_pos (.inr (.inl h40))]
    have e2 : chkN fs = 11 := by unfold chkN; rw [if_neg h0, if_pos h40]
    rw [e1, e2]
    go_enter Tryz.func74, Tryz.ntmps74
    go_wp2_with fail
    go_ret2
    exact ⟨rfl, Below.refl _ _⟩
  have e2 : chkN fs = foldN fs := by unfold chkN; rw [if_neg h0, if_neg h40]
  have FINZ : Hid (foldN fs = 0 -> chkAt fs = -9 /\ chkN fs = 0) := by
    intro hz
    exact ⟨by unfold chkAt; rw [if_pos (.inr (.inr hz))], by rw [e2, hz]⟩
  have FINB : Hid (∀ (k n : Nat), foldN fs = n -> n ≠ 0 -> badAt fs = k -> chkAt fs = (k : Nat) /\ chkN fs = n) := by
    intro k n hf hnz hk
    refine ⟨?_, by rw [e2, hf]⟩
    unfold chkAt
    rw [if_neg (by unfold bare; rintro (h | h | h) <;> omega), hk]
  clear e2
  go_enter Tryz.func74, Tryz.ntmps74
  go_wp2_with fail
  go_loopw [4] (fun i wr => ∃ k : Nat, k <= fs.length /\ i = .int .i64 k /\ foldN fs = foldN (fs.drop k) /\ badAt fs = badAt (fs.drop k) + k /\ Below w.heap.size w wr) (fun i _ => fs.length - (intOf i).toNat)
  case atStart => exact ⟨0, Nat.zero_le _, rfl, rfl, rfl, Below.refl _ _⟩
  case round =>
  obtain ⟨k, hk, rfl, hN, hA, hb⟩ := hrel
  by_cases hlt : k < fs.length
  . obtain ⟨f, hf⟩ : ∃ f, fs[k]? = some f := ⟨_, List.getElem?_eq_getElem hlt⟩
    obtain ⟨b, off, rfl, hbb, c0', c1⟩ := PC.out k f hf
    replace c0' := (hb.cell (p := ⟨b, off + k * 2, none⟩) hbb).trans c0'
    replace c1 := (hb.cell (p := ⟨b, off + k * 2 + 1, none⟩) hbb).trans c1
    obtain ⟨hl1, hl2⟩ := HL.out f (List.mem_of_getElem? hf)
    have hdrop : fs.drop k = f :: fs.drop (k + 1) := by
      rw [List.drop_eq_getElem_cons hlt]
      rw [List.getElem?_eq_getElem hlt] at hf
      rw [Option.some.inj hf]
    have hs1 := hb.size
    have CK := fun W => refCheck_any f.1 f.2 hl1 hl2 W
    unfold fieldV at CK
    rw [hdrop] at hN hA
    by_cases hck : checkN f.1 f.2 = 0
    . have G1 : Hid (foldN fs = foldN (fs.drop (k + 1))) := by
        show _ = _
        rw [hN]; show (if checkN f.1 f.2 = 0 then foldN (fs.drop (k + 1)) else _) = _; rw [if_pos hck]
      have G2 : Hid (badAt fs = badAt (fs.drop (k + 1)) + (k + 1)) := by
        show _ = _
        rw [hA]; show (if checkN f.1 f.2 = 0 then badAt (fs.drop (k + 1)) + 1 else _) + k = _; rw [if_pos hck]; omega
      rw [hck] at CK
      clear hdrop hN hA hf hck FINB FINZ PC HL
      go_wp2_with fail
      refine (CK _).mono ?_
      rintro e w2 ⟨rfl, b2⟩
      have hb2 := hb.trans (b2.mono hs1)
      clear b2 CK
      go_wp2_with fail
      go_roundw
      case rel => exact ⟨k + 1, hlt, by go_num, G1.out, G2.out, hb2⟩
      case measure => simp [intOf]; omega
    have hfn : foldN fs = checkN f.1 f.2 := by rw [hN]; unfold foldN; rw [if_neg hck]
    have hbn : badAt fs = k := by rw [hA]; unfold badAt; rw [if_neg hck]; omega
    obtain ⟨F1, F2⟩ := FINB.out k (checkN f.1 f.2) hfn hck hbn
    have hcn : ((checkN f.1 f.2 : Int) != 0) = true := by simp; omega
    have FH1 := Lib.hid F1
    have FH2 := Lib.hid F2
    clear hdrop hN hA hf FINB FINZ PC HL hfn hbn F1 F2
    generalize checkN f.1 f.2 = cn at *
    go_wp2_with fail
    refine (CK _).mono ?_
    rintro e w2 ⟨rfl, b2⟩
    have hb2 := hb.trans (b2.mono hs1)
    clear b2 CK
    go_wp2_with fail
    go_ret2
    exact ⟨by rw [FH1.out, FH2.out]; rfl, hb2⟩
  obtain rfl : k = fs.length := by omega
  rw [List.drop_length] at hN
  obtain ⟨F1, F2⟩ := FINZ.out hN
  have FH1 := Lib.hid F1
  have FH2 := Lib.hid F2
  clear hN hA FINB FINZ PC HL F1 F2
  go_wp2_with fail
  go_ret2
  exact ⟨by rw [FH1.out, FH2.out]; rfl, hb⟩
end Go.Proofs.YtfjklpgmnakcaaaGreatDoor
namespace Go.Proofs.YtfjklpgmnakcaaaGreatDoor
open Go.RowKit Go.Shelf
attribute [local go_sem] errV_0
end Go.Proofs.YtfjklpgmnakcaaaGreatDoor
namespace Go.Proofs.YtfjklpgmnakcaaaGreatDoor
theorem textL_len6 (k v : List UInt8) : (textL (linesL k v)).length <= k.length + 3 * v.length + 8 := by
  rw [textL_len]; have := lines_sum k v; omega
theorem foldT_len6 : ∀ (fs : List Fld), minF fs <= 6000 -> (textL (linesFs fs)).length <= 3 * minF fs + 8 * fs.length
  | [], _ => by simp [linesFs, textL]
  | f :: r, h => by
    have e : minF (f :: r) = (min f.1.length 10000 + min f.2.length 10000) + minF r := rfl
    rw [e] at h ⊢
    have ih := foldT_len6 r (by omega)
    have h1 := textL_len6 f.1 f.2
    have e2 : textL (linesFs (f :: r)) = textL (linesL f.1 f.2) ++ textL (linesFs r) := by unfold linesFs; rw [List.flatMap_cons, textL_append]
    rw [e2, List.length_append, List.length_cons]
    omega
def itemOf (fs : List Fld) : It := ⟨3, foldG fs, fs⟩
theorem foldG_lines (fs : List Fld) : foldG fs = textL (linesFs fs) := by
  unfold foldG linesFs textL
  rw [List.flatMap_assoc]
end Go.Proofs.YtfjklpgmnakcaaaGreatDoor
namespace Go.Proofs.YtfjklpgmnakcaaaGreatDoor
abbrev En := It × Int
structure LS where
  es : List En
  next : Int
def stzG {α : Type} (κ : α -> Int) : Nat -> List α -> List (Nat × α)
  | _, [] => []
  | k, e :: r => if κ e = 3 then (k, e) :: stzG κ (k + 1) r else stzG κ (k + 1) r
section
variable {α : Type} {κ : α -> Int}
theorem stzG_len : ∀ (k : Nat) (es : List α), (stzG κ k es).length <= es.length
  | k, [] => Nat.le_refl _
  | k, e :: r => by
    have ih := stzG_len (k + 1) r
    show (if κ e = 3 then (k, e) :: stzG κ (k + 1) r else stzG κ (k + 1) r).length <= _
    split
    . simp only [List.length_cons]; omega
    simp only [List.length_cons]; omega
theorem stzG_mem : ∀ (k : Nat) (es : List α) (x : Nat × α), x ∈ stzG κ k es -> k <= x.1 /\ es[x.1 - k]? = some x.2 /\ κ x.2 = 3
  | k, [], x, h => by cases h
  | k, e :: r, x, h => by
    have ih := stzG_mem (k + 1) r x
    have go : x ∈ stzG κ (k + 1) r -> k <= x.1 /\ (e :: r)[x.1 - k]? = some x.2 /\ κ x.2 = 3 := fun q => by
      obtain ⟨a, b, c⟩ := ih q
      refine ⟨by omega, ?_, c⟩
      rw [show x.1 - k = (x.1 - (k + 1)) + 1 by omega, List.getElem?_cons_succ]; exact b
    unfold stzG at h
    split at h
    . rename_i hk
      rcases List.mem_cons.1 h with rfl | h
      . exact ⟨Nat.le_refl _, by simp, hk⟩
      exact go h
    exact go h
theorem stzG_drop : ∀ (es : List α) (k j : Nat) (e : α), es[j]? = some e -> stzG κ (k + j) (es.drop j) = if κ e = 3 then (k + j, e) :: stzG κ (k + (j + 1)) (es.drop (j + 1)) else stzG κ (k + (j + 1)) (es.drop (j + 1))
  | [], k, j, e, h => by simp at h
  | a :: r, k, 0, e, h => by simp at h; subst h; rfl
  | a :: r, k, j + 1, e, h => by
    have ih := stzG_drop r (k + 1) j e (by simpa using h)
    rw [show k + 1 + j = k + (j + 1) by omega, show k + 1 + (j + 1) = k + (j + 1 + 1) by omega] at ih
    exact ih
theorem stzG_map {β : Type} (f : β -> α) : ∀ (k : Nat) (es : List β), (stzG (fun b => κ (f b)) k es).map (fun x => (x.1, f x.2)) = stzG κ k (es.map f)
  | k, [] => rfl
  | k, e :: r => by
    have ih := stzG_map f (k + 1) r
    show ((if κ (f e) = 3 then (k, e) :: stzG _ (k + 1) r else stzG _ (k + 1) r).map _) = if κ (f e) = 3 then (k, f e) :: stzG κ (k + 1) (r.map f) else stzG κ (k + 1) (r.map f)
    split
    . rw [List.map_cons, ih]
    exact ih
end
abbrev stzOn : Nat -> List En -> List (Nat × En) := stzG fun e => e.1.kind
abbrev stzs (es : List En) : List (Nat × En) := stzOn 0 es
def findE (es : List En) (id : Int) : Option Nat := ((stzs es).find? fun x => x.2.2 == id).map Prod.fst
def findR (es : List En) (id : Int) : Option Nat := if 0 < id then es.findIdx? fun e => e.2 == id else none
def WF (es : List En) : Prop := ∀ e ∈ es, (e.1.kind = 3 /\ 0 < e.2) \/ (e.1.kind ≠ 3 /\ e.2 = 0)
theorem find_on : ∀ (k : Nat) (es : List En) (id : Int), WF es -> 0 < id -> ((stzOn k es).find? fun x => x.2.2 == id).map Prod.fst = (es.findIdx? fun e => e.2 == id).map (· + k)
  | k, [], id, _, _ => rfl
  | k, e :: r, id, h, hid => by
    have ih := find_on (k + 1) r id (fun y hy => h y (List.mem_cons_of_mem _ hy)) hid
    have he := h e List.mem_cons_self
    unfold stzG
    rw [List.findIdx?_cons]
    by_cases hk : e.1.kind = 3
    . rw [if_pos hk, List.find?_cons]
      cases hq : e.2 == id with
      | true => simp
      | false =>
      simp only
      rw [ih]
      cases List.findIdx? (fun e => e.2 == id) r with
      | none => rfl
      | some q => simp; omega
    rw [if_neg hk]
    have h0 : e.2 = 0 := by
      rcases he with he | he
      . exact absurd he.1 hk
      exact he.2
    have hq : (e.2 == id) = false := by rw [h0]; exact beq_eq_false_iff_ne.2 (by omega)
    rw [ih, hq]
    cases List.findIdx? (fun e => e.2 == id) r with
    | none => rfl
    | some q => simp; omega
theorem find_on_neg : ∀ (k : Nat) (es : List En) (id : Int), WF es -> id <= 0 -> ((stzOn k es).find? fun x => x.2.2 == id) = none
  | k, [], id, _, _ => rfl
  | k, e :: r, id, h, hid => by
    have ih := find_on_neg (k + 1) r id (fun y hy => h y (List.mem_cons_of_mem _ hy)) hid
    have he := h e List.mem_cons_self
    unfold stzG
    split
    . rename_i hk
      have h0 : 0 < e.2 := by
        rcases he with he | he
        . exact he.2
        exact absurd hk he.1
      have hq : (e.2 == id) = false := beq_eq_false_iff_ne.2 (by omega)
      rw [List.find?_cons]
      simp only [hq]
      exact ih
    exact ih
theorem find_both {es : List En} (h : WF es) (id : Int) : findE es id = findR es id := by
  unfold findE findR
  split
  . rename_i hid
    have := find_on 0 es id h hid
    rw [this]
    cases List.findIdx? (fun e => e.2 == id) es with
    | none => rfl
    | some q => rfl
  rename_i hid
  show Option.map _ ((stzOn 0 es).find? _) = none
  rw [find_on_neg 0 es id h (by omega)]; rfl
def lenR (es : List En) : Nat := (es.filter fun e => decide (0 < e.2)).length
theorem stz_filter : ∀ (k : Nat) (es : List En), WF es -> (stzOn k es).map Prod.snd = es.filter fun e => decide (0 < e.2)
  | k, [], _ => rfl
  | k, e :: r, h => by
    have ih := stz_filter (k + 1) r (fun y hy => h y (List.mem_cons_of_mem _ hy))
    unfold stzG
    rw [List.filter_cons]
    rcases h e List.mem_cons_self with ⟨a, b⟩ | ⟨a, b⟩
    . rw [if_pos a, if_pos (by simpa using b), List.map_cons, ih]
    rw [if_neg a, if_neg (by simp; omega), ih]
theorem len_both {es : List En} (h : WF es) : (stzs es).length = lenR es := by
  have := congrArg List.length (stz_filter 0 es h)
  rw [List.length_map] at this
  exact this
def setE (es : List En) (k : Nat) (it : It) : List En := es.modify k fun e => (it, e.2)
def cutE (es : List En) (k : Nat) : List En := es.take k ++ es.drop (k + 1)
def putE (es : List En) (k : Nat) (e : En) : List En := es.take k ++ e :: es.drop k
theorem WF.set {es : List En} (h : WF es) (k : Nat) (it : It) (hk : it.kind = 3) (e : En) (he : es[k]? = some e) (hn : e.1.kind = 3) : WF (setE es k it) := by
  intro x hx
  obtain ⟨j, hj⟩ := List.mem_iff_getElem?.1 hx
  unfold setE at hj
  rw [List.getElem?_modify] at hj
  rcases hjj : es[j]? with _ | y
  . rw [hjj] at hj; simp at hj
  rw [hjj] at hj
  simp only [Option.map_eq_map, Option.map_some, Option.some.injEq] at hj
  have hy := h y (List.mem_of_getElem? hjj)
  by_cases e1 : k = j
  . rw [if_pos e1] at hj
    subst hj
    subst e1
    rw [he] at hjj
    cases hjj
    rcases h e (List.mem_of_getElem? he) with q | q
    . exact .inl ⟨hk, q.2⟩
    exact absurd hn q.1
  rw [if_neg e1] at hj
  subst hj; exact hy
theorem WF.cut {es : List En} (h : WF es) (k : Nat) : WF (cutE es k) := by
  intro x hx
  rcases List.mem_append.1 hx with q | q
  . exact h x (List.mem_of_mem_take q)
  exact h x (List.mem_of_mem_drop q)
theorem WF.put {es : List En} (h : WF es) (k : Nat) {e : En} (he : (e.1.kind = 3 /\ 0 < e.2)) : WF (putE es k e) := by
  intro x hx
  rcases List.mem_append.1 hx with q | q
  . exact h x (List.mem_of_mem_take q)
  rcases List.mem_cons.1 q with rfl | q
  . exact .inl he
  exact h x (List.mem_of_mem_drop q)
theorem setE_len (es : List En) (k : Nat) (it : It) : (setE es k it).length = es.length := by unfold setE; simp
structure Did where
  ls : LS
  at_ : Int
  bad : Nat
  id : Int
def replaceR (l : LS) (id : Int) (fs : List Fld) : Did :=
  match findR l.es id with
  | none => ⟨l, -9, 7, 0⟩
  | some k => if chkN fs = 0 then ⟨⟨setE l.es k (itemOf fs), l.next⟩, -9, 0, 0⟩ else ⟨l, chkAt fs, chkN fs, 0⟩
def deleteR (l : LS) (id : Int) : Did :=
  match findR l.es id with
  | none => ⟨l, -9, 7, 0⟩
  | some k => ⟨⟨cutE l.es k, l.next⟩, -9, 0, 0⟩
def gapR (es : List En) (behind : Int) : Option Nat := if behind = 0 then some 0 else (findR es behind).map (· + 1)
def insertR (l : LS) (behind : Int) (fs : List Fld) : Did :=
  match gapR l.es behind with
  | none => ⟨l, -9, 7, 0⟩
  | some k => if chkN fs = 0 then (if 400 <= lenR l.es then ⟨l, -9, 11, 0⟩ else ⟨⟨putE l.es k (itemOf fs, l.next), l.next + 1⟩, -9, 0, l.next⟩) else ⟨l, chkAt fs, chkN fs, 0⟩
def editR (l : LS) (kind id : Int) (fs : List Fld) : Did :=
  if kind = 1 then replaceR l id fs else if kind = 2 then deleteR l id else insertR l id fs
theorem findR_lt {es : List En} {id : Int} {k : Nat} (h : findR es id = some k) : k < es.length /\ ∃ e, es[k]? = some e /\ e.2 = id /\ 0 < id := by
  unfold findR at h
  split at h
  . rename_i hid
    obtain ⟨a, b, _⟩ := List.findIdx?_eq_some_iff_getElem.1 h
    exact ⟨a, _, List.getElem?_eq_getElem a, by simpa using b, hid⟩
  cases h
def fromOn : Int -> List It -> List En
  | _, [] => []
  | n, it :: r => if it.kind = 3 then (it, n) :: fromOn (n + 1) r else (it, 0) :: fromOn n r
def fromNext : Int -> List It -> Int
  | n, [] => n
  | n, it :: r => if it.kind = 3 then fromNext (n + 1) r else fromNext n r
def fromL (its : List It) : LS := ⟨fromOn 1 its, fromNext 1 its⟩
theorem from_snoc : ∀ (n : Int) (l : List It) (it : It), fromOn n (l ++ [it]) = fromOn n l ++ [(it, if it.kind = 3 then fromNext n l else 0)] /\ fromNext n (l ++ [it]) = if it.kind = 3 then fromNext n l + 1 else fromNext n l
  | n, [], it => by
    simp only [List.nil_append, fromOn, fromNext]
    split <;> simp
  | n, a :: l, it => by
    obtain ⟨h1, h2⟩ := from_snoc (n + 1) l it
    obtain ⟨g1, g2⟩ := from_snoc n l it
    simp only [List.cons_append, fromOn, fromNext]
    split
    . rw [h1, h2]; exact ⟨rfl, rfl⟩
    rw [g1, g2]; exact ⟨rfl, rfl⟩
theorem from_len : ∀ (n : Int) (l : List It), (fromOn n l).length = l.length
  | n, [] => rfl
  | n, a :: l => by
    unfold fromOn
    split
    . rw [List.length_cons, from_len]; rfl
    rw [List.length_cons, from_len]; rfl
theorem from_items : ∀ (n : Int) (l : List It), (fromOn n l).map Prod.fst = l
  | n, [] => rfl
  | n, a :: l => by
    unfold fromOn
    split
    . rw [List.map_cons, from_items]
    rw [List.map_cons, from_items]
theorem from_next : ∀ (n : Int) (l : List It), n <= fromNext n l /\ fromNext n l <= n + l.length
  | n, [] => by simp [fromNext]
  | n, a :: l => by
    have h1 := from_next (n + 1) l
    have h2 := from_next n l
    unfold fromNext
    rw [List.length_cons]
    split <;> omega
theorem from_wf : ∀ (n : Int) (l : List It), 0 < n -> WF (fromOn n l)
  | n, [], _ => fun e h => by cases h
  | n, a :: l, hn => by
    unfold fromOn
    split
    . rename_i hk
      intro e he
      rcases List.mem_cons.1 he with rfl | he
      . exact .inl ⟨hk, hn⟩
      exact from_wf (n + 1) l (by omega) e he
    rename_i hk
    intro e he
    rcases List.mem_cons.1 he with rfl | he
    . exact .inr ⟨hk, rfl⟩
    exact from_wf n l hn e he
end Go.Proofs.YtfjklpgmnakcaaaGreatDoor
namespace Go.Proofs.YtfjklpgmnakcaaaGreatDoor
open Go.RowKit Go.Shelf
def HandsK {α : Type} (P : Program) (g : Nat) (lb : Array Value) (encs : α -> Array Value) (k : Nat) (xs : List α) (K : World -> Prop) (w : World) : Prop :=
  ∀ (l : Nat) (J Jx : List α -> World -> Prop) (W : World), Below w.heap.size w W -> Abide W.heap.size k J -> (∀ pre W, J pre W -> K W) ->
    (∀ pre x post W1, xs = pre ++ x :: post -> W.heap.size + k <= W1.heap.size -> J pre W1 -> YieldAt Fence.wide 7 P l (encs x) W1 fun e W' =>
      (e = .returned (.bool true) /\ J (pre ++ [x]) W' /\ Stay W.heap.size k W1 W') \/ (e = .returned (.bool false) /\ Jx (pre ++ [x]) W')) ->
    J [] W ->
    CallsIn Fence.wide 8 P g (#[.func (.yield l) #[] #[]] ++ lb) W fun e W' => (∃ v, e = .returned v) /\ (J xs W' \/ ∃ pre, pre <+: xs /\ Jx pre W')
variable {P : Program}
theorem wp_rangedK {α : Type} {g : Operand} {ps : Array Tmp} {assign body : Code} {Q : Exit -> Act -> World -> Prop} {a : Act} {w : World}
    {gf : Nat} {lb : Array Value} (hg : a.eval g = .func (.func gf) #[] lb) (eg : ∀ args w, (callFunc gf args).run P w = .ok (.enter gf args) w)
    {encs : α -> Array Value} {k : Nat} {xs : List α} {K : World -> Prop} (hseq : HandsK P gf lb encs k xs K w) (hps : ∀ x, (encs x).size = ps.size)
    (I : List α -> World -> Prop) (Ix : Code -> List α -> World -> Prop) (hI : Abide w.heap.size (k + 2) I) (hIx : ∀ c, Abide w.heap.size 2 (Ix c)) (h0 : I [] w) (hK : ∀ pre W, I pre W -> K W)
    (M : List α -> α -> Act -> World -> Prop) (hM : ∀ pre x a', Abide w.heap.size 2 (fun (_ : Unit) W => M pre x a' W))
    (hassign : ∀ (l : Nat) (pre : List α) (x : α) (post : List α) (W : World), xs = pre ++ x :: post -> w.heap.size + (k + 2) <= W.heap.size -> I pre W ->
      assign.wpIn (Fence.wide.inRound l) 7 P (assigned w.heap.size (k + 2) (M pre x) W) { tmps := (ps.zip (encs x)).foldl (fun t (p, v) => t.setIfInBounds p v) a.tmps, defers := [] } W)
    (hbody : ∀ (l : Nat) (pre : List α) (x : α) (post : List α) (a' : Act) (W : World), xs = pre ++ x :: post -> w.heap.size + (k + 2) <= W.heap.size -> M pre x a' W ->
      body.wpIn (Fence.wide.inRound l) 7 P (left w.heap.size (k + 2) I Ix (pre ++ [x]) W) a' W)
    (hdone : ∀ (W : World), I xs W -> W.heap[w.heap.size]? = some (.deferred (some [])) -> Q .normal { a with defers := { target := .collected w.heap.size, args := #[] } :: a.defers } W)
    (hstop : ∀ (c : Code) (pre : List α) (W : World), pre <+: xs -> Ix c pre W -> W.heap[w.heap.size]? = some (.deferred (some [])) -> c.wpIn Fence.wide 9 P Q { a with defers := { target := .collected w.heap.size, args := #[] } :: a.defers } W) :
    (Code.rangeFunc g ps assign body).wpIn Fence.wide 9 P Q a w := by
  refine wpIn_rangeFunc fun fn _ => ?_
  show ∃ l mark w₁ d w₁' f args w₂, (Instr.enterLoop fn a.tmps ps assign body none).run P w = .ok (l, mark) w₁ /\ _
  obtain ⟨rec, hrec⟩ : ∃ rec : LoopState -> Option Code -> Loop, rec = fun st pe => { state := st, pending := pe, fn, tmps := a.tmps, params := ps, assign, body, defers := w.heap.size } := ⟨_, rfl⟩
  obtain ⟨W1, hW1⟩ : ∃ W1, (w.alloc (.deferred (some []))).alloc (.loop (rec .ready none)) = W1 := ⟨_, rfl⟩
  have hz1 : W1.heap.size = w.heap.size + 2 := by rw [<- hW1]; simp
  have hL1 : W1.heap[w.heap.size + 1]? = some (.loop (rec .ready none)) := by
    rw [<- hW1]; have := World.alloc_heap_new (w.alloc (.deferred (some []))) (.loop (rec .ready none)); rwa [World.size_alloc] at this
  have hK1 : W1.heap[w.heap.size]? = some (.deferred (some [])) := by
    rw [<- hW1]; exact (Below.heap_alloc _ _ _ (by simp)).trans (World.alloc_heap_new w _)
  have hI1 : I [] W1 := by rw [<- hW1]; exact hI.alloc _ (hI.alloc _ h0)
  have hb1 : Below w.heap.size w W1 := by rw [<- hW1]; exact ((Below.refl _ w).alloc (Nat.le_refl _) _).alloc (by simp) _
  have two : ∀ {A B : World}, Turned W1.heap.size k A B -> ∀ q o, q < w.heap.size + 2 -> A.heap[q]? = some o -> B.heap[q]? = some o :=
    fun ht q o hq ho => (ht.same q (Array.getElem?_eq_some_iff.1 ho).1 (by omega)).trans ho
  refine ⟨w.heap.size + 1, [{ target := .collected w.heap.size, args := #[] }], W1, { target := .fn (.func gf) lb, args := #[.func (.yield (w.heap.size + 1)) #[] #[]] }, W1, gf,
    #[.func (.yield (w.heap.size + 1)) #[] #[]] ++ lb, W1, ?_, ?_, fun _ _ => trivial, ?_, (fun h => by cases h), ?_⟩
  . rw [<- hW1, hrec]; exact run_enterLoop_outer _ _ _ _ _
  . simp only [resolve, hg]
    simp [go_sem]
  . simp [invoke, go_sem, eg]
  refine (hseq (w.heap.size + 1)
    (fun pre W => I pre W /\ W.heap[w.heap.size + 1]? = some (.loop (rec .ready none)) /\ W.heap[w.heap.size]? = some (.deferred (some [])))
    (fun pre W => ∃ c, Ix c pre W /\ W.heap[w.heap.size + 1]? = some (.loop (rec .done (some c))) /\ W.heap[w.heap.size]? = some (.deferred (some [])))
    W1 hb1
    (fun s A B hs ht => ⟨hI s A B hs.1 (ht.sub (by omega) (by omega)), two ht _ _ (by omega) hs.2.1, two ht _ _ (by omega) hs.2.2⟩)
    (fun s A hs => hK s A hs.1)
    ?_ ⟨hI1, hL1, hK1⟩).mono ?_
  . -- one round
    rintro pre x post W hx hsz ⟨hi, hl, hk⟩
    rw [hz1] at hsz
    have hy := run_yield (P := P) (args := encs x) hl (by rw [hrec]; exact hps x)
    rw [hrec] at hy
    refine ⟨fn, _, assign, body, hy, roundIn_of_wpIn trivial (wpIn_mono (hassign _ pre x post W hx (by omega) hi) ?_)⟩
    intro e a' Wa hp
    cases e with
    | normal =>
      obtain ⟨hs1, hm⟩ := hp
      have hla := (hs1.same (w.heap.size + 1) (by omega) (by omega)).trans hl
      have hka := (hs1.same w.heap.size (by omega) (by omega)).trans hk
      have hlt := (Array.getElem?_eq_some_iff.1 hla).1
      refine ⟨_, run_beginRound hla (by rw [hrec]), ?_⟩
      have hl2 : (Wa.putObj (w.heap.size + 1) (.loop { rec .ready none with state := .busy })).heap[w.heap.size + 1]? = some (.loop { rec .ready none with state := .busy }) := World.putObj_heap_same hlt
      have hk2 : (Wa.putObj (w.heap.size + 1) (.loop { rec .ready none with state := .busy })).heap[w.heap.size]? = some (.deferred (some [])) := (World.putObj_heap_other (by omega)).trans hka
      have hn2 : ∀ r, w.heap.size + 2 <= r -> (Wa.putObj (w.heap.size + 1) (.loop { rec .ready none with state := .busy })).heap[r]? = Wa.heap[r]? := fun r hr => World.putObj_heap_other (by omega)
      have hz2 : ∀ o, (Wa.putObj (w.heap.size + 1) o).heap.size = Wa.heap.size := fun o => by simp
      have hm2 := (hM pre x a').putObj (s := ()) (.loop { rec .ready none with state := .busy }) hm (l := w.heap.size + 1) (by omega) (by omega)
      have hsa := hs1.size
      refine wpIn_mono (hbody _ pre x post a' _ hx (by rw [hz2]; omega) hm2) ?_
      have fin : ∀ (jump : Option Code) (W3 : World), Stay w.heap.size (k + 2) (Wa.putObj (w.heap.size + 1) (.loop { rec .ready none with state := .busy })) W3 ->
          (Instr.endRound (w.heap.size + 1) jump).run P W3 = .ok (.bool jump.isNone) (W3.putObj (w.heap.size + 1) (.loop (rec (if jump.isNone then .ready else .done) jump))) /\
          (W3.putObj (w.heap.size + 1) (.loop (rec (if jump.isNone then .ready else .done) jump))).heap[w.heap.size + 1]? = some (.loop (rec (if jump.isNone then .ready else .done) jump)) /\
          (W3.putObj (w.heap.size + 1) (.loop (rec (if jump.isNone then .ready else .done) jump))).heap[w.heap.size]? = some (.deferred (some [])) := fun jump W3 hs3 => by
        have hl3 := (hs3.same (w.heap.size + 1) (by omega) (by omega)).trans hl2
        have hk3 := (hs3.same w.heap.size (by omega) (by omega)).trans hk2
        have := run_endRound (P := P) jump hl3
        rw [hrec] at this ⊢
        exact ⟨this, World.putObj_heap_same (Array.getElem?_eq_some_iff.1 hl3).1, (World.putObj_heap_other (by omega)).trans hk3⟩
      intro e a3 W3 hp
      cases e with
      | normal =>
        obtain ⟨hs3, hi3⟩ := hp
        obtain ⟨hr, hl4, hk4⟩ := fin none W3 hs3
        refine ⟨_, _, hr, .inl ⟨rfl, ⟨hI.putObj _ hi3 (by omega) (by omega), hl4, hk4⟩, ?_⟩⟩
        have hsz3 := hs3.size
        refine ⟨by simp only [World.putObj, Array.size_setIfInBounds] at hsz3 ⊢; omega, fun r a b => ?_⟩
        rw [hz1] at a b
        rw [World.putObj_heap_other (by omega), hs3.same r (by omega) (by omega), hn2 r a, hs1.same r (by omega) (by omega)]
      | ret =>
        obtain ⟨hs3, hi3⟩ := hp
        obtain ⟨hr, hl4, hk4⟩ := fin (some .ret) W3 hs3
        exact ⟨_, _, hr, .inr ⟨rfl, .ret, (hIx _).putObj _ hi3 (by omega) (by omega), hl4, hk4⟩⟩
      | exit id =>
        obtain ⟨hs3, hi3⟩ := hp
        obtain ⟨hr, hl4, hk4⟩ := fin (some (.exit id)) W3 hs3
        exact ⟨_, _, hr, .inr ⟨rfl, .exit id, (hIx _).putObj _ hi3 (by omega) (by omega), hl4, hk4⟩⟩
      | goto t =>
        obtain ⟨hs3, hi3⟩ := hp
        obtain ⟨hr, hl4, hk4⟩ := fin (some (.goto t)) W3 hs3
        exact ⟨_, _, hr, .inr ⟨rfl, .goto t, (hIx _).putObj _ hi3 (by omega) (by omega), hl4, hk4⟩⟩
      | panic ch => exact hp.elim
      | outgrown => exact hp.elim
    | ret => exact hp.elim
    | exit id => exact hp.elim
    | goto t => exact hp.elim
    | panic ch => exact hp.elim
    | outgrown => exact hp.elim
  -- behind the iterator
  rintro e W2 ⟨⟨v, rfl⟩, (⟨hi, hl, hk⟩ | ⟨pre, hpre, c, hi, hl, hk⟩)⟩
  . exact ⟨none, _, by have := run_endLoop (P := P) hl (by rw [hrec]; simp); rw [hrec] at this; exact this, hdone _ (hI.putObj _ hi (by omega) (by omega)) ((World.putObj_heap_other (by omega)).trans hk)⟩
  exact ⟨some c, _, by have := run_endLoop (P := P) hl (by rw [hrec]; simp); rw [hrec] at this; exact this, hstop c pre _ hpre ((hIx c).putObj _ hi (by omega) (by omega)) ((World.putObj_heap_other (by omega)).trans hk)⟩
theorem wp_rangedKA {α : Type} {g : Operand} {ps : Array Tmp} {assign body : Code} {Q : Exit -> Act -> World -> Prop} {a : Act} {w : World}
    {gf : Nat} {lb : Array Value} (hg : a.eval g = .func (.func gf) #[] lb) (eg : ∀ args w, (callFunc gf args).run P w = .ok (.enter gf args) w)
    {encs : α -> Array Value} {k : Nat} {xs : List α} {K : World -> Prop} (hseq : HandsK P gf lb encs k xs K w) (hps : ∀ x, (encs x).size = ps.size)
    (I : List α -> World -> Prop) (Ix : Code -> List α -> World -> Prop) (hI : Abide w.heap.size (k + 2) I) (hIx : ∀ c, Abide w.heap.size 2 (Ix c)) (h0 : I [] w) (hK : ∀ pre W, I pre W -> K W)
    (M : Act -> List α -> α -> Act -> World -> Prop) (hM : ∀ a pre x a', Abide w.heap.size 2 (fun (_ : Unit) W => M a pre x a' W))
    (hassign : ∀ (l : Nat) (pre : List α) (x : α) (post : List α) (W : World), xs = pre ++ x :: post -> w.heap.size + (k + 2) <= W.heap.size -> I pre W ->
      assign.wpIn (Fence.wide.inRound l) 7 P (assigned w.heap.size (k + 2) (M a pre x) W) { tmps := (ps.zip (encs x)).foldl (fun t (p, v) => t.setIfInBounds p v) a.tmps, defers := [] } W)
    (hbody : ∀ (l : Nat) (pre : List α) (x : α) (post : List α) (a' : Act) (W : World), xs = pre ++ x :: post -> w.heap.size + (k + 2) <= W.heap.size -> M a pre x a' W ->
      body.wpIn (Fence.wide.inRound l) 7 P (left w.heap.size (k + 2) I Ix (pre ++ [x]) W) a' W)
    (hdone : ∀ (W : World), I xs W -> W.heap[w.heap.size]? = some (.deferred (some [])) -> Q .normal { a with defers := { target := .collected w.heap.size, args := #[] } :: a.defers } W)
    (hstop : ∀ (c : Code) (pre : List α) (W : World), pre <+: xs -> Ix c pre W -> W.heap[w.heap.size]? = some (.deferred (some [])) -> c.wpIn Fence.wide 9 P Q { a with defers := { target := .collected w.heap.size, args := #[] } :: a.defers } W) :
    (Code.rangeFunc g ps assign body).wpIn Fence.wide 9 P Q a w :=
  wp_rangedK hg eg hseq hps I Ix hI hIx h0 hK (M a) (hM a) hassign hbody hdone hstop
end Go.Proofs.YtfjklpgmnakcaaaGreatDoor
namespace Go.Proofs.YtfjklpgmnakcaaaGreatDoor
open Go.RowKit Go.Shelf
abbrev Pr := En × Value
def entCell (p : Pr) : List Value := [.int .i64 p.1.1.kind, .string (B p.1.1.raw), p.2, .int .i64 p.1.2]
def entCells (ps : List Pr) : List Value := ps.flatMap entCell
theorem entCells_snoc (ps : List Pr) (p : Pr) : entCells (ps ++ [p]) = entCells ps ++ entCell p := by unfold entCells; simp
theorem entCells_append (ps qs : List Pr) : entCells (ps ++ qs) = entCells ps ++ entCells qs := by unfold entCells; simp
theorem entCells_take : ∀ (ps : List Pr) (k : Nat), entCells (ps.take k) = (entCells ps).take (k * 4)
  | [], k => by simp [entCells]
  | p :: r, 0 => by simp [entCells]
  | p :: r, k + 1 => by
    have ih := entCells_take r k
    have e : entCells (p :: r) = entCell p ++ entCells r := rfl
    rw [List.take_succ_cons, e, show entCells (p :: r.take k) = entCell p ++ entCells (r.take k) from rfl, ih, List.take_append]
    have hl : (entCell p).length = 4 := rfl
    rw [hl, List.take_of_length_le (l := entCell p) (by rw [hl]; omega), show (k + 1) * 4 - 4 = k * 4 by omega]
theorem entCells_drop : ∀ (ps : List Pr) (k : Nat), entCells (ps.drop k) = (entCells ps).drop (k * 4)
  | [], k => by simp [entCells]
  | p :: r, 0 => by simp
  | p :: r, k + 1 => by
    have ih := entCells_drop r k
    have e : entCells (p :: r) = entCell p ++ entCells r := rfl
    have hl : (entCell p).length = 4 := rfl
    rw [List.drop_succ_cons, e, ih, List.drop_append, hl, List.drop_of_length_le (l := entCell p) (by rw [hl]; omega), show (k + 1) * 4 - 4 = k * 4 by omega, List.nil_append]
theorem entCells_at : ∀ (ps : List Pr) (i : Nat) (p : Pr), ps[i]? = some p -> ∀ j u, (entCell p)[j]? = some u -> (entCells ps)[i * 4 + j]? = some u
  | [], i, p, h => by simp at h
  | q :: r, 0, p, h => by
    simp at h; subst h
    intro j u hj
    have e : entCells (q :: r) = entCell q ++ entCells r := rfl
    rw [e, Nat.zero_mul, Nat.zero_add, List.getElem?_append_left (by have := (List.getElem?_eq_some_iff.1 hj).1; exact this)]
    exact hj
  | q :: r, i + 1, p, h => by
    intro j u hj
    have ih := entCells_at r i p (by simpa using h) j u hj
    have e : entCells (q :: r) = entCell q ++ entCells r := rfl
    have hl : (entCell q).length = 4 := rfl
    rw [e, List.getElem?_append_right (by rw [hl]; omega), hl, show (i + 1) * 4 + j - 4 = i * 4 + j by omega]
    exact ih
theorem entCells_one {ps : List Pr} (h : ∀ p ∈ ps, p.2.oneCell' = true) : ∀ u ∈ entCells ps, u.oneCell' = true := by
  intro u hu
  obtain ⟨p, hp, hu⟩ := List.mem_flatMap.1 hu
  unfold entCell at hu
  simp at hu
  rcases hu with rfl | rfl | rfl | rfl
  . rfl
  . rfl
  . exact h p hp
  rfl
def FldR (w : World) (v : Value) (fs : List Fld) : Prop := Flds w v fs /\ ∀ n c, v = .slice none n c -> c = 0
theorem FldR.below {w w' : World} {v : Value} {fs : List Fld} {n : Nat} (h : FldR w v fs) (hb : Below n w w') (hn : w.heap.size <= n) : FldR w' v fs := ⟨h.1.below hb hn, h.2⟩
theorem FldR.form {w : World} {v : Value} {fs : List Fld} (h : FldR w v fs) : ∃ A c, v = .slice A fs.length c := by
  obtain ⟨A, c, e, _⟩ := h.1
  exact ⟨A, c, e⟩
theorem FldR.own {w : World} {base : Nat} {v : Value} {fs : List Fld} (h : w.ownsRow base 55 2 v fs.length (cellsF fs)) : FldR w v fs :=
  ⟨flds_of_own h, fun n c e => by
    rcases h.2 with ⟨q, _⟩ | ⟨g, cap, cur, q, _⟩
    . rw [q] at e; cases e; rfl
    rw [q] at e; cases e⟩
structure EntsR (w : World) (v : Value) (ps : List Pr) : Prop where
  row : w.ownsRow 0 93 4 v ps.length (entCells ps)
  each : ∀ p ∈ ps, FldR w p.2 p.1.1.fields
theorem EntsR.below {w w' : World} {v : Value} {ps : List Pr} {n : Nat} (h : EntsR w v ps) (hb : Below n w w') (hn : w.heap.size <= n) : EntsR w' v ps :=
  ⟨own_kept h.row hb hn, fun p hp => (h.each p hp).below hb hn⟩
theorem EntsR.here {w : World} {v : Value} {ps : List Pr} (h : EntsR w v ps) {i : Nat} {p : Pr} (hi : ps[i]? = some p) : ∃ g cap A c, v = .slice (some ⟨g, 0, none⟩) ps.length cap /\ ps.length <= cap /\ g < w.heap.size /\ p.2 = .slice A p.1.1.fields.length c /\
    w.cell? ⟨g, i * 4, none⟩ = some (.int .i64 p.1.1.kind) /\ w.cell? ⟨g, i * 4 + 1, none⟩ = some (.string (B p.1.1.raw)) /\ w.cell? ⟨g, i * 4 + 1 + 1, none⟩ = some p.2 /\ w.cell? ⟨g, i * 4 + 1 + 1 + 1, none⟩ = some (.int .i64 p.1.2) := by
  have hlt : i < ps.length := (List.getElem?_eq_some_iff.1 hi).1
  obtain ⟨A, c, hA⟩ := (h.each p (List.mem_of_getElem? hi)).form
  have hr := h.row
  rcases h.row.2 with ⟨_, hn⟩ | ⟨g, cap, cur, e, _, hg, hle, _⟩
  . omega
  rw [e] at hr
  have at_ := entCells_at ps i p hi
  refine ⟨g, cap, A, c, e, hle, (World.ownsRow.lt hr g rfl).2, hA, ?_, ?_, ?_, ?_⟩
  . rw [World.ownsRow.cellAt hr (i * 4) (by omega)]; exact at_ 0 _ rfl
  . rw [World.ownsRow.cellAt hr (i * 4 + 1) (by omega)]; exact at_ 1 _ rfl
  . rw [World.ownsRow.cellAt hr (i * 4 + 1 + 1) (by omega)]; exact at_ 2 _ rfl
  rw [World.ownsRow.cellAt hr (i * 4 + 1 + 1 + 1) (by omega)]; exact at_ 3 _ rfl
theorem EntsR.empty {w : World} {v : Value} {ps : List Pr} (h : EntsR w v ps) : ∃ A cap, v = .slice A ps.length cap /\ ps.length <= cap := by
  rcases h.row.2 with ⟨e, hn⟩ | ⟨g, cap, cur, e, _, hg, hle, _⟩
  . exact ⟨none, 0, by rw [e, hn], by omega⟩
  exact ⟨_, cap, e, hle⟩
def entV (p : Pr) : Value := .agg #[.int .i64 p.1.1.kind, .string (B p.1.1.raw), p.2, .int .i64 p.1.2]
abbrev stzP : Nat -> List Pr -> List (Nat × Pr) := stzG fun p => p.1.1.kind
theorem from7_any (v : Value) (w : World) (A : Option Addr) (n c : Nat) (hv : v = .slice A n c) :
    Calls Tryz.prog 54 #[v] w fun e w' => e = .returned (.func (.func 77) #[] #[.pointer (some ⟨w.heap.size + 1, 0, none⟩), .pointer (some ⟨w.heap.size, 0, none⟩)]) /\
      w' = (w.alloc (.cells #[v] 90)).alloc (.cells #[.int .i64 0] 3) := by
  subst hv
  go_enter Tryz.func54, Tryz.ntmps54
  go_wp2
  go_ret
  exact ⟨rfl, rfl⟩
def NextR (ps : List Pr) (n : Nat) (Bn : Nat) (w : World) (e : Ending) (w' : World) : Prop :=
  ∃ n', Boxed w' Bn 3 (.int .i64 (n' : Nat)) /\ Only (· = Bn) w w' /\ n' <= ps.length /\
    ((e = .returned (.tuple #[.int .i64 0, .bool false]) /\ stzP n (ps.drop n) = []) \/
      ∃ k p, n <= k /\ n' = k + 1 /\ e = .returned (.tuple #[.int .i64 (k : Nat), .bool true]) /\ ps[k]? = some p /\ stzP n (ps.drop n) = (k, p) :: stzP n' (ps.drop n'))
theorem next7_any (ps : List Pr) (v : Value) (n Bn Be : Nat) (w : World) (hn : n <= ps.length) (hps : ps.length <= 1000000) (hbn : Boxed w Bn 3 (.int .i64 (n : Nat))) (hbe : Boxed w Be 90 v) (hne : Be ≠ Bn) (hE : EntsR w v ps) (hg : ∀ g, v.ownBlock = some g -> g ≠ Bn) :
    Calls Tryz.prog 77 #[.pointer (some ⟨Bn, 0, none⟩), .pointer (some ⟨Be, 0, none⟩)] w fun e w' => NextR ps n Bn w e w' := by
  obtain ⟨A, cap, rfl, hle⟩ := hE.empty
  have HE := Lib.hid hE
  have HG := Lib.hid hg
  have HBE := Lib.hid hbe
  have HN := Lib.hid hne
  have HBN := Lib.hid hbn
  clear hE hg hbe hbn
  go_enter Tryz.func77, Tryz.ntmps77
  go_wp2_with fail
  go_loopw [4] (fun _ wr => ∃ k : Nat, n <= k /\ k <= ps.length /\ Boxed wr Bn 3 (.int .i64 (k : Nat)) /\ Only (· = Bn) w wr /\ stzP n (ps.drop n) = stzP k (ps.drop k)) (fun _ wr => ps.length - atOf Bn wr)
  case atStart => exact ⟨n, Nat.le_refl _, hn, HBN.out, Only.refl _ _, rfl⟩
  case round =>
  obtain ⟨k, hk1, hk2, hb, ho, hs⟩ := hrel
  have c0 := hb.cell
  have f0 := hb.frozen
  have c1 : wr.cell? ⟨Be, 0, none⟩ = some (.slice A ps.length cap) := Boxed.cell (show Boxed wr Be _ _ from (ho.same Be HBE.out.lt HN.out).trans HBE.out)
  have HB := Lib.hid hb
  have HO := Lib.hid ho
  have HS := Lib.hid hs
  have hk3 : k <= 1000000 := by omega
  clear hb ho hs
  by_cases hlt : k < ps.length
  . obtain ⟨p, hp⟩ : ∃ p, ps[k]? = some p := ⟨_, List.getElem?_eq_getElem hlt⟩
    obtain ⟨g, cap', pa, pc, e, _, hgl, _, d0, _⟩ := HE.out.here hp
    cases e
    have hgn : g ≠ Bn := HG.out g rfl
    replace d0 : wr.cell? ⟨g, k * 4, none⟩ = some (.int .i64 p.1.1.kind) := (World.cell?_of_block (w := w) (a := ⟨g, k * 4, none⟩) (HO.out.same g hgl hgn)).trans d0
    have hbe2 : Be ≠ Bn := HN.out
    have SD := Lib.hid (stzG_drop (κ := fun p : Pr => p.1.1.kind) ps 0 k p hp)
    have HP := Lib.hid hp
    clear hp
    by_cases hk : p.1.1.kind = 3
    . rw [hk] at d0
      go_wp2_with fail
      go_ret2
      refine ⟨k + 1, ?_, HO.out.cellS 0 _, hlt, .inr ⟨k, p, hk1, rfl, rfl, HP.out, ?_⟩⟩
      . exact Boxed.set _ HB.out
      rw [HS.out]
      have := SD.out
      rw [if_pos hk, Nat.zero_add, Nat.zero_add] at this
      exact this
    have hk' : ((p.1.1.kind : Int) == 3) = false := beq_eq_false_iff_ne.2 hk
    go_wp2_with fail
    go_roundw
    case rel =>
      refine ⟨k + 1, by omega, hlt, Boxed.set _ HB.out, HO.out.cellS 0 _, ?_⟩
      rw [HS.out]
      have := SD.out
      rw [if_neg hk, Nat.zero_add, Nat.zero_add] at this
      exact this
    case measure =>
    rw [atOf_eq HB.out, atOf_eq (B := Bn) (n := k + 1) (w := wr.setCell ⟨Bn, 0, none⟩ (.int .i64 ((k : Int) + 1))) (Boxed.set (.int .i64 ((k : Int) + 1)) HB.out)]
    omega
  obtain rfl : k = ps.length := by omega
  go_wp2_with fail
  go_ret2
  refine ⟨ps.length, HB.out, HO.out, Nat.le_refl _, .inl ⟨rfl, ?_⟩⟩
  rw [HS.out, List.drop_of_length_le (Nat.le_refl _)]; rfl
end Go.Proofs.YtfjklpgmnakcaaaGreatDoor
namespace Go.Proofs.YtfjklpgmnakcaaaGreatDoor
open Go.RowKit Go.Shelf
attribute [local go_sem] Oper.semAt_some
theorem stz7_any (v : Value) (w : World) (A : Option Addr) (n c : Nat) (hv : v = .slice A n c) :
    Calls Tryz.prog 33 #[v] w fun e w' => e = .returned (.func (.func 53) #[] #[.pointer (some ⟨w.heap.size, 0, none⟩)]) /\ w' = w.alloc (.cells #[v] 90) := by
  subst hv
  go_enter Tryz.func33, Tryz.ntmps33
  go_wp2
  go_ret
  exact ⟨rfl, rfl⟩
theorem stz_hands (ps : List Pr) (v : Value) (Be : Nat) (w : World) (hbox : Boxed w Be 90 v) (hps : ps.length <= 1000000) (hE : EntsR w v ps) :
    HandsK Tryz.prog 53 #[.pointer (some ⟨Be, 0, none⟩)] (fun x => #[.int .i64 (x.1 : Nat), entV x.2]) 2 (stzP 0 ps) (fun W => EntsR W v ps /\ Boxed W Be 90 v) w := by
  intro l J Jx W hW hJ hK hY h0
  have hb : Boxed W Be 90 v := (hW.block Be hbox.lt).trans hbox
  have hEW := hE.below hW (Nat.le_refl _)
  have hgw : ∀ g, v.ownBlock = some g -> g < W.heap.size := fun g e => (hEW.row.lt g e).2
  obtain ⟨A, cap, hv, hle⟩ := hE.empty
  have c0 := hb.cell
  have hbw := hb.lt
  have FR := callsIn_wide (n := 7).2 (from7_any v W A ps.length cap hv)
  have HV := Lib.hid hv
  have HE0 := Lib.hid hEW
  clear hE hEW hv
  refine callsIn_of_wp Tryz.func53 rfl trivial ?_ rfl
  simp only [Tryz.ntmps53, List.size_toArray, List.length_cons, List.length_nil, Nat.reduceAdd, Nat.reduceSub, Array.replicate_succ, Array.replicate_zero, List.push_toArray, List.append_toArray, List.nil_append, List.cons_append]
  gi_wp2_with (refine ⟨trivial, ?_⟩; gi_at_call 54; refine FR.mono ?_; rintro e w' ⟨rfl, rfl⟩)
  gi_loopw [4, 5] (fun _ _ wr => ∃ (pre : List (Nat × Pr)) (n : Nat), n <= ps.length /\ stzP 0 ps = pre ++ stzP n (ps.drop n) /\ Boxed wr W.heap.size 90 v /\ Boxed wr (W.heap.size + 1) 3 (.int .i64 (n : Nat)) /\ J pre wr)
    (fun _ _ wr => ps.length - atOf (W.heap.size + 1) wr)
  case atStart =>
    refine ⟨[], 0, Nat.zero_le _, rfl, ?_, ?_, hJ.alloc _ (hJ.alloc _ h0)⟩
    . exact (Boxed.new W _ _).alloc _
    have := Boxed.new (W.alloc (.cells #[v] 90)) 3 (.int .i64 0)
    rw [World.size_alloc] at this; exact this
  case round =>
  obtain ⟨pre, n, hn, hx, b1, b2, hj⟩ := hrel
  obtain ⟨hE1, hb1⟩ := hK _ _ hj
  have NX0 := next7_any ps v n (W.heap.size + 1) W.heap.size wr hn hps b2 b1 (by omega) hE1 (fun g e => by have := hgw g e; omega)
  have HX := Lib.hid hx
  have HE1 := Lib.hid hE1
  have HB1 := Lib.hid hb1
  have B1 := Lib.hid b1
  have B2 := Lib.hid b2
  clear hE1 hb1 hx b1 b2
  have turn : ∀ (w' : World), Only (· = W.heap.size + 1) wr w' -> Turned W.heap.size 2 wr w' := fun w' ho => ⟨ho.os, ho.tape, ho.output, ho.size, fun r a b => ho.same r a (by omega)⟩
  cases hq : stzP n (ps.drop n) with
  | nil =>
    have NX := callsIn_wide (n := 7).2 (NX0.mono (R' := fun e w' => e = .returned (.tuple #[.int .i64 0, .bool false]) /\ Only (· = W.heap.size + 1) wr w') (by
      rintro e w' ⟨n', b2', ho, hn', (⟨rfl, hs⟩ | ⟨k, p, hk, hk2, rfl, hp, hs⟩)⟩
      . exact ⟨rfl, ho⟩
      rw [hs] at hq; cases hq))
    have HQ := Lib.hid hq
    clear NX0 hq
    gi_wp2_with (refine ⟨trivial, ?_⟩; gi_at_call 77; refine NX.mono ?_; clear NX; rintro e w' ⟨rfl, ho⟩)
    refine ⟨fun _ h => (by cases h), ?_⟩
    gi_wp2
    refine bodyPost_ret (results_none rfl _ _ _) rfl ⟨⟨_, rfl⟩, .inl ?_⟩
    have e0 : stzP 0 ps = pre := by rw [HX.out, HQ.out, List.append_nil]
    rw [e0]
    exact hJ _ _ _ hj (turn _ ho)
  | cons x post =>
  obtain ⟨k, p⟩ := x
  have NX := callsIn_wide (n := 7).2 (NX0.mono (R' := fun e w' => e = .returned (.tuple #[.int .i64 (k : Nat), .bool true]) /\ Only (· = W.heap.size + 1) wr w' /\ n <= k /\ k < ps.length /\ Boxed w' (W.heap.size + 1) 3 (.int .i64 (k + 1 : Nat)) /\ ps[k]? = some p /\ post = stzP (k + 1) (ps.drop (k + 1))) (by
    rintro e w' ⟨n', b2', ho, hn', (⟨rfl, hs⟩ | ⟨k', p', hk, hk2, rfl, hp, hs⟩)⟩
    . rw [hs] at hq; cases hq
    rw [hs] at hq
    cases hq
    subst hk2
    exact ⟨rfl, ho, hk, hn', b2', hp, rfl⟩))
  have HQ := Lib.hid hq
  have hpk : ps[k]? = some p := by
    have := (stzG_mem n (ps.drop n) (k, p) (by rw [show stzG (fun p : Pr => p.1.1.kind) n (ps.drop n) = _ from hq]; exact List.mem_cons_self)).2.1
    have h2 := (stzG_mem n (ps.drop n) (k, p) (by rw [show stzG (fun p : Pr => p.1.1.kind) n (ps.drop n) = _ from hq]; exact List.mem_cons_self)).1
    rw [List.getElem?_drop, show n + ((k, p).1 - n) = k by simp only at h2 ⊢; omega] at this
    exact this
  have hkl0 := (List.getElem?_eq_some_iff.1 hpk).1
  obtain ⟨g, cap', pa, pc, e1, _, hg, e2, d0, d1, d2, d3⟩ := HE1.out.here hpk
  have q0 : wr.cell? ⟨Be, 0, none⟩ = some v := HB1.out.cell
  have hgw' := hgw g (by rw [e1]; rfl)
  rw [e2] at d2
  rw [e1] at q0
  have moved : ∀ (w' : World), Only (· = W.heap.size + 1) wr w' -> w'.cell? ⟨Be, 0, none⟩ = some (.slice (some ⟨g, 0, none⟩) ps.length cap') /\ w'.cell? ⟨g, k * 4, none⟩ = some (.int .i64 p.1.1.kind) /\ w'.cell? ⟨g, k * 4 + 1, none⟩ = some (.string (B p.1.1.raw)) /\ w'.cell? ⟨g, k * 4 + 1 + 1, none⟩ = some (.slice pa p.1.1.fields.length pc) /\ w'.cell? ⟨g, k * 4 + 1 + 1 + 1, none⟩ = some (.int .i64 p.1.2) := fun w' ho =>
    ⟨(World.cell?_of_block (w := wr) (a := ⟨Be, 0, none⟩) (ho.same Be HB1.out.lt (by omega))).trans q0, (World.cell?_of_block (w := wr) (a := ⟨g, k * 4, none⟩) (ho.same g hg (by omega))).trans d0, (World.cell?_of_block (w := wr) (a := ⟨g, k * 4 + 1, none⟩) (ho.same g hg (by omega))).trans d1, (World.cell?_of_block (w := wr) (a := ⟨g, k * 4 + 1 + 1, none⟩) (ho.same g hg (by omega))).trans d2, (World.cell?_of_block (w := wr) (a := ⟨g, k * 4 + 1 + 1 + 1, none⟩) (ho.same g hg (by omega))).trans d3⟩
  have MV := Lib.hid moved
  have T := Lib.hid turn
  have E1 := Lib.hid e1
  have E2 := Lib.hid e2
  have HPK := Lib.hid hpk
  clear NX0 hq moved d0 d1 d2 d3 e1 e2 q0 hpk turn
  gi_wp2_with (refine ⟨trivial, ?_⟩; gi_at_call 77; refine NX.mono ?_; clear NX; rintro e w' ⟨rfl, ho, hk, hkl, b2', hp, hpost⟩; obtain ⟨m0, m1, m2, m3, m4⟩ := MV.out _ ho; clear hp; have HPO := Lib.hid hpost; clear hpost)
  have jw : J pre w' := hJ _ _ _ hj (T.out _ ho)
  have hz := ho.size
  have hz1 := B1.out.lt
  have hz2 := B2.out.lt
  have hxp : stzP 0 ps = pre ++ (k, p) :: post := by rw [HX.out, HQ.out]
  obtain ⟨fn, tmps, assign, body, hy, hR⟩ := hY pre (k, p) post w' hxp (by omega) jw
  dsimp only [entV] at hy
  rw [E2.out] at hy
  rw [hy, Oper.uponIn_round]
  refine ⟨fun h => (by cases h), hR.mono ?_⟩
  clear hR hy
  rintro e W3 (⟨rfl, hJ3, hk3⟩ | ⟨rfl, hJx3⟩)
  . gi_wp2
    go_roundw
    case rel =>
      refine ⟨pre ++ [(k, p)], k + 1, hkl, ?_, ?_, ?_, hJ3⟩
      . rw [hxp, HPO.out, List.append_assoc, List.singleton_append]
      . exact (hk3.same _ (by omega) (by omega)).trans ((ho.same _ hz1 (by omega)).trans B1.out)
      exact (hk3.same _ (by omega) (by omega)).trans b2'
    case measure =>
    rw [atOf_eq B2.out, atOf_eq (B := W.heap.size + 1) (w := W3) (n := k + 1) ((hk3.same _ (by omega) (by omega)).trans b2')]
    omega
  gi_wp2
  refine bodyPost_ret (results_none rfl _ _ _) rfl ⟨⟨_, rfl⟩, .inr ⟨_, ⟨post, ?_⟩, hJx3⟩⟩
  rw [hxp, List.append_assoc, List.singleton_append]
end Go.Proofs.YtfjklpgmnakcaaaGreatDoor
namespace Go.Proofs.YtfjklpgmnakcaaaGreatDoor
open Go.RowKit Go.Shelf
attribute [local go_sem] Oper.semAt_some
structure LR (w : World) (lb : Nat) (ev : Value) (ps : List Pr) (nx : Int) : Prop where
  head : Cells w lb 99 #[ev, .int .i64 (nx - 1)]
  ents : EntsR w ev ps
theorem LR.below {w w' : World} {lb : Nat} {ev : Value} {ps : List Pr} {nx : Int} {n : Nat} (h : LR w lb ev ps nx) (hb : Below n w w') (hn : w.heap.size <= n) : LR w' lb ev ps nx :=
  ⟨h.head.below hb (Nat.lt_of_lt_of_le h.head.lt hn), h.ents.below hb hn⟩
abbrev ptr (b : Nat) : Value := .pointer (some ⟨b, 0, none⟩)
theorem all_any (lb : Nat) (ev : Value) (ps : List Pr) (nx : Int) (w : World) (h : LR w lb ev ps nx) :
    Calls Tryz.prog 34 #[ptr lb] w fun e w' => e = .returned ev /\ w = w' := by
  obtain ⟨A, cap, rfl, hle⟩ := h.ents.empty
  have c0 : w.cell? ⟨lb, 0, none⟩ = some (.slice A ps.length cap) := h.head.cell 0
  clear h
  unfold ptr
  go_enter Tryz.func34, Tryz.ntmps34
  go_wp2_with fail
  go_ret
  exact ⟨rfl, rfl⟩
def findP (ps : List Pr) (id : Int) : Option Nat := ((stzP 0 ps).find? fun x => x.2.1.2 == id).map Prod.fst
def foundV (o : Option Nat) : Value := match o with | none => .tuple #[.int .i64 0, .bool false] | some k => .tuple #[.int .i64 (k : Nat), .bool true]
def AllR (w : World) (l v : Value) (ps : List Pr) : Prop := EntsR w v ps /\ Calls Tryz.prog 34 #[l] w fun e w' => e = .returned v /\ w = w'
theorem AllR.of {w : World} {lb : Nat} {ev : Value} {ps : List Pr} {nx : Int} (h : LR w lb ev ps nx) : AllR w (ptr lb) ev ps := ⟨h.ents, all_any lb ev ps nx w h⟩
theorem find_none {ps : List Pr} {id : Int} (h : ∀ y ∈ stzP 0 ps, y.2.1.2 ≠ id) : findP ps id = none := by
  unfold findP
  rw [List.find?_eq_none.2 (fun x hx => by simpa using h x hx)]; rfl
theorem find_some {ps : List Pr} {id : Int} {pre post : List (Nat × Pr)} {x : Nat × Pr} (h : stzP 0 ps = pre ++ x :: post) (h1 : ∀ y ∈ pre, y.2.1.2 ≠ id) (h2 : x.2.1.2 = id) : findP ps id = some x.1 := by
  unfold findP
  rw [h, List.find?_append, List.find?_eq_none.2 (fun y hy => by simpa using h1 y hy), List.find?_cons_of_pos (by simpa using h2)]; rfl
theorem entBox {W : World} {Bx : Nat} {p : Pr} (h : Cells W Bx 93 #[.int .i64 p.1.1.kind, .string (B p.1.1.raw), p.2, .int .i64 p.1.2]) : W.cell? ⟨Bx, 0, none⟩ = some (.int .i64 p.1.1.kind) /\ W.cell? ⟨Bx, 1, none⟩ = some (.string (B p.1.1.raw)) /\ W.cell? ⟨Bx, 2, none⟩ = some p.2 /\ W.cell? ⟨Bx, 3, none⟩ = some (.int .i64 p.1.2) :=
  ⟨h.cell 0, h.cell 1, h.cell 2, h.cell 3⟩
theorem findOut {Q : Ending -> World -> Prop} (w W : World) (v e : Value) (tmps : Array Value) (hv1 : v.oneCell' = true) (he1 : e.oneCell' = true) (h4 : Boxed W (w.heap.size + 1) 3 v) (h5 : Boxed W (w.heap.size + 1 + 1) 4 e) (hB : Below w.heap.size w W)
    (hK : W.heap[w.heap.size + 4]? = some (.deferred (some []))) (t4 : tmps[4]? = some (.pointer (some ⟨w.heap.size + 1, 0, none⟩))) (t5 : tmps[5]? = some (.pointer (some ⟨w.heap.size + 1 + 1, 0, none⟩)))
    (hQ : ∀ W', Below w.heap.size w W' -> Q (.returned (.tuple #[v, e])) W') :
    bodyPostM Fence.wide 9 Tryz.prog Tryz.f71 Q .ret { tmps := tmps, defers := [{ target := .collected (w.heap.size + 4), args := #[] }] } W := by
  have p1 := grownBy_putObj' W (w.heap.size + 4) (.deferred none)
  have r4 : Boxed (W.putObj (w.heap.size + 4) (.deferred none)) (w.heap.size + 1) 3 v := (p1.block _ h4.lt (fun e => by have := Option.some.inj e; omega)).trans h4
  have r5 : Boxed (W.putObj (w.heap.size + 4) (.deferred none)) (w.heap.size + 1 + 1) 4 e := (p1.block _ h5.lt (fun e => by have := Option.some.inj e; omega)).trans h5
  have c4 := r4.cell
  have c5 := r5.cell
  refine ⟨by simp, .inl ⟨_, _, rfl, run_takeDeferred hK, ?_⟩⟩
  exact ⟨.tuple #[v, e], by simp [results, Tryz.f71, go_sem, t4, t5, c4, c5], hQ _ (hB.trans (belowK_b (w := w) (Nat.le_refl _) W _ _ _ (by omega) hK rfl rfl))⟩
theorem find_gen (ps : List Pr) (v : Value) (q : Option Addr) (id : Int) (w : World) (hl : ∀ W, Below w.heap.size w W -> AllR W (.pointer q) v ps) (hps : ps.length <= 1000000) :
    Calls Tryz.prog 71 #[.pointer q, .int .i64 id] w fun e w' => e = .returned (foundV (findP ps id)) /\ Below w.heap.size w w' := by
  obtain ⟨A, cap, hv, hle⟩ := (hl w (Below.refl _ _)).1.empty
  have ALL := Lib.hid (fun W hB => callsIn_wide (n := 8).2 (hl W hB).2)
  have HE := Lib.hid (fun W hB => (hl W hB).1)
  have ST := Lib.hid (fun W => callsIn_wide (n := 8).2 (stz7_any v W A ps.length cap hv))
  have HV := Lib.hid hv
  clear hl hv
  refine callsIn_wide (n := 9).1 ?_
  refine callsIn_of_wp_marks Tryz.func71 rfl trivial ?_ rfl
  simp only [Tryz.ntmps71, List.size_toArray, List.length_cons, List.length_nil, Nat.reduceAdd, Nat.reduceSub, Array.replicate_succ, Array.replicate_zero, List.push_toArray, List.append_toArray, List.nil_append, List.cons_append]
  gi_wp2_with fail
  have hb0 : Below w.heap.size w (((w.alloc (.cells #[.int .i64 id] 3)).alloc (.cells #[.int .i64 0] 3)).alloc (.cells #[.bool false] 4)) := (((Below.refl _ w).alloc (Nat.le_refl _) _).alloc (by simp) _).alloc (by simp; omega) _
  refine ⟨trivial, (ALL.out _ hb0).mono ?_⟩
  rintro e w1 ⟨rfl, rfl⟩
  gi_wp2_with fail
  refine ⟨trivial, (ST.out _).mono ?_⟩
  rintro e w1 ⟨rfl, rfl⟩
  gi_wp2_with fail
  obtain ⟨w1, hw1⟩ : ∃ w1, w1 = ((((w.alloc (.cells #[.int .i64 id] 3)).alloc (.cells #[.int .i64 0] 3)).alloc (.cells #[.bool false] 4)).alloc (.cells #[v] 90)) := ⟨_, rfl⟩
  have hz : w1.heap.size = w.heap.size + 4 := by rw [hw1]; simp
  have B0 : Boxed w1 w.heap.size 3 (.int .i64 id) := by rw [hw1]; exact (((Boxed.new w _ _).alloc _).alloc _).alloc _
  have B1 : Boxed w1 (w.heap.size + 1) 3 (.int .i64 0) := by rw [hw1]; exact ((boxNew2 w _ _ _).alloc _).alloc _
  have B2 : Boxed w1 (w.heap.size + 1 + 1) 4 (.bool false) := by rw [hw1]; exact (boxNew3 w _ _ _ _).alloc _
  have B3 : Boxed w1 (w.heap.size + 1 + 1 + 1) 90 v := by rw [hw1]; exact boxNew4 w _ _ _ _ _
  have hb1 : Below w.heap.size w w1 := by rw [hw1]; exact hb0.alloc (by simp; omega) _
  rw [<- hw1]
  clear hw1 hb0
  have HH := stz_hands ps v _ w1 B3 hps (HE.out _ hb1)
  refine wp_rangedKA (gf := 53) (lb := #[.pointer (some ⟨w.heap.size + 1 + 1 + 1, 0, none⟩)]) rfl (enters_of Tryz.func53 (by kernel_rfl) rfl) HH (fun _ => rfl)
    (fun pre W => (∀ y ∈ pre, y.2.1.2 ≠ id) /\ Boxed W w.heap.size 3 (.int .i64 id) /\ Boxed W (w.heap.size + 1) 3 (.int .i64 0) /\ Boxed W (w.heap.size + 1 + 1) 4 (.bool false) /\ Boxed W (w.heap.size + 1 + 1 + 1) 90 v /\ Below w.heap.size w W)
    (fun c pre W => c = .ret /\ (∃ k, findP ps id = some k /\ Boxed W (w.heap.size + 1) 3 (.int .i64 (k : Nat)) /\ Boxed W (w.heap.size + 1 + 1) 4 (.bool true) /\ Below w.heap.size w W))
    (by
      rw [hz]
      exact (Abide.pure _ _ _).and ((Abide.box (.inl (by omega)) _).and ((Abide.box (.inl (by omega)) _).and ((Abide.box (.inl (by omega)) _).and ((Abide.box (.inl (by omega)) _).and (Abide.below (Nat.le_refl _) (by omega)))))))
    (by
      rw [hz]
      rintro c s W W' ⟨h0, k, h1, h2, h3, h4⟩ ht
      exact ⟨h0, k, h1, ht.box h2 (.inl (by omega)), ht.box h3 (.inl (by omega)), h4.trans (ht.below (by omega) (by have := h4.size; omega))⟩)
    ⟨(fun y h => by cases h), B0, B1, B2, B3, hb1⟩
    (fun pre W h => ⟨HE.out _ h.2.2.2.2.2, h.2.2.2.2.1⟩)
    (fun a pre x a' W => ∃ Bx, w.heap.size + 8 <= Bx /\ a' = { tmps := (((a.tmps.setIfInBounds 11 (.int .i64 (x.1 : Nat))).setIfInBounds 12 (entV x.2)).setIfInBounds 6 (.int .i64 (x.1 : Nat))).setIfInBounds 7 (ptr Bx), defers := [] } /\ Cells W Bx 93 #[.int .i64 x.2.1.1.kind, .string (B x.2.1.1.raw), x.2.2, .int .i64 x.2.1.2] /\
      (∀ y ∈ pre, y.2.1.2 ≠ id) /\ Boxed W w.heap.size 3 (.int .i64 id) /\ Boxed W (w.heap.size + 1) 3 (.int .i64 0) /\ Boxed W (w.heap.size + 1 + 1) 4 (.bool false) /\ Boxed W (w.heap.size + 1 + 1 + 1) 90 v /\ Below w.heap.size w W)
    ?hM ?assign ?body ?done ?stop
  case hM =>
    rw [hz]
    rintro a pre x a' _ W W' ⟨Bx, h1, h2, h3, h4, h5, h6, h7, h8, h9⟩ ht
    exact ⟨Bx, h1, h2, (ht.same Bx h3.lt (.inr (by omega))).trans h3, h4, ht.box h5 (.inl (by omega)), ht.box h6 (.inl (by omega)), ht.box h7 (.inl (by omega)), ht.box h8 (.inl (by omega)), h9.trans (ht.below (by omega) (by have := h9.size; omega))⟩
  case assign =>
    rw [hz]
    intro l pre x post W hx hsz hi
    have hfr : ∃ fa fc, x.2.2 = .slice fa x.2.1.1.fields.length fc := by
      have hm := stzG_mem 0 ps x (by rw [show stzG (fun p : Pr => p.1.1.kind) 0 ps = _ from hx]; simp)
      exact ((HE.out _ hi.2.2.2.2.2).each x.2 (List.mem_of_getElem? hm.2.1)).form
    obtain ⟨k, ⟨⟨⟨kd, raw, fs⟩, num⟩, fv⟩⟩ := x
    obtain ⟨fa, fc, e⟩ := hfr
    dsimp only at e
    subst e
    clear hx
    dsimp only [entV]
    gi_wp2
    exact ⟨(Stay.refl _ _ W).alloc hsz _, W.heap.size, by omega, rfl, Cells.new _ _ _, hi.1, hi.2.1.alloc _, hi.2.2.1.alloc _, hi.2.2.2.1.alloc _, hi.2.2.2.2.1.alloc _, hi.2.2.2.2.2.alloc hi.2.2.2.2.2.size _⟩
  case body =>
    rw [hz]
    rintro l pre x post a' W hx hsz ⟨Bx, hB, rfl, hc, hpre, b0, b1, b2, b3, hb⟩
    simp only [List.setIfInBounds_toArray, List.set_cons_zero, List.set_cons_succ, entV]
    have q3 := (entBox hc).2.2.2
    have c0 := b0.cell
    have c1 := b1.cell
    have c2 := b2.cell
    have f1 := b1.frozen
    have f2 := b2.frozen
    have FS := Lib.hid (fun h => find_some hx hpre h)
    have HPRE := Lib.hid hpre
    clear hpre hx
    by_cases hq : x.2.1.2 = id
    . rw [hq] at q3
      gi_wp2_with fail
      have hst : Stay (w.heap.size + 4) 4 W ((W.setCell ⟨w.heap.size + 1, 0, none⟩ (.int .i64 (x.1 : Nat))).setCell ⟨w.heap.size + 1 + 1, 0, none⟩ (.bool true)) := ((Stay.refl _ _ W).setCell (.inl (by show w.heap.size + 1 < _; omega)) _).setCell (.inl (by show w.heap.size + 1 + 1 < _; omega)) _
      refine ⟨hst, rfl, x.1, FS.out hq, (Boxed.set _ b1).other (by show w.heap.size + 1 ≠ w.heap.size + 1 + 1; omega) _, Boxed.set _ (b2.other (by show w.heap.size + 1 + 1 ≠ w.heap.size + 1; omega) _), ?_⟩
      exact (hb.setCell (p := ⟨w.heap.size + 1, 0, none⟩) (by show w.heap.size <= w.heap.size + 1; omega) _).setCell (p := ⟨w.heap.size + 1 + 1, 0, none⟩) (by show w.heap.size <= w.heap.size + 1 + 1; omega) _
    have hq' : ((x.2.1.2 : Int) == id) = false := beq_eq_false_iff_ne.2 hq
    gi_wp2_with fail
    refine ⟨Stay.refl _ _ _, ?_, b0, b1, b2, b3, hb⟩
    intro y hy
    rcases List.mem_append.1 hy with h | h
    . exact HPRE.out y h
    rw [List.mem_singleton.1 h]; exact hq
  case done =>
    rw [hz]
    rintro W ⟨hpre, b0, b1, b2, b3, hb⟩ hK
    have c1 := b1.cell
    have c2 := b2.cell
    have f1 := b1.frozen
    have f2 := b2.frozen
    have FN := Lib.hid (find_none hpre)
    have zK := (Array.getElem?_eq_some_iff.1 hK).1
    clear hpre
    gi_wp2_with fail
    refine findOut w _ (.int .i64 0) (.bool false) _ rfl rfl ((Boxed.set _ b1).other (by show w.heap.size + 1 ≠ w.heap.size + 1 + 1; omega) _) (Boxed.set _ (b2.other (by show w.heap.size + 1 + 1 ≠ w.heap.size + 1; omega) _))
      ((hb.setCell (p := ⟨w.heap.size + 1, 0, none⟩) (by show w.heap.size <= w.heap.size + 1; omega) _).setCell (p := ⟨w.heap.size + 1 + 1, 0, none⟩) (by show w.heap.size <= w.heap.size + 1 + 1; omega) _)
      (((Below.heap_setCell _ _ _ _ (by show w.heap.size + 4 ≠ w.heap.size + 1 + 1; omega)).trans (Below.heap_setCell _ _ _ _ (by show w.heap.size + 4 ≠ w.heap.size + 1; omega))).trans hK) rfl rfl (fun W' h => ⟨?_, h⟩)
    rw [FN.out]; rfl
  case stop =>
  rw [hz]
  rintro c pre W _ ⟨rfl, k, hk, b1, b2, hb⟩ hK
  gi_wp2_with fail
  refine findOut w _ (.int .i64 (k : Nat)) (.bool true) _ rfl rfl b1 b2 hb hK rfl rfl (fun W' h => ⟨?_, h⟩)
  rw [hk]; rfl
end Go.Proofs.YtfjklpgmnakcaaaGreatDoor
