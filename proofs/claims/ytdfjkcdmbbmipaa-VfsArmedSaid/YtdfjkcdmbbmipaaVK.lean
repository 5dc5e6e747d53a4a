/- maps.Clone, and what waits of a directory made sure: (*directory).keep. -/
import Derived.Test.YtdfjkcdmbbmipaaVJ
import Derived.Shelf.SlMaps.Clone
import Derived.BigRegion
namespace Go.Proofs.Ytdfjkcdmbbmipaa
open Go.RowKit Go.Maps
attribute [local go_sem] mapSome mapNil

set_option maxRecDepth 100000 in
set_option maxHeartbeats 1000000 in
theorem clone_some (b n : Nat) (l : Dir) (w : World) (ho : w.ownsMap Try.prog 9 (plainElem Try.prog 3) b n (dmapD l)) :
    Calls Try.prog 73 #[.map (some b)] w fun e w' => e = .returned (.map (some w.heap.size)) ∧ w'.ownsMap Try.prog 9 (plainElem Try.prog 3) w.heap.size n (dmapD l) ∧ Below w.heap.size w w' ∧ w'.heap.size = w.heap.size + 1 := by
  obtain ⟨es, clock, hb, F, hs, hD⟩ := ho
  have fin : Calls Try.prog 73 #[.map (some b)] w fun e w' => e = .returned (.map (some w.heap.size)) ∧ w' = w.alloc (.map es clock) := by
    clear F hs hD
    go_enter Try.func73, Try.ntmps73
    go_wp2
    rw [run_callFunc_extern Try.func82 (by kernel_rfl) (by kernel_rfl) (by kernel_rfl) (e := Extern.MapsClone.clone) (by kernel_rfl), run_maps_clone_sl w 70 hb]
    simp only [Result.andThen]
    rw [Oper.upon_value]
    go_wp2
    rw [run_typeAssert_map_sl _ 70 20 _ _ _ Try.underlying70]
    simp only [Result.andThen]
    rw [Oper.upon_value]
    go_wp2
    go_ret
    exact ⟨rfl, rfl⟩
  refine fin.mono fun e w' ⟨he, hw⟩ => ?_
  subst hw
  exact ⟨he, ⟨es, clock, (MapKept.heap_alloc w _).1, F, hs, hD⟩, (Below.refl _ w).alloc (Nat.le_refl _) _, by simp⟩
theorem clone_none (w : World) : Calls Try.prog 73 #[.map none] w fun e w' => e = .returned (.map none) ∧ w = w' := by
  go_enter Try.func73, Try.ntmps73
  go_wp2
  go_ret
  exact ⟨rfl, rfl⟩

def changesCells (l : List ChangeA) : List Value := l.flatMap ChangeA.cells
def dplay (cs : List ChangeA) (l : Dir) : Dir := cs.foldl (fun l c => capply c.off.data.toList c.on.data.toList c.file l) l
theorem changes_at (cs : List ChangeA) (k : Nat) (h : k < cs.length) : (changesCells cs)[k * 3]? = some (.string cs[k].off) ∧ (changesCells cs)[k * 3 + 1]? = some (.string cs[k].on) ∧ (changesCells cs)[k * 3 + 2]? = some (.int .i64 cs[k].file) := by
  induction cs generalizing k with
  | nil => simp at h
  | cons c cs ih =>
    have e : changesCells (c :: cs) = [.string c.off, .string c.on, .int .i64 c.file] ++ changesCells cs := rfl
    rw [e]
    cases k with
    | zero => exact ⟨rfl, rfl, rfl⟩
    | succ k =>
      have := ih k (by simpa using h)
      simp only [List.getElem_cons_succ]
      rw [List.getElem?_append_right (by simp; omega), List.getElem?_append_right (by simp; omega), List.getElem?_append_right (by simp; omega)]
      simp only [List.length_cons, List.length_nil]
      rw [show (k + 1) * 3 - (0 + 1 + 1 + 1) = k * 3 by omega, show (k + 1) * 3 + 1 - (0 + 1 + 1 + 1) = k * 3 + 1 by omega, show (k + 1) * 3 + 2 - (0 + 1 + 1 + 1) = k * 3 + 2 by omega]
      exact this
theorem row_at {w : World} {base : Nat} {e : TypeId} {size : Nat} {g n cap : Nat} {xs : List Value} (h : w.ownsRow base e size (.slice (some ⟨g, 0, none⟩) n cap) n xs) {j : Nat} {u : Value} (hj : xs[j]? = some u) : w.cell? ⟨g, j, none⟩ = some u := by
  have := h.cells (g := g) rfl j u hj
  have e : (⟨g, 0, none⟩ : Addr).add j = ⟨g, j, none⟩ := by unfold Addr.add; split <;> simp_all
  rwa [e] at this

/-- A directory of which what waited is sure, or lost. -/
structure DKept (p : Nat) (cells : Value → Value → Array Value) (v5 : Value) (nm : Nat) (l : Dir) (w w' : World) : Prop where
  ex : ∃ v6', Cells w' p 76 (cells v6' (.slice none 0 0)) ∧ MapAt w' nm v5 l ∧ MapAt w' nm v6' l ∧ (v5 = .map none ↔ v6' = .map none) ∧ (mapBlock v6' = none ∨ ∃ k, mapBlock v6' = some k ∧ w.heap.size ≤ k ∧ k < w'.heap.size)
  only : Only (fun r => r = p ∨ some r = mapBlock v5) w w'
/-- How many of m are kept. -/
def keptN (n : Int) (m : Nat) : Nat := min n.toNat m
set_option maxRecDepth 100000 in
set_option maxHeartbeats 2000000 in
theorem dkeep_some (p : Nat) (units left : Int) (armed gone : Bool) (room : Int) (b5 : Nat) (v6 v8 v9 : Value) (nm : Nat) (ls : Dir) (g cap : Nat) (cs : List ChangeA) (n : Int) (w : World)
    (hd : Cells w p 76 (diskCells units armed left gone room (.map (some b5)) v6 (.slice (some ⟨g, 0, none⟩) cs.length cap) v8 v9)) (h5 : w.ownsMap Try.prog 9 (plainElem Try.prog 3) b5 nm (dmapD ls))
    (hown : w.ownsRow 0 103 3 (.slice (some ⟨g, 0, none⟩) cs.length cap) cs.length (changesCells cs)) (a1 : g ≠ p) (a2 : b5 ≠ p) (a3 : g ≠ b5)
    (hnm : nm + cs.length ≤ 1000000) (hs : ∀ c ∈ cs, c.off.size ≤ 1000000 ∧ c.on.size ≤ 1000000 ∧ c.file ≤ 1000000) (hw : (Lit.int .i64 n).wf = true) :
    Calls Try.prog 49 #[.pointer (some ⟨p, 5, none⟩), .int .i64 n] w fun e w' => e = .returned (.tuple #[]) ∧
      DKept p (fun x y => diskCells units armed left gone room (.map (some b5)) x y v8 v9) (.map (some b5)) (nm + cs.length) (dplay (cs.take (keptN n cs.length)) ls) w w' := by
  have hn : -9223372036854775808 ≤ n ∧ n ≤ 9223372036854775807 := by
    simpa [Lit.wf, IntKind.min, IntKind.max, IntKind.signed, IntKind.bits] using hw
  obtain ⟨hn1, hn2⟩ := hn
  have hkle : keptN n cs.length ≤ cs.length := Nat.min_le_right _ _
  have hm : (min (max n 0) (cs.length : Int)) = (keptN n cs.length : Int) := by unfold keptN; omega
  have hcapn : cs.length ≤ cap ∧ cap ≤ maxLen := by
    rcases hown.2 with ⟨h, _⟩ | ⟨_, _, _, h, _, _, h1, h2, _⟩
    · cases h
    · cases h; exact ⟨h1, h2⟩
  obtain ⟨hc1, hc2⟩ := hcapn
  have d7 : w.cell? ⟨p, 7, none⟩ = some (.slice (some ⟨g, 0, none⟩) cs.length cap) := hd.cell 7
  have hpl := hd.lt
  have HO := Lib.hid hown
  have H5 := Lib.hid h5
  have HS := Lib.hid hs
  clear hown h5 hs
  go_enter Try.func49, Try.ntmps49
  go_wp2
  go_quiet (fail)
  go_wp2
  go_loopw [20] (fun i wr => ∃ k : Nat, k ≤ keptN n cs.length ∧ i = .int .i64 k ∧ wr.ownsMap Try.prog 9 (plainElem Try.prog 3) b5 (nm + k) (dmapD (dplay (cs.take k) ls)) ∧ Only (· = b5) w wr) (fun i _ => keptN n cs.length - (intOf i).toNat)
  case atStart => exact ⟨0, Nat.zero_le _, rfl, H5.out, (Only.refl (· = b5) w).drewN nq⟩
  case round =>
    obtain ⟨k, hk, rfl, hmk, honk⟩ := hrel
    by_cases hlt : k < keptN n cs.length
    · have hlt2 : k < cs.length := by omega
      obtain ⟨q0, q1, q2⟩ := changes_at cs k hlt2
      have hr := row_only HO.out honk (fun b hb e => a3 (by cases hb; exact e))
      have r0 := row_at hr q0
      have r1 := row_at hr q1
      have r2 := row_at hr q2
      obtain ⟨s1, s2, s3⟩ := HS.out cs[k] (List.getElem_mem hlt2)
      have ht : cs.take (k + 1) = cs.take k ++ [cs[k]] := by rw [List.take_succ_eq_append_getElem hlt2]
      have hfold : dplay (cs.take (k + 1)) ls = capply cs[k].off.data.toList cs[k].on.data.toList cs[k].file (dplay (cs.take k) ls) := by unfold dplay; rw [ht, List.foldl_append]; rfl
      have HF := Lib.hid hfold
      have hd1 : Cells wr p 76 _ := hd.only honk (fun e => a2 e.symm)
      have d5 : wr.cell? ⟨p, 5, none⟩ = some (.map (some b5)) := hd1.cell 5
      have hpl1 := hd1.lt
      have HM := Lib.hid hmk
      have HN := Lib.hid honk
      have hgr : g < wr.heap.size := (hr.lt g rfl).2
      generalize cs[k].off = off at *
      generalize cs[k].on = on at *
      generalize cs[k].file = file at *
      have C := fun W (hm : W.ownsMap Try.prog 9 (plainElem Try.prog 3) b5 (nm + k) (dmapD (dplay (cs.take k) ls))) => apply_any off on file b5 (nm + k) (dplay (cs.take k) ls) W hm (by omega) s1 s2 s3
      have HC := Lib.hid C
      clear C q0 q1 q2 hfold ht hmk honk hr s1 s2 s3
      have hsz := hn1
      go_wp2
      go_region_law ((go_simp; go_at_call 72; refine (HC.out _ ((HM.out.alloc _).drew)).mono ?_; rintro e w1 ⟨rfl, hm1, hon1⟩))
      all_goals
        have HM1 := Lib.hid hm1
        have HN1 := Lib.hid hon1
        clear hm1 hon1
        go_wp2
        go_roundw
        case rel => exact ⟨k + 1, by omega, by go_num, by rw [HF.out]; exact HM1.out, HN.out.trans ((((Only.refl (· = b5) wr).alloc _).drew).trans HN1.out (fun _ _ h => h)) (fun _ _ h => h)⟩
        case measure => simp [intOf]; omega
    · obtain rfl : k = keptN n cs.length := by omega
      have hd1 : Cells wr p 76 _ := hd.only honk (fun e => a2 e.symm)
      have d7' : wr.cell? ⟨p, 7, none⟩ = some (.slice (some ⟨g, 0, none⟩) cs.length cap) := hd1.cell 7
      have f7' := hd1.frozen 7
      have hd2 := hd1.set 7 (.slice none 0 0)
      have d5' := hd2.cell 5
      have d6' := hd2.cell 6
      simp [diskCells] at d5' d6'
      have HD2 := Lib.hid hd2
      have HM := Lib.hid (hmk.mono (n' := nm + cs.length) (by omega))
      have HN := Lib.hid honk
      have C := clone_some b5 (nm + cs.length) (dplay (cs.take (keptN n cs.length)) ls) (wr.setCell ⟨p, 7, none⟩ (.slice none 0 0)) (HM.out.setCell (a := ⟨p, 7, none⟩) a2 _)
      have HC := Lib.hid C
      clear hmk honk hd2 C
      go_wp2_with fail
      refine HC.out.mono ?_
      rintro e w2 ⟨rfl, hm2, hb2, hs2⟩
      have hz : (wr.setCell ⟨p, 7, none⟩ (.slice none 0 0)).heap.size = wr.heap.size := by simp [World.setCell]
      rw [hz] at hm2 hb2 hs2
      have hd3 := HD2.out.below hb2 hd1.lt
      have d6'' := hd3.cell 6
      have f6'' := hd3.frozen 6
      simp [diskCells] at d6''
      have hon2 : Only (fun r => r = p ∨ some r = mapBlock (.map (some b5))) w w2 :=
        ((HN.out.mono (S' := fun r => r = p ∨ some r = mapBlock (.map (some b5))) (fun r _ h => .inr (by rw [h]; rfl))).setCell (p := ⟨p, 7, none⟩) (.inl (.inl rfl)) _).below hb2 HN.out.size
      have hm5 : w2.ownsMap Try.prog 9 (plainElem Try.prog 3) b5 (nm + cs.length) (dmapD (dplay (cs.take (keptN n cs.length)) ls)) := by
        obtain ⟨es, clock, hk5, r⟩ := HM.out.setCell (a := ⟨p, 7, none⟩) a2 (.slice none 0 0)
        exact ⟨es, clock, (hb2.block b5 HM.out.lt).trans hk5, r⟩
      have P := Lib.hid (show DKept p (fun x y => diskCells units armed left gone room (.map (some b5)) x y v8 v9) (.map (some b5)) (nm + cs.length) (dplay (cs.take (keptN n cs.length)) ls) w (w2.setCell ⟨p, 6, none⟩ (.map (some wr.heap.size))) from by
        have hwl := HN.out.size
        have hpw := hd1.lt
        refine ⟨⟨.map (some wr.heap.size), by simpa [diskCells] using hd3.set 6 (.map (some wr.heap.size)), .inr ⟨b5, rfl, hm5.setCell (a := ⟨p, 6, none⟩) a2 _⟩, .inr ⟨_, rfl, hm2.setCell (a := ⟨p, 6, none⟩) (by show _ ≠ p; omega) _⟩, by simp, .inr ⟨_, rfl, hwl, by simp [World.setCell]; omega⟩⟩, hon2.setCell (p := ⟨p, 6, none⟩) (.inl (.inl rfl)) _⟩)
      clear HC HM HN HD2 hm2 hb2 hs2 hz hd3 hon2 hm5 d5' d6' d7' f7'
      go_wp2
      go_end0
      exact ⟨rfl, P.out⟩
end Go.Proofs.Ytdfjkcdmbbmipaa
