/- Texts put together. -/
import Derived.Test.YtiebbgbcojgeoaaBap23
set_option linter.unusedVariables false
namespace Go.Proofs.Ytiebbgbcojgeoaa
open Go.RowKit Go.Maps Go.Sort Go.Shelf
attribute [local go_sem] Oper.semAt_some

theorem infoInt8 : (Try.prog.info? 3).map (fun i => (i.zero, i.size, i.bytes)) = some (some (.int .i64 0), 1, 8) := by kernel_rfl
theorem hldA {w w' : World} {o : Obj} (h : Below w.heap.size w w') : Below w.heap.size w (w'.alloc o) := h.alloc h.size o
theorem AccN.kept {w wr W : World} {e : TypeId} {sz n : Nat} {v : Value} {xs : List Value} (h : AccN w wr e sz v n xs) (hb : Below wr.heap.size wr W) : AccN w W e sz v n xs := ⟨row_belowZ h.row hb (Nat.le_refl _), h.below.trans (hb.mono h.below.size)⟩
/-- A row of numbers made anew. -/
def AccJ (w wr : World) (v : Value) (zs : List Int) : Prop := AccN w wr 3 1 v zs.length (zs.map encZ)
theorem AccJ.app {w wr W w' : World} {v v' : Value} {zs : List Int} {z : Int} (h : AccJ w wr v zs) (ho : w'.ownsRow w.heap.size 3 1 v' (zs.length + 1) (zs.map encZ ++ [.int .i64 z])) (hg : W.grownBy w' v.ownBlock) (hb : Below wr.heap.size wr W) : AccJ w w' v' (zs ++ [z]) := by
  have hz := h.below.size
  have hz2 := hb.size
  refine ⟨?_, (h.below.trans (hb.mono hz)).grown hg (Nat.le_trans hz hz2) (fun b e2 => (h.row.lt b e2).1)⟩
  rw [List.length_append, List.map_append]; exact ho
theorem who_snoc (l : List Sz) (a : Sz) (k : List UInt8) (p : List UInt8 → Bool) : whoR (l ++ [a]) k p = if (a.2.any fun f => f.1 == k && p f.2) then whoR l k p ++ [a.1] else whoR l k p := by
  unfold whoR
  rw [List.filter_append]
  cases e : (a.2.any fun f => f.1 == k && p f.2) with
  | true => rw [if_pos rfl, List.filter_cons_of_pos (by simpa using e)]; simp
  | false => rw [if_neg (by simp), List.filter_cons_of_neg (by simpa using e)]; simp
theorem any_snoc8 (l : List (List UInt8 × List UInt8)) (j : Nat) (f : List UInt8 × List UInt8) (p : List UInt8 × List UInt8 → Bool) (h : l[j]? = some f) : (l.take (j + 1)).any p = ((l.take j).any p || p f) := by
  rw [List.take_add_one, h, List.any_append]; simp
theorem bless8 (a b : List UInt8) : Op.bytesLess (B a).toList (B b).toList = decide (a < b) := by rw [Lib.toList_data, Lib.toList_data, bytesLess_eq, B_data, B_data]
theorem bsame8 (a b : List UInt8) : ((B a).toList == (B b).toList) = decide (a = b) := by rw [Lib.toList_data, Lib.toList_data, B_data, B_data, Bool.eq_iff_iff]; simp
theorem bleq8 (a b : List UInt8) : (Op.bytesLess (B a).toList (B b).toList || (B a).toList == (B b).toList) = decide (a ≤ b) := by
  have := leS (B a) (B b)
  rw [B_data, B_data] at this
  exact this
set_option maxRecDepth 100000 in
set_option maxHeartbeats 8000000 in
theorem refBetween_any (l : List Sz) (key lo hi : List UInt8) (all : Bool) (v : Value) (w : World) (h : SzD w v l) (hl : l.length ≤ 100000) (hn : ∀ s ∈ l, s.2.length ≤ 1000000) :
    Calls Try.prog 31 #[v, .string (B key), .string (B lo), .string (B hi), .bool all] w fun e w' => ∃ u, e = .returned u ∧ AccJ w w' u (whoR l key fun t => all || betw lo hi t) := by
  obtain ⟨i0, hi0, hz0, hz1, hz2⟩ := info_parts infoInt8
  obtain ⟨A, cap, rfl, hle, hc⟩ := h
  have HC := Lib.hid hc
  have HN := Lib.hid hn
  clear hc hn
  go_enter Try.func31, Try.ntmps31
  go_wp2_with fail
  go_loopw [11, 12] (fun o i wr => ∃ k : Nat, k ≤ l.length ∧ i = .int .i64 k ∧ AccJ w wr o (whoR (l.take k) key fun t => all || betw lo hi t)) (fun _ i _ => l.length - (intOf i).toNat)
  case atStart => exact ⟨0, Nat.zero_le _, rfl, AccN.start _ _ _ _ (Below.refl _ _)⟩
  case round =>
    obtain ⟨k, hk, rfl, hacc⟩ := hrel
    by_cases hlt : k < l.length
    · obtain ⟨a, ha⟩ : ∃ a, l[k]? = some a := ⟨_, List.getElem?_eq_getElem hlt⟩
      have TK := Lib.hid ((show whoR (l.take (k + 1)) key (fun t => all || betw lo hi t) = whoR (l.take k ++ [a]) key (fun t => all || betw lo hi t) by rw [List.take_add_one, ha]; rfl).trans (who_snoc (l.take k) a key fun t => all || betw lo hi t))
      have hln := HN.out a (List.mem_of_getElem? ha)
      obtain ⟨b, off, fv, rfl, hb, c0, c1, hf⟩ := HC.out k a ha
      obtain ⟨fa, fc, rfl, hfc⟩ := flds_form8 hf
      obtain ⟨_, _, eF, _, hfld⟩ := hf
      cases eF
      have CS := Lib.hid (fun (W : World) (hB : Below w.heap.size w W) => And.intro ((hB.cell (p := ⟨b, off + k * 2, none⟩) hb).trans c0) ((hB.cell (p := ⟨b, off + k * 2 + 1, none⟩) hb).trans c1))
      have CF : Hid (∀ (W : World), Below w.heap.size w W → ∀ (j : Nat) f, a.2[j]? = some f → ∃ b2 o2, fa = some ⟨b2, o2, none⟩ ∧ W.cell? ⟨b2, o2 + j * 2, none⟩ = some (.string (B f.1)) ∧ W.cell? ⟨b2, o2 + j * 2 + 1, none⟩ = some (.string (B f.2))) := fun W hB j f hj => by
        obtain ⟨b2, o2, e2, hb2, d0, d1⟩ := hfld j f hj
        exact ⟨b2, o2, e2, (hB.cell (p := ⟨b2, o2 + j * 2, none⟩) hb2).trans d0, (hB.cell (p := ⟨b2, o2 + j * 2 + 1, none⟩) hb2).trans d1⟩
      clear c0 c1 hfld
      have LEN := who_len (l.take k) key fun t => all || betw lo hi t
      rw [List.length_take] at LEN
      generalize whoR (l.take k) key (fun t => all || betw lo hi t) = o1 at *
      have ACC := Lib.hid hacc
      obtain ⟨ua, uc, rfl⟩ := hacc.form
      clear hacc ha
      go_wp2_with fail
      go_loopw [13, 14] (fun q i wi => ∃ j : Nat, j ≤ a.2.length ∧ i = .int .i64 j ∧ q = .bool ((a.2.take j).any fun f => f.1 == key && (all || betw lo hi f.2)) ∧ AccJ w wi (.slice ua o1.length uc) o1) (fun _ i _ => a.2.length - (intOf i).toNat)
      case atStart => exact ⟨0, Nat.zero_le _, rfl, rfl, ACC.out⟩
      case round =>
        obtain ⟨j, hj, rfl, rfl, hacc⟩ := hrel
        obtain ⟨c0, c1⟩ := CS.out _ hacc.below
        have ACI := Lib.hid hacc
        by_cases hjl : j < a.2.length
        · obtain ⟨f, hf⟩ : ∃ f, a.2[j]? = some f := ⟨_, List.getElem?_eq_getElem hjl⟩
          obtain ⟨b2, o2, rfl, d0, d1⟩ := CF.out _ hacc.below j f hf
          have PF : Hid ((a.2.take (j + 1)).any (fun f => f.1 == key && (all || betw lo hi f.2)) = ((a.2.take j).any (fun f => f.1 == key && (all || betw lo hi f.2)) || (decide (f.1 = key) && (all || (decide (lo ≤ f.2) && decide (f.2 ≤ hi)))))) := by
            show _ = _
            rw [any_snoc8 _ _ _ _ hf, show (f.1 == key) = decide (f.1 = key) by rw [Bool.eq_iff_iff]; simp]; rfl
          have K1 := bsame8 f.1 key
          have K2 := bless8 f.2 lo
          have K3 := bleq8 f.2 hi
          generalize (a.2.take j).any (fun f => f.1 == key && (all || betw lo hi f.2)) = ok at *
          clear hacc hf
          have done8 : ∀ b : Bool, (ok || (decide (f.1 = key) && (all || (decide (lo ≤ f.2) && decide (f.2 ≤ hi))))) = b → Hid ((a.2.take (j + 1)).any (fun f => f.1 == key && (all || betw lo hi f.2)) = b) := fun b hb => PF.out.trans hb
          clear PF
          cases ok with
          | true =>
            have D8 := done8 true rfl
            clear done8 K1 K2 K3
            go_wp2_with fail
            go_roundw
            case rel => exact ⟨j + 1, hjl, by go_num, by rw [D8.out], ACI.out.kept (by repeat (first | exact Below.refl _ _ | (refine Below.drew ?_) | (refine hldA ?_)))⟩
            case measure => simp [intOf]; omega
          | false =>
            by_cases k1 : f.1 = key
            · rw [decide_eq_true k1] at K1
              cases all with
              | true =>
                have D8 := done8 true (by simp [k1])
                clear done8 K2 K3
                go_wp2_with fail
                go_roundw
                case rel => exact ⟨j + 1, hjl, by go_num, by rw [D8.out], ACI.out.kept (by repeat (first | exact Below.refl _ _ | (refine Below.drew ?_) | (refine hldA ?_)))⟩
                case measure => simp [intOf]; omega
              | false =>
                by_cases k2 : f.2 < lo
                · rw [decide_eq_true k2] at K2
                  have D8 := done8 false (by simp [show ¬ lo ≤ f.2 from fun z => z k2])
                  clear done8 K3
                  go_wp2_with fail
                  go_roundw
                  case rel => exact ⟨j + 1, hjl, by go_num, by rw [D8.out], ACI.out.kept (by repeat (first | exact Below.refl _ _ | (refine Below.drew ?_) | (refine hldA ?_)))⟩
                  case measure => simp [intOf]; omega
                · rw [decide_eq_false k2] at K2
                  by_cases k3 : f.2 ≤ hi
                  · rw [decide_eq_true k3] at K3
                    have D8 := done8 true (by simp [k1, k3, show lo ≤ f.2 from k2])
                    clear done8
                    go_wp2_with fail
                    go_roundw
                    case rel => exact ⟨j + 1, hjl, by go_num, by rw [D8.out], ACI.out.kept (by repeat (first | exact Below.refl _ _ | (refine Below.drew ?_) | (refine hldA ?_)))⟩
                    case measure => simp [intOf]; omega
                  · rw [decide_eq_false k3] at K3
                    have D8 := done8 false (by simp [k3])
                    clear done8
                    go_wp2_with fail
                    go_roundw
                    case rel => exact ⟨j + 1, hjl, by go_num, by rw [D8.out], ACI.out.kept (by repeat (first | exact Below.refl _ _ | (refine Below.drew ?_) | (refine hldA ?_)))⟩
                    case measure => simp [intOf]; omega
            · rw [decide_eq_false k1] at K1
              have D8 := done8 false (by simp [k1])
              clear done8 K2 K3
              go_wp2_with fail
              go_roundw
              case rel => exact ⟨j + 1, hjl, by go_num, by rw [D8.out], ACI.out.kept (by repeat (first | exact Below.refl _ _ | (refine Below.drew ?_) | (refine hldA ?_)))⟩
              case measure => simp [intOf]; omega
        · obtain rfl : j = a.2.length := by omega
          rw [List.take_length]
          clear CF
          cases hA : (a.2.any fun f => f.1 == key && (all || betw lo hi f.2)) with
          | false =>
            rw [hA, if_neg (by simp)] at TK
            clear hA hacc
            go_wp2_with fail
            go_roundw
            case rel => exact ⟨k + 1, hlt, by go_num, by rw [TK.out]; exact ACI.out⟩
            case measure => simp [intOf]; omega
          | true =>
            rw [hA, if_pos rfl] at TK
            clear hA hacc
            have HRA1 := Lib.hid (ACI.out.row)
            have HVA1 := Lib.hid (cells_new_add wr 3 [.int .i64 a.1])
            have HZA1 := ACI.out.below.size
            go_wp2_with (at_builtin; refine wpList_append_at rfl _ _ 51 rfl w.heap.size 3 i0 _ 1 8 Try.underlying51 hi0 hz0 hz1 hz2 rfl (by decide) _ _ _ rfl (HRA1.out.alloc _) ⟨wr.heap.size, 0, none⟩ 1 1 _ rfl rfl HVA1.out (by intro u hu; simp at hu; subst hu; rfl) (by unfold maxLen; omega) (by omega) (by simp only [World.size_alloc]; omega) ?_)
            intro vA1 wA1 ownA1 grA1 bkA1
            have A1 := Lib.hid (ACI.out.app ownA1 grA1 ((Below.refl _ _).alloc (Nat.le_refl _) _))
            obtain ⟨gA1, ccA1, rfl⟩ := ownsRow_succ ownA1
            clear ownA1 grA1 bkA1 HRA1 HVA1 HZA1
            go_wp2_with fail
            go_roundw
            case rel => exact ⟨k + 1, hlt, by go_num, by rw [TK.out]; exact A1.out⟩
            case measure => simp [intOf]; omega
    · obtain rfl : k = l.length := by omega
      rw [List.take_length] at hacc
      have ACC := Lib.hid hacc
      obtain ⟨ua, uc, rfl⟩ := hacc.form
      clear hacc HC
      go_wp2_with fail
      go_ret
      exact ⟨_, rfl, ACC.out⟩
end Go.Proofs.Ytiebbgbcojgeoaa

namespace Go.Proofs.Ytiebbgbcojgeoaa
open Go.RowKit Go.Maps Go.Sort Go.Shelf
attribute [local go_sem] Oper.semAt_some

theorem riseS_snoc (xs : List (List UInt8)) (s : List UInt8) : riseS (xs ++ [s]) = addS (riseS xs) s := by unfold riseS; rw [List.foldl_append]; rfl
theorem riseS_len (xs : List (List UInt8)) : (riseS xs).length ≤ xs.length := by
  have h : ∀ (xs l : List (List UInt8)), (xs.foldl addS l).length ≤ l.length + xs.length := by
    intro xs
    induction xs with
    | nil => intro l; simp
    | cons a r ih => intro l; have := ih (addS l a); have := addS_len l a; rw [List.foldl_cons, List.length_cons]; omega
  have := h xs []
  unfold riseS; simpa using this
theorem AccT.from_ {w W w2 : World} {v : Value} {ts : List (List UInt8)} (h : AccT W w2 v ts) (hb : Below w.heap.size w W) : AccT w w2 v ts := ⟨row_lower h.row hb.size, hb.trans (h.below.mono hb.size)⟩
theorem flat_take8 (g : Sz → List (List UInt8)) {l : List Sz} {k : Nat} {a : Sz} (h : l[k]? = some a) : (l.take (k + 1)).flatMap g = (l.take k).flatMap g ++ g a := by rw [List.take_add_one, h, List.flatMap_append]; simp
theorem flat_len8 (g : Sz → List (List UInt8)) (hg : ∀ s, (g s).length ≤ s.2.length) : ∀ (l : List Sz) (k : Nat) (a : Sz), l[k]? = some a → ((l.take k).flatMap g).length + a.2.length ≤ numF l
  | [], k, a, h => by simp at h
  | s :: r, 0, a, h => by simp at h; subst h; rw [List.take_zero]; unfold numF; simp
  | s :: r, k + 1, a, h => by
    have ih := flat_len8 g hg r k a (by simpa using h)
    have h2 := hg s
    rw [List.take_succ_cons, List.flatMap_cons, List.length_append]
    unfold numF at ih ⊢
    simp only [List.map_cons, List.sum_cons]
    omega
def fstL (fs : List (List UInt8 × List UInt8)) : List (List UInt8) := fs.map Prod.fst
def sndL (k : List UInt8) (fs : List (List UInt8 × List UInt8)) : List (List UInt8) := (fs.filter fun f => f.1 == k).map Prod.snd
theorem fstL_len (fs : List (List UInt8 × List UInt8)) : (fstL fs).length ≤ fs.length := by unfold fstL; simp
theorem sndL_len (k : List UInt8) (fs : List (List UInt8 × List UInt8)) : (sndL k fs).length ≤ fs.length := by unfold sndL; rw [List.length_map]; exact List.length_filter_le _ _
theorem fstL_snoc {l : List (List UInt8 × List UInt8)} {j : Nat} {f : List UInt8 × List UInt8} (h : l[j]? = some f) : fstL (l.take (j + 1)) = fstL (l.take j) ++ [f.1] := by unfold fstL; rw [List.take_add_one, h]; simp
theorem sndL_snoc (k : List UInt8) {l : List (List UInt8 × List UInt8)} {j : Nat} {f : List UInt8 × List UInt8} (h : l[j]? = some f) : sndL k (l.take (j + 1)) = if f.1 = k then sndL k (l.take j) ++ [f.2] else sndL k (l.take j) := by
  unfold sndL
  rw [List.take_add_one, h, List.filter_append]
  by_cases e : f.1 = k
  · rw [if_pos e]; simp [e]
  · rw [if_neg e]; simp [e]
set_option maxRecDepth 100000 in
set_option maxHeartbeats 8000000 in
theorem refKeys_any (l : List Sz) (v : Value) (w : World) (h : SzD w v l) (hl : l.length ≤ 100000) (hn : numF l ≤ 100000) :
    Calls Try.prog 32 #[v] w fun e w' => ∃ u, e = .returned u ∧ AccT w w' u (keysR l) := by
  show Calls _ _ _ _ fun e w' => ∃ u, e = .returned u ∧ AccT w w' u (riseS (l.flatMap fun s => fstL s.2))
  obtain ⟨A, cap, rfl, hle, hc⟩ := h
  have HC := Lib.hid hc
  have HN := Lib.hid hn
  clear hc hn
  go_enter Try.func32, Try.ntmps32
  go_wp2_with fail
  go_loopw [3, 4] (fun o i wr => ∃ k : Nat, k ≤ l.length ∧ i = .int .i64 k ∧ AccT w wr o (riseS ((l.take k).flatMap (fun s : Sz => fstL s.2)))) (fun _ i _ => l.length - (intOf i).toNat)
  case atStart => exact ⟨0, Nat.zero_le _, rfl, AccN.start _ _ _ _ (Below.refl _ _)⟩
  case round =>
    obtain ⟨k, hk, rfl, hacc⟩ := hrel
    by_cases hlt : k < l.length
    · obtain ⟨a, ha⟩ : ∃ a, l[k]? = some a := ⟨_, List.getElem?_eq_getElem hlt⟩
      have TK := Lib.hid (flat_take8 (fun s : Sz => fstL s.2) ha)
      have hln := flat_len8 (fun s : Sz => fstL s.2) (fun s => fstL_len s.2) l k a ha
      obtain ⟨b, off, fv, rfl, hb, c0, c1, hf⟩ := HC.out k a ha
      obtain ⟨fa, fc, rfl, hfc⟩ := flds_form8 hf
      obtain ⟨_, _, eF, _, hfld⟩ := hf
      cases eF
      have CS := Lib.hid (fun (W : World) (hB : Below w.heap.size w W) => And.intro ((hB.cell (p := ⟨b, off + k * 2, none⟩) hb).trans c0) ((hB.cell (p := ⟨b, off + k * 2 + 1, none⟩) hb).trans c1))
      have CF : Hid (∀ (W : World), Below w.heap.size w W → ∀ (j : Nat) f, a.2[j]? = some f → ∃ b2 o2, fa = some ⟨b2, o2, none⟩ ∧ W.cell? ⟨b2, o2 + j * 2, none⟩ = some (.string (B f.1)) ∧ W.cell? ⟨b2, o2 + j * 2 + 1, none⟩ = some (.string (B f.2))) := fun W hB j f hj => by
        obtain ⟨b2, o2, e2, hb2, d0, d1⟩ := hfld j f hj
        exact ⟨b2, o2, e2, (hB.cell (p := ⟨b2, o2 + j * 2, none⟩) hb2).trans d0, (hB.cell (p := ⟨b2, o2 + j * 2 + 1, none⟩) hb2).trans d1⟩
      clear c0 c1 hfld ha
      have hnn := HN.out
      generalize (l.take k).flatMap (fun s : Sz => fstL s.2) = o1 at *
      have ACC := Lib.hid hacc
      obtain ⟨ua, uc, rfl⟩ := hacc.form
      clear hacc
      go_wp2_with fail
      go_loopw [3, 5] (fun q i wi => ∃ j : Nat, j ≤ a.2.length ∧ i = .int .i64 j ∧ AccT w wi q (riseS (o1 ++ fstL (a.2.take j)))) (fun _ i _ => a.2.length - (intOf i).toNat)
      case atStart => exact ⟨0, Nat.zero_le _, rfl, by rw [List.take_zero]; show AccT _ _ _ (riseS (o1 ++ [])); rw [List.append_nil]; exact ACC.out⟩
      case round =>
        obtain ⟨j, hj, rfl, hacc⟩ := hrel
        obtain ⟨c0, c1⟩ := CS.out _ hacc.below
        have ACI := Lib.hid hacc
        obtain ⟨ta, tc, rfl⟩ := hacc.form
        by_cases hjl : j < a.2.length
        · obtain ⟨f, hf⟩ : ∃ f, a.2[j]? = some f := ⟨_, List.getElem?_eq_getElem hjl⟩
          obtain ⟨b2, o2, rfl, d0, d1⟩ := CF.out _ hacc.below j f hf
          have SN : Hid (riseS (o1 ++ fstL (a.2.take (j + 1))) = addS (riseS (o1 ++ fstL (a.2.take j))) f.1) := by show _ = _; rw [fstL_snoc hf, ← List.append_assoc]; exact riseS_snoc _ _
          have hrl := riseS_len (o1 ++ fstL (a.2.take j))
          have hhl := fstL_len (a.2.take j)
          rw [List.length_take] at hhl
          rw [List.length_append] at hrl
          have ADD := Lib.hid (refAdd_any (riseS (o1 ++ fstL (a.2.take j))) f.1 _ _ (strs_row hacc.row) (by omega) (riseS_lt _))
          clear hacc hf hrl hhl
          generalize riseS (o1 ++ fstL (a.2.take j)) = R1 at *
          go_wp2_with fail
          refine ADD.out.mono ?_
          rintro e w2 ⟨u2, rfl, hac2⟩
          have A2 := Lib.hid (AccT.from_ hac2 ACI.out.below)
          obtain ⟨tb, td, rfl⟩ := hac2.form
          clear hac2 ADD
          go_wp2_with fail
          go_roundw
          case rel => exact ⟨j + 1, hjl, by go_num, by rw [SN.out]; exact A2.out⟩
          case measure => simp [intOf]; omega
        · obtain rfl : j = a.2.length := by omega
          rw [List.take_length] at ACI ⊢
          clear CF hacc
          go_wp2_with fail
          go_roundw
          case rel => exact ⟨k + 1, hlt, by go_num, by rw [TK.out]; exact ACI.out⟩
          case measure => simp [intOf]; omega
    · obtain rfl : k = l.length := by omega
      rw [List.take_length] at hacc
      have ACC := Lib.hid hacc
      obtain ⟨ua, uc, rfl⟩ := hacc.form
      clear hacc HC
      go_wp2_with fail
      go_ret
      exact ⟨_, rfl, ACC.out⟩
set_option maxRecDepth 100000 in
set_option maxHeartbeats 8000000 in
theorem refValues_any (l : List Sz) (key : List UInt8) (v : Value) (w : World) (h : SzD w v l) (hl : l.length ≤ 100000) (hn : numF l ≤ 100000) :
    Calls Try.prog 33 #[v, .string (B key)] w fun e w' => ∃ u, e = .returned u ∧ AccT w w' u (valsR l key) := by
  show Calls _ _ _ _ fun e w' => ∃ u, e = .returned u ∧ AccT w w' u (riseS (l.flatMap fun s => sndL key s.2))
  obtain ⟨A, cap, rfl, hle, hc⟩ := h
  have HC := Lib.hid hc
  have HN := Lib.hid hn
  clear hc hn
  go_enter Try.func33, Try.ntmps33
  go_wp2_with fail
  go_loopw [5, 6] (fun o i wr => ∃ k : Nat, k ≤ l.length ∧ i = .int .i64 k ∧ AccT w wr o (riseS ((l.take k).flatMap (fun s : Sz => sndL key s.2)))) (fun _ i _ => l.length - (intOf i).toNat)
  case atStart => exact ⟨0, Nat.zero_le _, rfl, AccN.start _ _ _ _ (Below.refl _ _)⟩
  case round =>
    obtain ⟨k, hk, rfl, hacc⟩ := hrel
    by_cases hlt : k < l.length
    · obtain ⟨a, ha⟩ : ∃ a, l[k]? = some a := ⟨_, List.getElem?_eq_getElem hlt⟩
      have TK := Lib.hid (flat_take8 (fun s : Sz => sndL key s.2) ha)
      have hln := flat_len8 (fun s : Sz => sndL key s.2) (fun s => sndL_len key s.2) l k a ha
      obtain ⟨b, off, fv, rfl, hb, c0, c1, hf⟩ := HC.out k a ha
      obtain ⟨fa, fc, rfl, hfc⟩ := flds_form8 hf
      obtain ⟨_, _, eF, _, hfld⟩ := hf
      cases eF
      have CS := Lib.hid (fun (W : World) (hB : Below w.heap.size w W) => And.intro ((hB.cell (p := ⟨b, off + k * 2, none⟩) hb).trans c0) ((hB.cell (p := ⟨b, off + k * 2 + 1, none⟩) hb).trans c1))
      have CF : Hid (∀ (W : World), Below w.heap.size w W → ∀ (j : Nat) f, a.2[j]? = some f → ∃ b2 o2, fa = some ⟨b2, o2, none⟩ ∧ W.cell? ⟨b2, o2 + j * 2, none⟩ = some (.string (B f.1)) ∧ W.cell? ⟨b2, o2 + j * 2 + 1, none⟩ = some (.string (B f.2))) := fun W hB j f hj => by
        obtain ⟨b2, o2, e2, hb2, d0, d1⟩ := hfld j f hj
        exact ⟨b2, o2, e2, (hB.cell (p := ⟨b2, o2 + j * 2, none⟩) hb2).trans d0, (hB.cell (p := ⟨b2, o2 + j * 2 + 1, none⟩) hb2).trans d1⟩
      clear c0 c1 hfld ha
      have hnn := HN.out
      generalize (l.take k).flatMap (fun s : Sz => sndL key s.2) = o1 at *
      have ACC := Lib.hid hacc
      obtain ⟨ua, uc, rfl⟩ := hacc.form
      clear hacc
      go_wp2_with fail
      go_loopw [5, 7] (fun q i wi => ∃ j : Nat, j ≤ a.2.length ∧ i = .int .i64 j ∧ AccT w wi q (riseS (o1 ++ sndL key (a.2.take j)))) (fun _ i _ => a.2.length - (intOf i).toNat)
      case atStart => exact ⟨0, Nat.zero_le _, rfl, by rw [List.take_zero]; show AccT _ _ _ (riseS (o1 ++ [])); rw [List.append_nil]; exact ACC.out⟩
      case round =>
        obtain ⟨j, hj, rfl, hacc⟩ := hrel
        obtain ⟨c0, c1⟩ := CS.out _ hacc.below
        have ACI := Lib.hid hacc
        obtain ⟨ta, tc, rfl⟩ := hacc.form
        by_cases hjl : j < a.2.length
        · obtain ⟨f, hf⟩ : ∃ f, a.2[j]? = some f := ⟨_, List.getElem?_eq_getElem hjl⟩
          obtain ⟨b2, o2, rfl, d0, d1⟩ := CF.out _ hacc.below j f hf
          have K1 := bsame8 f.1 key
          have SN := Lib.hid (sndL_snoc key hf)
          by_cases k1 : f.1 = key
          · rw [if_pos k1] at SN
            rw [decide_eq_true k1] at K1
            replace SN : Hid (riseS (o1 ++ sndL key (a.2.take (j + 1))) = addS (riseS (o1 ++ sndL key (a.2.take j))) f.2) := by show _ = _; rw [SN.out, ← List.append_assoc]; exact riseS_snoc _ _
            have hrl := riseS_len (o1 ++ sndL key (a.2.take j))
            have hhl := sndL_len key (a.2.take j)
            rw [List.length_take] at hhl
            rw [List.length_append] at hrl
            have ADD := Lib.hid (refAdd_any (riseS (o1 ++ sndL key (a.2.take j))) f.2 _ _ (strs_row hacc.row) (by omega) (riseS_lt _))
            clear hacc hf hrl hhl
            generalize riseS (o1 ++ sndL key (a.2.take j)) = R1 at *
            go_wp2_with fail
            refine ADD.out.mono ?_
            rintro e w2 ⟨u2, rfl, hac2⟩
            have A2 := Lib.hid (AccT.from_ hac2 ACI.out.below)
            obtain ⟨tb, td, rfl⟩ := hac2.form
            clear hac2 ADD
            go_wp2_with fail
            go_roundw
            case rel => exact ⟨j + 1, hjl, by go_num, by rw [SN.out]; exact A2.out⟩
            case measure => simp [intOf]; omega
          · rw [if_neg k1] at SN
            rw [decide_eq_false k1] at K1
            clear hacc hf
            go_wp2_with fail
            go_roundw
            case rel => exact ⟨j + 1, hjl, by go_num, by rw [SN.out]; exact ACI.out⟩
            case measure => simp [intOf]; omega
        · obtain rfl : j = a.2.length := by omega
          rw [List.take_length] at ACI ⊢
          clear CF hacc
          go_wp2_with fail
          go_roundw
          case rel => exact ⟨k + 1, hlt, by go_num, by rw [TK.out]; exact ACI.out⟩
          case measure => simp [intOf]; omega
    · obtain rfl : k = l.length := by omega
      rw [List.take_length] at hacc
      have ACC := Lib.hid hacc
      obtain ⟨ua, uc, rfl⟩ := hacc.form
      clear hacc HC
      go_wp2_with fail
      go_ret
      exact ⟨_, rfl, ACC.out⟩
end Go.Proofs.Ytiebbgbcojgeoaa

namespace Go.Proofs.Ytiebbgbcojgeoaa
open Go.RowKit Go.Maps Go.Sort Go.Shelf
attribute [local go_sem] Oper.semAt_some

theorem count_take8 (k s : List UInt8) {l : List Sz} {i : Nat} {a : Sz} (h : l[i]? = some a) : countR (l.take (i + 1)) k s = countR (l.take i) k s + cntF k s a.2 := by
  unfold countR; rw [List.take_add_one, h, List.map_append, List.sum_append]; simp
theorem count_len8 (k s : List UInt8) : ∀ (l : List Sz) (i : Nat) (a : Sz), l[i]? = some a → countR (l.take i) k s + a.2.length ≤ numF l
  | [], i, a, h => by simp at h
  | b :: r, 0, a, h => by simp at h; subst h; rw [List.take_zero]; unfold numF countR; simp
  | b :: r, i + 1, a, h => by
    have ih := count_len8 k s r i a (by simpa using h)
    have h2 : cntF k s b.2 ≤ b.2.length := List.countP_le_length
    rw [List.take_succ_cons]
    unfold numF countR at ih ⊢
    simp only [List.map_cons, List.sum_cons]
    omega
theorem cntF_snoc (k s : List UInt8) {l : List (List UInt8 × List UInt8)} {j : Nat} {f : List UInt8 × List UInt8} (h : l[j]? = some f) : cntF k s (l.take (j + 1)) = if f.1 = k ∧ f.2 = s then cntF k s (l.take j) + 1 else cntF k s (l.take j) := by
  unfold cntF
  rw [List.take_add_one, h, List.countP_append]
  by_cases e : f.1 = k ∧ f.2 = s
  · rw [if_pos e]; simp [e.1, e.2]
  · rw [if_neg e]
    have : (f.1 == k && f.2 == s) = false := by
      rw [Bool.and_eq_false_iff]
      by_cases q : f.1 = k
      · exact .inr (by simpa using fun z => e ⟨q, z⟩)
      · exact .inl (by simpa using q)
    simp [this]
set_option maxRecDepth 100000 in
set_option maxHeartbeats 8000000 in
theorem refCount_any (l : List Sz) (key val : List UInt8) (v : Value) (w : World) (h : SzD w v l) (hl : l.length ≤ 100000) (hn : numF l ≤ 100000) :
    Calls Try.prog 34 #[v, .string (B key), .string (B val)] w fun e w' => e = .returned (.int .i64 (countR l key val : Nat)) ∧ Below w.heap.size w w' := by
  obtain ⟨A, cap, rfl, hle, hc⟩ := h
  have HC := Lib.hid hc
  have HN := Lib.hid hn
  clear hc hn
  go_enter Try.func34, Try.ntmps34
  go_wp2_with fail
  go_loopw [7, 8] (fun o i wr => ∃ k : Nat, k ≤ l.length ∧ i = .int .i64 k ∧ o = .int .i64 (countR (l.take k) key val : Nat) ∧ Below w.heap.size w wr) (fun _ i _ => l.length - (intOf i).toNat)
  case atStart => exact ⟨0, Nat.zero_le _, rfl, rfl, Below.refl _ _⟩
  case round =>
    obtain ⟨k, hk, rfl, rfl, hacc⟩ := hrel
    by_cases hlt : k < l.length
    · obtain ⟨a, ha⟩ : ∃ a, l[k]? = some a := ⟨_, List.getElem?_eq_getElem hlt⟩
      have TK := Lib.hid (count_take8 key val ha)
      have hln := count_len8 key val l k a ha
      obtain ⟨b, off, fv, rfl, hb, c0, c1, hf⟩ := HC.out k a ha
      obtain ⟨fa, fc, rfl, hfc⟩ := flds_form8 hf
      obtain ⟨_, _, eF, _, hfld⟩ := hf
      cases eF
      have CS := Lib.hid (fun (W : World) (hB : Below w.heap.size w W) => And.intro ((hB.cell (p := ⟨b, off + k * 2, none⟩) hb).trans c0) ((hB.cell (p := ⟨b, off + k * 2 + 1, none⟩) hb).trans c1))
      have CF : Hid (∀ (W : World), Below w.heap.size w W → ∀ (j : Nat) f, a.2[j]? = some f → ∃ b2 o2, fa = some ⟨b2, o2, none⟩ ∧ W.cell? ⟨b2, o2 + j * 2, none⟩ = some (.string (B f.1)) ∧ W.cell? ⟨b2, o2 + j * 2 + 1, none⟩ = some (.string (B f.2))) := fun W hB j f hj => by
        obtain ⟨b2, o2, e2, hb2, d0, d1⟩ := hfld j f hj
        exact ⟨b2, o2, e2, (hB.cell (p := ⟨b2, o2 + j * 2, none⟩) hb2).trans d0, (hB.cell (p := ⟨b2, o2 + j * 2 + 1, none⟩) hb2).trans d1⟩
      clear c0 c1 hfld ha
      have hnn := HN.out
      generalize countR (l.take k) key val = o1 at *
      have ACC := Lib.hid hacc
      clear hacc
      go_wp2_with fail
      go_loopw [7, 9] (fun q i wi => ∃ j : Nat, j ≤ a.2.length ∧ i = .int .i64 j ∧ q = .int .i64 ((o1 + cntF key val (a.2.take j) : Nat) : Int) ∧ Below w.heap.size w wi) (fun _ i _ => a.2.length - (intOf i).toNat)
      case atStart => exact ⟨0, Nat.zero_le _, rfl, rfl, ACC.out⟩
      case round =>
        obtain ⟨j, hj, rfl, rfl, hacc⟩ := hrel
        obtain ⟨c0, c1⟩ := CS.out _ hacc
        have ACI := Lib.hid hacc
        by_cases hjl : j < a.2.length
        · obtain ⟨f, hf⟩ : ∃ f, a.2[j]? = some f := ⟨_, List.getElem?_eq_getElem hjl⟩
          obtain ⟨b2, o2, rfl, d0, d1⟩ := CF.out _ hacc j f hf
          have K1 := bsame8 f.1 key
          have K2 := bsame8 f.2 val
          have SN := Lib.hid (cntF_snoc key val hf)
          have hcl : cntF key val (a.2.take j) ≤ (a.2.take j).length := List.countP_le_length
          rw [List.length_take] at hcl
          generalize cntF key val (a.2.take j) = c9 at *
          clear hacc hf
          by_cases k1 : f.1 = key
          · rw [decide_eq_true k1] at K1
            by_cases k2 : f.2 = val
            · rw [decide_eq_true k2] at K2
              rw [if_pos ⟨k1, k2⟩] at SN
              clear k1 k2
              go_wp2_with fail
              go_roundw
              case rel => exact ⟨j + 1, hjl, by go_num, by rw [SN.out]; congr 1 <;> first | omega | go_num | (push_cast; omega), ACI.out⟩
              case measure => simp [intOf]; omega
            · rw [decide_eq_false k2] at K2
              rw [if_neg (fun z => k2 z.2)] at SN
              clear k1 k2
              go_wp2_with fail
              go_roundw
              case rel => exact ⟨j + 1, hjl, by go_num, by rw [SN.out], ACI.out⟩
              case measure => simp [intOf]; omega
          · rw [decide_eq_false k1] at K1
            rw [if_neg (fun z => k1 z.1)] at SN
            clear k1 K2
            go_wp2_with fail
            go_roundw
            case rel => exact ⟨j + 1, hjl, by go_num, by rw [SN.out], ACI.out⟩
            case measure => simp [intOf]; omega
        · obtain rfl : j = a.2.length := by omega
          rw [List.take_length]
          clear CF hacc
          go_wp2_with fail
          go_roundw
          case rel => exact ⟨k + 1, hlt, by go_num, by rw [TK.out], ACI.out⟩
          case measure => simp [intOf]; omega
    · obtain rfl : k = l.length := by omega
      rw [List.take_length]
      have ACC := Lib.hid hacc
      clear hacc HC
      go_wp2_with fail
      go_ret
      exact ⟨rfl, ACC.out⟩
end Go.Proofs.Ytiebbgbcojgeoaa

namespace Go.Proofs.Ytiebbgbcojgeoaa
open Go.RowKit Go.Maps Go.Sort Go.Shelf
attribute [local go_sem] Oper.semAt_some

theorem ints_same8 {v v' : Value} {ss zs : List Int} {w : World} (h : Nums w v ss) (h' : Nums w v' zs) (e : ss = zs) (hl : zs.length ≤ 100000) : Calls Try.prog 26 #[v, v'] w fun e w' => e = .returned (.bool true) ∧ Below w.heap.size w w' := by
  subst e
  refine (ints_any v v' ss ss w h h' (by omega) (by omega)).mono ?_
  rintro e w' ⟨rfl, hb⟩
  exact ⟨by simp, hb⟩
theorem texts_same8 {v v' : Value} {ss : List (List UInt8)} {w : World} (h : Strs w v (ss.map B)) (h' : Strs w v' (ss.map B)) (hl : ss.length ≤ 100000) : Calls Try.prog 27 #[v, v'] w fun e w' => e = .returned (.bool true) ∧ Below w.heap.size w w' := by
  refine (texts_any v v' (ss.map B) (ss.map B) w h h' (by rw [List.length_map]; omega) (by rw [List.length_map]; omega)).mono ?_
  rintro e w' ⟨rfl, hb⟩
  exact ⟨by simp, hb⟩
theorem who_sorted {ms : List Sz} (hs : ms.Pairwise fun a b => a.1 < b.1) (k : List UInt8) (p : List UInt8 → Bool) : sortZ (whoR ms k p) = whoR ms k p := by
  refine sortZ_same ?_
  unfold whoR
  rw [List.pairwise_map]
  exact (hs.sublist List.filter_sublist).imp fun h => Int.le_of_lt h
theorem sorted_nodup {ms : List Sz} (hs : ms.Pairwise fun a b => a.1 < b.1) : (ms.map Prod.fst).Nodup := by
  unfold List.Nodup
  rw [List.pairwise_map]
  exact hs.imp fun h => Int.ne_of_lt h
theorem numF_mem : ∀ (ms : List Sz) (s : Sz), s ∈ ms → s.2.length ≤ numF ms
  | [], s, h => by simp at h
  | a :: r, s, h => by
    unfold numF
    rw [List.map_cons, List.sum_cons]
    rcases List.mem_cons.1 h with q | q
    · rw [q]; omega
    · have := numF_mem r s q
      unfold numF at this
      omega
theorem betw_same (t lo : List UInt8) : betw lo lo t = (t == lo) := by
  unfold betw
  rw [Bool.eq_iff_iff]
  simp only [Bool.and_eq_true, decide_eq_true_eq, beq_iff_eq]
  exact ⟨fun ⟨a, b⟩ => List.le_antisymm b a, fun e => by rw [e]; exact ⟨List.le_refl _, List.le_refl _⟩⟩
theorem keysR_len (ms : List Sz) : (keysR ms).length ≤ numF ms := by
  have h := riseS_len (ms.flatMap fun s => s.2.map Prod.fst)
  refine Nat.le_trans h ?_
  clear h
  induction ms with
  | nil => simp
  | cons a r ih => rw [List.flatMap_cons, List.length_append, List.length_map]; unfold numF at ih ⊢; rw [List.map_cons, List.sum_cons]; omega
theorem valsR_len (ms : List Sz) (k : List UInt8) : (valsR ms k).length ≤ numF ms := by
  have h := riseS_len (ms.flatMap fun s => (s.2.filter fun f => f.1 == k).map Prod.snd)
  refine Nat.le_trans h ?_
  clear h
  induction ms with
  | nil => simp
  | cons a r ih => rw [List.flatMap_cons, List.length_append, List.length_map]; have := List.length_filter_le (fun f => f.1 == k) a.2; unfold numF at ih ⊢; rw [List.map_cons, List.sum_cons]; omega
theorem up8 {a b c : World} (h : Below a.heap.size a b) (g : Below b.heap.size b c) : Below a.heap.size a c := h.trans (g.mono h.size)
set_option maxRecDepth 100000 in
set_option maxHeartbeats 8000000 in
theorem asks_any {S : Nat} {w : World} {T : Nat → Tag} {x kb yb n : Nat} {ms : List Sz} (h : IdxL S w T x kb yb n ms) (hs : ms.Pairwise fun a b => a.1 < b.1) (m : Value) (hm : SzD w m ms) (hl : ms.length ≤ 100000) (hn : numF ms ≤ 100000)
    (key lo hi : List UInt8) (hk : (B key).size ≤ maxLen) (hlo : (B lo).size ≤ maxLen) :
    Calls Try.prog 16 #[.pointer (some ⟨x, 0, none⟩), m, .string (B key), .string (B lo), .string (B hi)] w fun e w' => e = .returned (.bool true) ∧ Below w.heap.size w w' := by
  have nr := sorted_nodup hs
  have HX : Hid (∀ W, Below w.heap.size w W → IdxL S W T x kb yb n ms ∧ SzD W m ms) := fun W hB => ⟨h.below hB (Nat.le_refl _), hm.below hB (Nat.le_refl _)⟩
  have HF : Hid (∀ s ∈ ms, s.2.length ≤ 1000000) := fun s q => Nat.le_trans (numF_mem ms s q) (by omega)
  have C1 : Hid (∀ W, Below w.heap.size w W → Calls Try.prog 19 #[.pointer (some ⟨x, 0, none⟩), .string (B key)] W fun e w' => ∃ v, e = .returned v ∧ Nums w' v (whoR ms key fun _ => true) ∧ Below W.heap.size W w') := fun W hB => by
    have q := withC (HX.out W hB).1 nr (B key) hk
    rw [B_data, who_sorted hs] at q; exact q
  have C2 : Hid (∀ W, Below w.heap.size w W → Calls Try.prog 20 #[.pointer (some ⟨x, 0, none⟩), .string (B key), .string (B lo)] W fun e w' => ∃ v, e = .returned v ∧ Nums w' v (whoR ms key fun t => false || betw lo lo t) ∧ Below W.heap.size W w') := fun W hB => by
    have q := equalC (HX.out W hB).1 nr (B key) (B lo) hk hlo
    rw [B_data, B_data, who_sorted hs] at q
    rw [show (fun t => false || betw lo lo t) = (fun t => t == lo) from funext fun t => by rw [Bool.false_or, betw_same]]; exact q
  have C3 : Hid (∀ W, Below w.heap.size w W → Calls Try.prog 21 #[.pointer (some ⟨x, 0, none⟩), .string (B key), .string (B lo), .string (B hi)] W fun e w' => ∃ v, e = .returned v ∧ Nums w' v (whoR ms key fun t => false || betw lo hi t) ∧ Below W.heap.size W w') := fun W hB => by
    have q := betwC (HX.out W hB).1 nr (B key) (B lo) (B hi) hk
    rw [B_data, B_data, B_data, who_sorted hs] at q
    rw [show (fun t => false || betw lo hi t) = betw lo hi from funext fun t => Bool.false_or _]; exact q
  have C4 : Hid (∀ W, Below w.heap.size w W → Calls Try.prog 22 #[.pointer (some ⟨x, 0, none⟩)] W fun e w' => ∃ v, e = .returned v ∧ Strs w' v ((keysR ms).map B) ∧ Below W.heap.size W w') := fun W hB => keysC (HX.out W hB).1
  have C5 : Hid (∀ W, Below w.heap.size w W → Calls Try.prog 23 #[.pointer (some ⟨x, 0, none⟩), .string (B key)] W fun e w' => ∃ v, e = .returned v ∧ Strs w' v ((valsR ms key).map B) ∧ Below W.heap.size W w') := fun W hB => by
    have q := valsC (HX.out W hB).1 (B key) hk
    rw [B_data] at q; exact q
  have C6 : Hid (∀ W, Below w.heap.size w W → Calls Try.prog 24 #[.pointer (some ⟨x, 0, none⟩), .string (B key), .string (B lo)] W fun e w' => e = .returned (.int .i64 (countR ms key lo : Nat)) ∧ Below W.heap.size W w') := fun W hB => by
    have q := countC (HX.out W hB).1 (B key) (B lo) hk hlo (by omega)
    rw [B_data, B_data] at q; exact q
  have R1 : Hid (∀ W a b (al : Bool), Below w.heap.size w W → Calls Try.prog 31 #[m, .string (B key), .string (B a), .string (B b), .bool al] W fun e w' => ∃ u, e = .returned u ∧ Nums w' u (whoR ms key fun t => al || betw a b t) ∧ Below W.heap.size W w') := fun W a b al hB =>
    (refBetween_any ms key a b al m W (HX.out W hB).2 hl HF.out).mono fun e w' ⟨u, he, ha⟩ => ⟨u, he, Nums.row ha.row, ha.below⟩
  have R2 : Hid (∀ W, Below w.heap.size w W → Calls Try.prog 32 #[m] W fun e w' => ∃ u, e = .returned u ∧ Strs w' u ((keysR ms).map B) ∧ Below W.heap.size W w') := fun W hB =>
    (refKeys_any ms m W (HX.out W hB).2 hl hn).mono fun e w' ⟨u, he, ha⟩ => ⟨u, he, strs_row ha.row, ha.below⟩
  have R3 : Hid (∀ W, Below w.heap.size w W → Calls Try.prog 33 #[m, .string (B key)] W fun e w' => ∃ u, e = .returned u ∧ Strs w' u ((valsR ms key).map B) ∧ Below W.heap.size W w') := fun W hB =>
    (refValues_any ms key m W (HX.out W hB).2 hl hn).mono fun e w' ⟨u, he, ha⟩ => ⟨u, he, strs_row ha.row, ha.below⟩
  have R4 : Hid (∀ W, Below w.heap.size w W → Calls Try.prog 34 #[m, .string (B key), .string (B lo)] W fun e w' => e = .returned (.int .i64 (countR ms key lo : Nat)) ∧ Below W.heap.size W w') := fun W hB => refCount_any ms key lo m W (HX.out W hB).2 hl hn
  have L0 := Lib.hid (lenC h nr)
  have WL : Hid (∀ p, (whoR ms key p).length ≤ 100000) := fun p => Nat.le_trans (who_len ms key p) hl
  have WT : Hid ((whoR ms key fun _ => true) = whoR ms key fun t => true || betw [] [] t) := rfl
  have KL : Hid ((keysR ms).length ≤ 100000) := Nat.le_trans (keysR_len ms) hn
  have VL : Hid ((valsR ms key).length ≤ 100000) := Nat.le_trans (valsR_len ms key) hn
  obtain ⟨A, cap, rfl, hle, _⟩ := hm
  clear hs nr h HX HF hk hlo hn
  generalize whoR ms key (fun _ => true) = z1 at *
  generalize keysR ms = z4 at *
  generalize valsR ms key = z5 at *
  generalize countR ms key lo = z6 at *
  go_enter Try.func16, Try.ntmps16
  go_wp2_with fail
  refine L0.out.mono ?_
  rintro e w' ⟨rfl, rfl⟩
  have B0 : Hid (Below w'.heap.size w' w') := Below.refl _ _
  go_wp2_with fail
  refine (C1.out _ B0.out).mono ?_
  rintro e wa0 ⟨va0, rfl, na0, ba0⟩
  have Ba0 := Lib.hid (up8 B0.out ba0)
  have NA0 := Lib.hid na0
  clear na0 ba0
  go_wp2_with fail
  refine (R1.out _ [] [] true Ba0.out).mono ?_
  rintro e wb0 ⟨vb0, rfl, nb0, bb0⟩
  have Bb0 := Lib.hid (up8 Ba0.out bb0)
  have NB0 := Lib.hid nb0
  have NA0 := Lib.hid (NA0.out.below bb0 (Nat.le_refl _))
  clear nb0 bb0
  go_wp2_with fail
  refine (ints_same8 NA0.out NB0.out WT.out (WL.out _)).mono ?_
  rintro e wc0 ⟨rfl, bc0⟩
  have Bc0 := Lib.hid (up8 Bb0.out bc0)
  clear bc0 NA0 NB0
  go_wp2_with fail
  refine (C2.out _ Bc0.out).mono ?_
  rintro e wa1 ⟨va1, rfl, na1, ba1⟩
  have Ba1 := Lib.hid (up8 Bc0.out ba1)
  have NA1 := Lib.hid na1
  clear na1 ba1
  go_wp2_with fail
  refine (R1.out _ lo lo false Ba1.out).mono ?_
  rintro e wb1 ⟨vb1, rfl, nb1, bb1⟩
  have Bb1 := Lib.hid (up8 Ba1.out bb1)
  have NB1 := Lib.hid nb1
  have NA1 := Lib.hid (NA1.out.below bb1 (Nat.le_refl _))
  clear nb1 bb1
  go_wp2_with fail
  refine (ints_same8 NA1.out NB1.out rfl (WL.out _)).mono ?_
  rintro e wc1 ⟨rfl, bc1⟩
  have Bc1 := Lib.hid (up8 Bb1.out bc1)
  clear bc1 NA1 NB1
  go_wp2_with fail
  refine (C3.out _ Bc1.out).mono ?_
  rintro e wa2 ⟨va2, rfl, na2, ba2⟩
  have Ba2 := Lib.hid (up8 Bc1.out ba2)
  have NA2 := Lib.hid na2
  clear na2 ba2
  go_wp2_with fail
  refine (R1.out _ lo hi false Ba2.out).mono ?_
  rintro e wb2 ⟨vb2, rfl, nb2, bb2⟩
  have Bb2 := Lib.hid (up8 Ba2.out bb2)
  have NB2 := Lib.hid nb2
  have NA2 := Lib.hid (NA2.out.below bb2 (Nat.le_refl _))
  clear nb2 bb2
  go_wp2_with fail
  refine (ints_same8 NA2.out NB2.out rfl (WL.out _)).mono ?_
  rintro e wc2 ⟨rfl, bc2⟩
  have Bc2 := Lib.hid (up8 Bb2.out bc2)
  clear bc2 NA2 NB2
  go_wp2_with fail
  refine (C4.out _ Bc2.out).mono ?_
  rintro e wa3 ⟨va3, rfl, na3, ba3⟩
  have Ba3 := Lib.hid (up8 Bc2.out ba3)
  have NA3 := Lib.hid na3
  clear na3 ba3
  go_wp2_with fail
  refine (R2.out _ Ba3.out).mono ?_
  rintro e wb3 ⟨vb3, rfl, nb3, bb3⟩
  have Bb3 := Lib.hid (up8 Ba3.out bb3)
  have NB3 := Lib.hid nb3
  have NA3 := Lib.hid (NA3.out.below bb3 (Nat.le_refl _))
  clear nb3 bb3
  go_wp2_with fail
  refine (texts_same8 NA3.out NB3.out KL.out).mono ?_
  rintro e wc3 ⟨rfl, bc3⟩
  have Bc3 := Lib.hid (up8 Bb3.out bc3)
  clear bc3 NA3 NB3
  go_wp2_with fail
  refine (C5.out _ Bc3.out).mono ?_
  rintro e wa4 ⟨va4, rfl, na4, ba4⟩
  have Ba4 := Lib.hid (up8 Bc3.out ba4)
  have NA4 := Lib.hid na4
  clear na4 ba4
  go_wp2_with fail
  refine (R3.out _ Ba4.out).mono ?_
  rintro e wb4 ⟨vb4, rfl, nb4, bb4⟩
  have Bb4 := Lib.hid (up8 Ba4.out bb4)
  have NB4 := Lib.hid nb4
  have NA4 := Lib.hid (NA4.out.below bb4 (Nat.le_refl _))
  clear nb4 bb4
  go_wp2_with fail
  refine (texts_same8 NA4.out NB4.out VL.out).mono ?_
  rintro e wc4 ⟨rfl, bc4⟩
  have Bc4 := Lib.hid (up8 Bb4.out bc4)
  clear bc4 NA4 NB4
  go_wp2_with fail
  refine (C6.out _ Bc4.out).mono ?_
  rintro e wd ⟨rfl, bd⟩
  have Bd := Lib.hid (up8 Bc4.out bd)
  clear bd
  go_wp2_with fail
  refine (R4.out _ Bd.out).mono ?_
  rintro e we ⟨rfl, be⟩
  have Be := Lib.hid (up8 Bd.out be)
  clear be
  go_wp2_with fail
  go_ret
  exact ⟨rfl, Be.out⟩
end Go.Proofs.Ytiebbgbcojgeoaa

