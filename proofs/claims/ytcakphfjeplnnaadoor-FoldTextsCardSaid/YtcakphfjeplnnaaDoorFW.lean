/- The laws' fixed fact; the law FoldApart. -/
import Derived.Test.YtcakphfjeplnnaaDoorFV
namespace Go.Proofs.YtcakphfjeplnnaaDoor
open Go.RowKit Go.Shelf

attribute [local go_sem] errV_0
theorem alive_text : foldT [([65], [120, 10, 10, 46, 121])] = [65, 58, 32, 120, 10, 32, 46, 10, 32, 46, 46, 121, 10] := by decide
theorem alive_zero : foldN [([65], [120, 10, 10, 46, 121])] = 0 := by decide
set_option maxHeartbeats 1000000 in
theorem alive_any (w : World) :
    Calls Tryd.prog 8 #[] w fun e w' => e = .returned (.bool true) ∧ Below w.heap.size w w' := by
  have F := fold_any [([65], [120, 10, 10, 46, 121])] _ _ (Flds.one w 23 [65] [120, 10, 10, 46, 121]) (by decide) (by decide)
  rw [alive_text, alive_zero] at F
  change Calls Tryd.prog 19 #[.slice (some ⟨w.heap.size, 0, none⟩) 1 1] (w.alloc (.cells #[.string ⟨#[65]⟩, .string ⟨#[120, 10, 10, 46, 121]⟩] 23)) (fun e w' => e = .returned (.tuple #[.string ⟨#[65, 58, 32, 120, 10, 32, 46, 10, 32, 46, 46, 121, 10]⟩, .nilIface]) ∧ Below (w.alloc (.cells #[.string ⟨#[65]⟩, .string ⟨#[120, 10, 10, 46, 121]⟩] 23)).heap.size (w.alloc (.cells #[.string ⟨#[65]⟩, .string ⟨#[120, 10, 10, 46, 121]⟩] 23)) w') at F
  have FH := Lib.hid F
  clear F
  go_enter Tryd.func8, Tryd.ntmps8
  go_wp2_with fail
  refine FH.out.mono ?_
  rintro e w1 ⟨rfl, b1⟩
  go_wp2_with fail
  go_ret
  exact ⟨rfl, ((Below.refl _ _).alloc (Nat.le_refl _) _).trans (b1.mono (by simp))⟩
theorem beqB (a b : List UInt8) : ((B a).toList == (B b).toList) = decide (a = b) := by
  rw [Lib.toList_data, Lib.toList_data, B_data, B_data]
  by_cases h : a = b <;> simp [h]
theorem eqB (a b : List UInt8) : ((B a).toList = (B b).toList) ↔ a = b := by
  rw [Lib.toList_data, Lib.toList_data, B_data, B_data]
theorem foldN_one (k v : List UInt8) : foldN [(k, v)] = checkN k v := by
  show (if checkN k v = 0 then foldN [] else checkN k v) = _
  split
  · rename_i h; rw [h]; rfl
  · rfl
theorem foldT_one {k v : List UInt8} (h : checkN k v = 0) : foldT [(k, v)] = textL (linesL k v) := by
  unfold foldT; rw [foldN_one, if_pos h]; unfold foldG; simp

set_option maxRecDepth 100000 in
set_option maxHeartbeats 4000000 in
theorem apartLaw (ka va kb vb : List UInt8) (w : World) :
    Calls Tryd.prog 7 #[fieldV ka va, fieldV kb vb] w fun e w' => e = .returned (.bool true) ∧ Below w.heap.size w w' := by
  have ya := B_size va
  have yb := B_size vb
  have xa := B_size ka
  have xb := B_size kb
  unfold fieldV
  go_enter Tryd.func7, Tryd.ntmps7
  go_wp2_with fail
  refine (alive_any _).mono ?_
  rintro e w1 ⟨rfl, b1⟩
  have R1 := cells_kept ((Cells.new w 23 #[.string (B ka), .string (B va)]).alloc (.cells #[.string (B kb), .string (B vb)] 23)) b1 (by simp <;> omega)
  have R2 := cells_kept (Cells.new (w.alloc (.cells #[.string (B ka), .string (B va)] 23)) 23 #[.string (B kb), .string (B vb)]) b1 (by simp)
  have hb1 : Below w.heap.size w w1 := (((Below.refl _ _).alloc (Nat.le_refl _) _).alloc (by simp) _).trans (b1.mono (by simp <;> omega))
  have hs1 := b1.size
  simp only [World.size_alloc] at hs1 R2
  clear b1
  have d0 := R1.cell 0
  have d1 := R1.cell 1
  have d2 := R2.cell 0
  have d3 := R2.cell 1
  simp only [List.getElem?_toArray, List.getElem?_cons_zero, List.getElem?_cons_succ] at d0 d1 d2 d3
  by_cases h1 : 2000 < va.length
  · go_wp2_with fail
    go_ret
    exact ⟨rfl, hb1⟩
  by_cases h2 : 2000 < vb.length
  · go_wp2_with fail
    go_ret
    exact ⟨rfl, hb1⟩
  by_cases h3 : 100 < ka.length
  · go_wp2_with fail
    go_ret
    exact ⟨rfl, hb1⟩
  by_cases h4 : 100 < kb.length
  · go_wp2_with fail
    go_ret
    exact ⟨rfl, hb1⟩
  go_wp2_with fail
  refine (fold_any [(ka, va)] _ _ (Flds.one w1 23 ka va) (by simp) (by intro f hf; simp at hf; subst hf; exact ⟨by simp; omega, by simp; omega⟩)).mono ?_
  rintro e w2 ⟨rfl, b2⟩
  have R1' := cells_kept (R1.alloc (.cells #[.string (B ka), .string (B va)] 23)) b2 (by simp; omega)
  have R2' := cells_kept (R2.alloc (.cells #[.string (B ka), .string (B va)] 23)) b2 (by simp; omega)
  have hb2 : Below w.heap.size w w2 := (hb1.alloc hb1.size _).trans (b2.mono (by simp; omega))
  have hs2 := b2.size
  simp only [World.size_alloc] at hs2
  have e0 := R1'.cell 0
  have e1 := R1'.cell 1
  have e2 := R2'.cell 0
  have e3 := R2'.cell 1
  simp only [List.getElem?_toArray, List.getElem?_cons_zero, List.getElem?_cons_succ] at e0 e1 e2 e3
  clear b2 R1 R2 d0 d1 d2 d3 hb1
  rw [foldN_one]
  generalize hta : foldT [(ka, va)] = ta at *
  generalize hna : errV (checkN ka va) = na at *
  have HTA := Lib.hid hta
  have HNA := Lib.hid hna
  clear hta hna
  go_wp2_with fail
  refine (fold_any [(kb, vb)] _ _ (Flds.one w2 23 kb vb) (by simp) (by intro f hf; simp at hf; subst hf; exact ⟨by simp; omega, by simp; omega⟩)).mono ?_
  rintro e w3 ⟨rfl, b3⟩
  have R1 := cells_kept (R1'.alloc (.cells #[.string (B kb), .string (B vb)] 23)) b3 (by simp; omega)
  have R2 := cells_kept (R2'.alloc (.cells #[.string (B kb), .string (B vb)] 23)) b3 (by simp; omega)
  have hb3 : Below w.heap.size w w3 := (hb2.alloc hb2.size _).trans (b3.mono (by simp; omega))
  have d0 := R1.cell 0
  have d1 := R1.cell 1
  have d2 := R2.cell 0
  have d3 := R2.cell 1
  simp only [List.getElem?_toArray, List.getElem?_cons_zero, List.getElem?_cons_succ] at d0 d1 d2 d3
  clear b3 R1 R2 R1' R2' e0 e1 e2 e3 hb2
  rw [foldN_one]
  generalize htb : foldT [(kb, vb)] = tb at *
  generalize hnb : errV (checkN kb vb) = nb at *
  have HTB := Lib.hid htb
  have HNB := Lib.hid hnb
  clear htb hnb
  by_cases ha : checkN ka va = 0
  · by_cases hb : checkN kb vb = 0
    · have ea : na = .nilIface := by rw [← HNA.out, ha]; rfl
      have eb : nb = .nilIface := by rw [← HNB.out, hb]; rfl
      subst ea
      subst eb
      obtain ⟨g1, g2⟩ := checkN_zero ha
      obtain ⟨g3, g4⟩ := checkN_zero hb
      have TA := texts_apart g1 g3 g2 g4
      rw [← foldT_one ha, ← foldT_one hb, HTA.out, HTB.out] at TA
      have TH := Lib.hid TA
      clear g1 g2 g3 g4 TA ha hb
      have n1 := beqB ka kb
      have n2 := beqB va vb
      have n3 := beqB ta tb
      have m1 := eqB ka kb
      have m2 := eqB va vb
      have m3 := eqB ta tb
      by_cases hk : ka = kb
      · by_cases hv : va = vb
        · have ht : ta = tb := TH.out.2 ⟨hk, hv⟩
          subst hk
          subst hv
          subst ht
          clear n1 n2 n3 m1 m2 m3
          go_wp2_with fail
          go_ret
          exact ⟨by simp, hb3⟩
        · have ht : ¬ ta = tb := fun h => hv (TH.out.1 h).2
          simp only [hv, decide_false, iff_false] at n2 m2
          simp only [ht, decide_false, iff_false] at n3 m3
          subst hk
          clear n1 m1
          go_wp2_with fail
          go_ret
          exact ⟨by simp [n2, n3], hb3⟩
      · have ht : ¬ ta = tb := fun h => hk (TH.out.1 h).1
        simp only [hk, decide_false, iff_false] at n1 m1
        simp only [ht, decide_false, iff_false] at n3 m3
        clear n2 m2
        go_wp2_with fail
        go_ret
        exact ⟨by simp [n1, n3], hb3⟩
    · have eb : nb = .iface 57 (.int .i64 (checkN kb vb : Int)) := by rw [← HNB.out, errV_pos _ (Nat.pos_of_ne_zero hb)]
      have ea : na = .nilIface := by rw [← HNA.out, ha]; rfl
      subst ea
      subst eb
      go_wp2_with fail
      go_ret
      exact ⟨rfl, hb3⟩
  · have ea : na = .iface 57 (.int .i64 (checkN ka va : Int)) := by rw [← HNA.out, errV_pos _ (Nat.pos_of_ne_zero ha)]
    subst ea
    go_wp2_with fail
    go_ret
    exact ⟨rfl, hb3⟩
end Go.Proofs.YtcakphfjeplnnaaDoor
