/- Texts put together: FU, QD, QE, QF, QG, QH, SG, DP. -/
import Derived.BigRegion
import Derived.Deep.DeepCutAuto
import Derived.Test.YtbkeoiefolkjfaaGreatDoorBbk7
import Derived.Test.YtbkeoiefolkjfaaGreatDoorBbk13
import Derived.Test.YtbkeoiefolkjfaaGreatDoorBbk14
import Derived.Test.YtbkeoiefolkjfaaGreatDoorBbk15
import Derived.Test.YtbkeoiefolkjfaaGreatDoorBbk17
import Derived.Test.YtbkeoiefolkjfaaGreatDoorBbk21
import Derived.Test.YtbkeoiefolkjfaaGreatDoorBbk22
set_option linter.unusedVariables false
set_option maxRecDepth 100000
set_option maxHeartbeats 16000000
namespace Go.Proofs.YtbkeoiefolkjfaaGreatDoor
open Go.RowKit Go.Shelf
theorem refUnfold_yes (a : List UInt8) (r : List (List UInt8)) (v : Value) (w : World) (hs : Strs w v ((a :: r).map B)) (hl : ∀ l ∈ a :: r, l.length <= 100000) (hn : (a :: r).length <= 100000) (hj : (saidV (a :: r)).length <= 1000000) (hka : kindL a = 4) :
    Calls Tryz.prog 68 #[v] w fun e w' => e = .returned (.tuple #[fieldV (unfoldK (a :: r)) (unfoldV (a :: r)), .int .i64 (unfoldN (a :: r) : Nat)]) /\ Below w.heap.size w w' := by
  obtain ⟨A, cap, rfl, hle, hc⟩ := hs
  have hcb := cellB hc
  clear hc
  obtain ⟨b, off, rfl, hbb, hca⟩ := hcb 0 a rfl
  have PCH := Lib.hid (fun (j : Nat) x (hx : r[j]? = some x) => (show w.cell? ⟨b, off + (j + 1), none⟩ = some (.string (B x)) by
    obtain ⟨b', off', e, _, h⟩ := hcb (j + 1) x (by simpa using hx)
    cases e; exact h))
  rw [Nat.add_zero] at hca
  clear hcb
  have hal := hl a (by simp)
  have hlr : ∀ x ∈ r, x.length <= 100000 := fun x hx => hl x (List.mem_cons_of_mem _ hx)
  have RK := fun w => refKind_any (B a) (by rw [B_size]; omega) w
  rw [B_data, hka] at RK
  obtain ⟨k1, k2, k3⟩ := kind4 hka
  have RC := fun w => refCut_yes (B a) (by rw [B_size]; omega) w (by rw [B_data]; exact k1) (by rw [B_data]; exact k2) (by rw [B_data]; exact k3)
  rw [pre_B, post_B] at RC
  rw [List.length_map, List.length_cons] at *
  have hnz : ((r.length : Int) + 1 == 0) = false := by rw [beq_eq_false_iff_ne]; omega
  have haz : (afterC a).length <= a.length := by unfold afterC; rw [List.length_drop]; omega
  have hA0 : B (accV a r 0) = B (dropSp (afterC a)) := by unfold accV; rfl
  unfold fieldV
  clear k1 k2 k3 hl
  generalize hX : B a = X at *
  clear hX
  generalize hK : B (before a) = KB at *
  have HK := Lib.hid hK
  clear hK
  go_enter Tryz.func68, Tryz.ntmps68
  go_wp2_with fail
  refine (RK _).mono ?_
  rintro e w1 ⟨rfl, b1⟩
  have R1 := cells_kept (Cells.new w 83 #[.string ⟨#[]⟩, .string ⟨#[]⟩]) b1 (by simp)
  have hb1 : Below w.heap.size w w1 := ((Below.refl _ _).alloc (Nat.le_refl _) _).trans (b1.mono (by simp))
  have hca1 := (hb1.cell (p := ⟨b, off, none⟩) hbb).trans hca
  have hs1 := b1.size
  simp only [World.size_alloc] at hs1
  clear b1 hca RK
  go_wp2_with fail
  refine (RC _).mono ?_
  rintro e w2 ⟨rfl, b2⟩
  have R2 := cells_kept R1 b2 (by omega)
  have BW := Lib.hid (hb1.trans (b2.mono (by omega)))
  clear b2 R1 hb1 hca1 RC
  rcases hac : afterC a with _ | ⟨c, t⟩
  . rw [hac] at hA0
    have HA0 : Hid (B (accV a r 0) = ⟨#[]⟩) := hA0
    rw [show B [] = ⟨#[]⟩ from rfl]
    clear hA0 hac
    go_wp2_with fail
    go_loopw [5, 7] (fun s i wr => ∃ n : Nat, n <= r.length /\ i = .int .i64 ((n : Int) + 1) /\ s = .string (B (accV a r n)) /\ sayG 3 r = sayG 3 (r.drop n) /\ Cells wr w.heap.size 83 #[.string ⟨#[]⟩, .string ⟨#[]⟩] /\ Below w.heap.size w wr) (fun _ i _ => r.length + 1 - (intOf i).toNat)
    case atStart => exact ⟨0, Nat.zero_le _, rfl, by rw [HA0.out], rfl, R2, BW.out⟩
    case round =>
    obtain ⟨n, hnr, rfl, rfl, hG, hR, hb⟩ := hrel
    have hal := accV_le a r n
    have hs3 := hb.size
    have hRl := hR.lt
    by_cases hlt : n < r.length
    . obtain ⟨x, hx⟩ : ∃ x, r[n]? = some x := ⟨_, List.getElem?_eq_getElem hlt⟩
      have hcx := (hb.cell (p := ⟨b, off + (n + 1), none⟩) hbb).trans (PCH.out n x hx)
      have hxl := hlr x (List.mem_of_getElem? hx)
      have hxz := B_size x
      have RK := fun w => refKind_any (B x) (by omega) w
      rw [B_data] at RK
      have STEP := accV_step a r n x hx
      rw [allK_drop r n x hx] at hG
      by_cases hk3 : kindL x = 3
      . obtain ⟨c, d, t, rfl⟩ := kind3 hk3
        have G2 : Hid (sayG 3 r = sayG 3 (r.drop (n + 1))) := by show _ = _; rw [hG, hk3]; simp
        rw [hk3] at RK
        rw [List.tail_cons] at STEP
        have hex := tail_B c (d :: t)
        have hex2 := tail_B d t
        have z1 : (B (c :: d :: t)).size = t.length + 2 := by rw [B_size]; rfl
        have z2 : (B (d :: t)).size = t.length + 1 := by rw [B_size]; rfl
        have z3 : (B t).size = t.length := B_size t
        have htl : t.length <= 1000000 := by simp only [List.length_cons] at hxl; omega
        rw [z1] at hex
        rw [z2] at hex2
        have hd0 : ∀ h : 0 < (B (d :: t)).size, (B (d :: t))[0]'h = d := fun _ => rfl
        have hdp : 0 < (B (d :: t)).size := by omega
        have hcp : 0 < (B (c :: d :: t)).size := by omega
        have q2 := byte_eq (c := d) (d := 46) 46 rfl
        have y1 := B_size (accV a r n)
        have y2 : (B (accV a r n) ++ ⟨#[10]⟩).size = (accV a r n).length + 1 := by rw [show (⟨#[10]⟩ : ByteArray) = B [10] from rfl, B_append, B_size]; simp
        have hal2 : (accV a r n).length <= 1000000 := by omega
        clear hx hG hk3 hxz hal
        by_cases hd : d = 46
        . have SB : Hid (B (accV a r (n + 1)) = (B (accV a r n) ++ ⟨#[10]⟩) ++ B t) := by
            show _ = _
            rw [STEP, show (⟨#[10]⟩ : ByteArray) = B [10] from rfl, B_append, B_append]; simp [dropDot, hd]
          have hdb : (d == 46) = true := by simp [hd]
          rw [hdb] at q2
          clear STEP hd
          generalize B (accV a r n) = acc at *
          generalize B (c :: d :: t) = X at *
          generalize B (d :: t) = Y at *
          generalize B t = Z at *
          go_wp2_with fail
          refine (RK _).mono ?_
          rintro e w4 ⟨rfl, b4⟩
          have hcx4 := (b4.cell (p := ⟨b, off + (n + 1), none⟩) (Nat.lt_of_lt_of_le hbb hs3)).trans hcx
          have R4 := cells_kept hR b4 (by omega)
          have hb4 := hb.trans (b4.mono hs3)
          clear hR b4 hcx hb
          go_wp2_with fail
          go_roundw
          case rel => exact ⟨n + 1, hlt, by go_num, by rw [SB.out], G2.out, R4, hb4⟩
          case measure => simp [intOf]; omega
        have SB : Hid (B (accV a r (n + 1)) = (B (accV a r n) ++ ⟨#[10]⟩) ++ B (d :: t)) := by
          show _ = _
          rw [STEP, show (⟨#[10]⟩ : ByteArray) = B [10] from rfl, B_append, B_append]; simp [dropDot, hd]
        have hdb : (d == 46) = false := by simp [hd]
        rw [hdb] at q2
        clear STEP hd
        generalize B (accV a r n) = acc at *
        generalize B (c :: d :: t) = X at *
        generalize B (d :: t) = Y at *
        generalize B t = Z at *
        go_wp2_with fail
        refine (RK _).mono ?_
        rintro e w4 ⟨rfl, b4⟩
        have hcx4 := (b4.cell (p := ⟨b, off + (n + 1), none⟩) (Nat.lt_of_lt_of_le hbb hs3)).trans hcx
        have R4 := cells_kept hR b4 (by omega)
        have hb4 := hb.trans (b4.mono hs3)
        clear hR b4 hcx hb
        go_wp2_with fail
        go_roundw
        case rel => exact ⟨n + 1, hlt, by go_num, by rw [SB.out], G2.out, R4, hb4⟩
        case measure => simp [intOf]; omega
      have hF : sayF (a :: r) = false := by
        rw [sayF_cons hka, hG]; simp [hk3]
      obtain ⟨e1, e2, e3⟩ := unfold_no hF
      have ET : Hid (unfoldN (a :: r) = 2 /\ unfoldK (a :: r) = [] /\ unfoldV (a :: r) = []) := ⟨e1, e2, e3⟩
      have hki : ((kindL x : Int) != 3) = true := by simp; omega
      clear hx hG hk3 e1 e2 e3 hF STEP
      generalize kindL x = kx at *
      generalize B (accV a r n) = acc at *
      generalize B x = X at *
      go_wp2_with fail
      refine (RK _).mono ?_
      rintro e w4 ⟨rfl, b4⟩
      have R4 := cells_kept hR b4 (by omega)
      have hb4 := hb.trans (b4.mono hs3)
      have c0 := R4.cell 0
      have c1 := R4.cell 1
      have f0 := R4.frozen 0
      have f1 := R4.frozen 1
      simp only [List.getElem?_toArray, List.getElem?_cons_zero, List.getElem?_cons_succ] at c0 c1
      have RE := (R4.set 0 (.string ⟨#[]⟩)).set 1 (.string ⟨#[]⟩)
      rw [set2] at RE
      clear hR b4 hcx hb
      go_wp2_with fail
      refine bodyPost_ret (ret_f2 rfl _ _ w.heap.size _ rfl RE rfl) rfl ?_
      obtain ⟨e1, e2, e3⟩ := ET.out
      exact ⟨by rw [e1, e2, e3]; rfl, (hb4.setCell (Nat.le_refl _) _).setCell (Nat.le_refl _) _⟩
    obtain rfl : n = r.length := by omega
    rw [accV_all] at *
    rw [List.drop_length] at hG
    have hF : sayF (a :: r) = true := by rw [sayF_cons hka, hG]; rfl
    have c0 := hR.cell 0
    have c1 := hR.cell 1
    have f0 := hR.frozen 0
    have f1 := hR.frozen 1
    simp only [List.getElem?_toArray, List.getElem?_cons_zero, List.getElem?_cons_succ] at c0 c1
    have hvz := B_size (saidV (a :: r))
    by_cases hlen : (saidV (a :: r)).length <= 1000
    . have ET : Hid _ := unfold_yes hF hlen
      have RE := (hR.set 0 (.string KB)).set 1 (.string (B (saidV (a :: r))))
      rw [set2] at RE
      rw [<- hvz] at hlen
      clear hF hG
      generalize hV : B (saidV (a :: r)) = V at *
      have HV := Lib.hid hV
      clear hV
      go_wp2_with fail
      refine bodyPost_ret (ret_f2 rfl _ _ w.heap.size _ rfl RE rfl) rfl ?_
      obtain ⟨e1, e2, e3⟩ := ET.out
      exact ⟨by rw [e1, e2, e3, HV.out, HK.out]; rfl, (hb.setCell (Nat.le_refl _) _).setCell (Nat.le_refl _) _⟩
    have ET : Hid _ := unfold_long hF hlen
    have RE := (hR.set 0 (.string ⟨#[]⟩)).set 1 (.string ⟨#[]⟩)
    rw [set2] at RE
    rw [<- hvz] at hlen
    clear hF hG
    generalize B (saidV (a :: r)) = V at *
    go_wp2_with fail
    refine bodyPost_ret (ret_f2 rfl _ _ w.heap.size _ rfl RE rfl) rfl ?_
    obtain ⟨e1, e2, e3⟩ := ET.out
    exact ⟨by rw [e1, e2, e3]; rfl, (hb.setCell (Nat.le_refl _) _).setCell (Nat.le_refl _) _⟩
  rw [hac] at hA0 haz
  have hyz := B_size (c :: t)
  have htl : t.length <= 1000000 := by simp only [List.length_cons] at haz; omega
  have z1 : (B (c :: t)).size = t.length + 1 := hyz
  have hex := tail_B c t
  rw [z1] at hex
  have hd0 : ∀ h : 0 < (B (c :: t)).size, (B (c :: t))[0]'h = c := fun _ => rfl
  have hdp : 0 < (B (c :: t)).size := by omega
  have q2 := byte_eq (c := c) (d := 32) 32 rfl
  have hAA : (c = 32 /\ B (accV a r 0) = B t) \/ (c ≠ 32 /\ B (accV a r 0) = B (c :: t)) := by
    by_cases h : c = 32
    . exact .inl ⟨h, by rw [hA0]; unfold dropSp; rw [h]; rfl⟩
    exact .inr ⟨h, by rw [hA0]; unfold dropSp; simp [h]⟩
  clear hA0 hac hyz haz
  have y1 := B_size t
  generalize B (c :: t) = Y0 at *
  generalize B t = Z0 at *
  rcases hAA with ⟨hc, hA0⟩ | ⟨hc, hA0⟩
  . have hcb : (c == 32) = true := by simp [hc]
    rw [hcb] at q2
    have HA0 := Lib.hid hA0
    clear hA0 hc
    go_wp2_with fail
    go_loopw [5, 7] (fun s i wr => ∃ n : Nat, n <= r.length /\ i = .int .i64 ((n : Int) + 1) /\ s = .string (B (accV a r n)) /\ sayG 3 r = sayG 3 (r.drop n) /\ Cells wr w.heap.size 83 #[.string ⟨#[]⟩, .string ⟨#[]⟩] /\ Below w.heap.size w wr) (fun _ i _ => r.length + 1 - (intOf i).toNat)
    case atStart => exact ⟨0, Nat.zero_le _, rfl, by rw [HA0.out], rfl, R2, BW.out⟩
    case round =>
    obtain ⟨n, hnr, rfl, rfl, hG, hR, hb⟩ := hrel
    have hal := accV_le a r n
    have hs3 := hb.size
    have hRl := hR.lt
    by_cases hlt : n < r.length
    . obtain ⟨x, hx⟩ : ∃ x, r[n]? = some x := ⟨_, List.getElem?_eq_getElem hlt⟩
      have hcx := (hb.cell (p := ⟨b, off + (n + 1), none⟩) hbb).trans (PCH.out n x hx)
      have hxl := hlr x (List.mem_of_getElem? hx)
      have hxz := B_size x
      have RK := fun w => refKind_any (B x) (by omega) w
      rw [B_data] at RK
      have STEP := accV_step a r n x hx
      rw [allK_drop r n x hx] at hG
      by_cases hk3 : kindL x = 3
      . obtain ⟨c, d, t, rfl⟩ := kind3 hk3
        have G2 : Hid (sayG 3 r = sayG 3 (r.drop (n + 1))) := by show _ = _; rw [hG, hk3]; simp
        rw [hk3] at RK
        rw [List.tail_cons] at STEP
        have hex := tail_B c (d :: t)
        have hex2 := tail_B d t
        have z1 : (B (c :: d :: t)).size = t.length + 2 := by rw [B_size]; rfl
        have z2 : (B (d :: t)).size = t.length + 1 := by rw [B_size]; rfl
        have z3 : (B t).size = t.length := B_size t
        have htl : t.length <= 1000000 := by simp only [List.length_cons] at hxl; omega
        rw [z1] at hex
        rw [z2] at hex2
        have hd0 : ∀ h : 0 < (B (d :: t)).size, (B (d :: t))[0]'h = d := fun _ => rfl
        have hdp : 0 < (B (d :: t)).size := by omega
        have hcp : 0 < (B (c :: d :: t)).size := by omega
        have q2 := byte_eq (c := d) (d := 46) 46 rfl
        have y1 := B_size (accV a r n)
        have y2 : (B (accV a r n) ++ ⟨#[10]⟩).size = (accV a r n).length + 1 := by rw [show (⟨#[10]⟩ : ByteArray) = B [10] from rfl, B_append, B_size]; simp
        have hal2 : (accV a r n).length <= 1000000 := by omega
        clear hx hG hk3 hxz hal
        by_cases hd : d = 46
        . have SB : Hid (B (accV a r (n + 1)) = (B (accV a r n) ++ ⟨#[10]⟩) ++ B t) := by
            show _ = _
            rw [STEP, show (⟨#[10]⟩ : ByteArray) = B [10] from rfl, B_append, B_append]; simp [dropDot, hd]
          have hdb : (d == 46) = true := by simp [hd]
          rw [hdb] at q2
          clear STEP hd
          generalize B (accV a r n) = acc at *
          generalize B (c :: d :: t) = X at *
          generalize B (d :: t) = Y at *
          generalize B t = Z at *
          go_wp2_with fail
          refine (RK _).mono ?_
          rintro e w4 ⟨rfl, b4⟩
          have hcx4 := (b4.cell (p := ⟨b, off + (n + 1), none⟩) (Nat.lt_of_lt_of_le hbb hs3)).trans hcx
          have R4 := cells_kept hR b4 (by omega)
          have hb4 := hb.trans (b4.mono hs3)
          clear hR b4 hcx hb
          go_wp2_with fail
          go_roundw
          case rel => exact ⟨n + 1, hlt, by go_num, by rw [SB.out], G2.out, R4, hb4⟩
          case measure => simp [intOf]; omega
        have SB : Hid (B (accV a r (n + 1)) = (B (accV a r n) ++ ⟨#[10]⟩) ++ B (d :: t)) := by
          show _ = _
          rw [STEP, show (⟨#[10]⟩ : ByteArray) = B [10] from rfl, B_append, B_append]; simp [dropDot, hd]
        have hdb : (d == 46) = false := by simp [hd]
        rw [hdb] at q2
        clear STEP hd
        generalize B (accV a r n) = acc at *
        generalize B (c :: d :: t) = X at *
        generalize B (d :: t) = Y at *
        generalize B t = Z at *
        go_wp2_with fail
        refine (RK _).mono ?_
        rintro e w4 ⟨rfl, b4⟩
        have hcx4 := (b4.cell (p := ⟨b, off + (n + 1), none⟩) (Nat.lt_of_lt_of_le hbb hs3)).trans hcx
        have R4 := cells_kept hR b4 (by omega)
        have hb4 := hb.trans (b4.mono hs3)
        clear hR b4 hcx hb
        go_wp2_with fail
        go_roundw
        case rel => exact ⟨n + 1, hlt, by go_num, by rw [SB.out], G2.out, R4, hb4⟩
        case measure => simp [intOf]; omega
      have hF : sayF (a :: r) = false := by
        rw [sayF_cons hka, hG]; simp [hk3]
      obtain ⟨e1, e2, e3⟩ := unfold_no hF
      have ET : Hid (unfoldN (a :: r) = 2 /\ unfoldK (a :: r) = [] /\ unfoldV (a :: r) = []) := ⟨e1, e2, e3⟩
      have hki : ((kindL x : Int) != 3) = true := by simp; omega
      clear hx hG hk3 e1 e2 e3 hF STEP
      generalize kindL x = kx at *
      generalize B (accV a r n) = acc at *
      generalize B x = X at *
      go_wp2_with fail
      refine (RK _).mono ?_
      rintro e w4 ⟨rfl, b4⟩
      have R4 := cells_kept hR b4 (by omega)
      have hb4 := hb.trans (b4.mono hs3)
      have c0 := R4.cell 0
      have c1 := R4.cell 1
      have f0 := R4.frozen 0
      have f1 := R4.frozen 1
      simp only [List.getElem?_toArray, List.getElem?_cons_zero, List.getElem?_cons_succ] at c0 c1
      have RE := (R4.set 0 (.string ⟨#[]⟩)).set 1 (.string ⟨#[]⟩)
      rw [set2] at RE
      clear hR b4 hcx hb
      go_wp2_with fail
      refine bodyPost_ret (ret_f2 rfl _ _ w.heap.size _ rfl RE rfl) rfl ?_
      obtain ⟨e1, e2, e3⟩ := ET.out
      exact ⟨by rw [e1, e2, e3]; rfl, (hb4.setCell (Nat.le_refl _) _).setCell (Nat.le_refl _) _⟩
    obtain rfl : n = r.length := by omega
    rw [accV_all] at *
    rw [List.drop_length] at hG
    have hF : sayF (a :: r) = true := by rw [sayF_cons hka, hG]; rfl
    have c0 := hR.cell 0
    have c1 := hR.cell 1
    have f0 := hR.frozen 0
    have f1 := hR.frozen 1
    simp only [List.getElem?_toArray, List.getElem?_cons_zero, List.getElem?_cons_succ] at c0 c1
    have hvz := B_size (saidV (a :: r))
    by_cases hlen : (saidV (a :: r)).length <= 1000
    . have ET : Hid _ := unfold_yes hF hlen
      have RE := (hR.set 0 (.string KB)).set 1 (.string (B (saidV (a :: r))))
      rw [set2] at RE
      rw [<- hvz] at hlen
      clear hF hG
      generalize hV : B (saidV (a :: r)) = V at *
      have HV := Lib.hid hV
      clear hV
      go_wp2_with fail
      refine bodyPost_ret (ret_f2 rfl _ _ w.heap.size _ rfl RE rfl) rfl ?_
      obtain ⟨e1, e2, e3⟩ := ET.out
      exact ⟨by rw [e1, e2, e3, HV.out, HK.out]; rfl, (hb.setCell (Nat.le_refl _) _).setCell (Nat.le_refl _) _⟩
    have ET : Hid _ := unfold_long hF hlen
    have RE := (hR.set 0 (.string ⟨#[]⟩)).set 1 (.string ⟨#[]⟩)
    rw [set2] at RE
    rw [<- hvz] at hlen
    clear hF hG
    generalize B (saidV (a :: r)) = V at *
    go_wp2_with fail
    refine bodyPost_ret (ret_f2 rfl _ _ w.heap.size _ rfl RE rfl) rfl ?_
    obtain ⟨e1, e2, e3⟩ := ET.out
    exact ⟨by rw [e1, e2, e3]; rfl, (hb.setCell (Nat.le_refl _) _).setCell (Nat.le_refl _) _⟩
  have hcb : (c == 32) = false := by simp [hc]
  rw [hcb] at q2
  have HA0 := Lib.hid hA0
  clear hA0 hc
  go_wp2_with fail
  go_loopw [5, 7] (fun s i wr => ∃ n : Nat, n <= r.length /\ i = .int .i64 ((n : Int) + 1) /\ s = .string (B (accV a r n)) /\ sayG 3 r = sayG 3 (r.drop n) /\ Cells wr w.heap.size 83 #[.string ⟨#[]⟩, .string ⟨#[]⟩] /\ Below w.heap.size w wr) (fun _ i _ => r.length + 1 - (intOf i).toNat)
  case atStart => exact ⟨0, Nat.zero_le _, rfl, by rw [HA0.out], rfl, R2, BW.out⟩
  case round =>
  obtain ⟨n, hnr, rfl, rfl, hG, hR, hb⟩ := hrel
  have hal := accV_le a r n
  have hs3 := hb.size
  have hRl := hR.lt
  by_cases hlt : n < r.length
  . obtain ⟨x, hx⟩ : ∃ x, r[n]? = some x := ⟨_, List.getElem?_eq_getElem hlt⟩
    have hcx := (hb.cell (p := ⟨b, off + (n + 1), none⟩) hbb).trans (PCH.out n x hx)
    have hxl := hlr x (List.mem_of_getElem? hx)
    have hxz := B_size x
    have RK := fun w => refKind_any (B x) (by omega) w
    rw [B_data] at RK
    have STEP := accV_step a r n x hx
    rw [allK_drop r n x hx] at hG
    by_cases hk3 : kindL x = 3
    . obtain ⟨c, d, t, rfl⟩ := kind3 hk3
      have G2 : Hid (sayG 3 r = sayG 3 (r.drop (n + 1))) := by show _ = _; rw [hG, hk3]; simp
      rw [hk3] at RK
      rw [List.tail_cons] at STEP
      have hex := tail_B c (d :: t)
      have hex2 := tail_B d t
      have z1 : (B (c :: d :: t)).size = t.length + 2 := by rw [B_size]; rfl
      have z2 : (B (d :: t)).size = t.length + 1 := by rw [B_size]; rfl
      have z3 : (B t).size = t.length := B_size t
      have htl : t.length <= 1000000 := by simp only [List.length_cons] at hxl; omega
      rw [z1] at hex
      rw [z2] at hex2
      have hd0 : ∀ h : 0 < (B (d :: t)).size, (B (d :: t))[0]'h = d := fun _ => rfl
      have hdp : 0 < (B (d :: t)).size := by omega
      have hcp : 0 < (B (c :: d :: t)).size := by omega
      have q2 := byte_eq (c := d) (d := 46) 46 rfl
      have y1 := B_size (accV a r n)
      have y2 : (B (accV a r n) ++ ⟨#[10]⟩).size = (accV a r n).length + 1 := by rw [show (⟨#[10]⟩ : ByteArray) = B [10] from rfl, B_append, B_size]; simp
      have hal2 : (accV a r n).length <= 1000000 := by omega
      clear hx hG hk3 hxz hal
      by_cases hd : d = 46
      . have SB : Hid (B (accV a r (n + 1)) = (B (accV a r n) ++ ⟨#[10]⟩) ++ B t) := by
          show _ = _
          rw [STEP, show (⟨#[10]⟩ : ByteArray) = B [10] from rfl, B_append, B_append]; simp [dropDot, hd]
        have hdb : (d == 46) = true := by simp [hd]
        rw [hdb] at q2
        clear STEP hd
        generalize B (accV a r n) = acc at *
        generalize B (c :: d :: t) = X at *
        generalize B (d :: t) = Y at *
        generalize B t = Z at *
        go_wp2_with fail
        refine (RK _).mono ?_
        rintro e w4 ⟨rfl, b4⟩
        have hcx4 := (b4.cell (p := ⟨b, off + (n + 1), none⟩) (Nat.lt_of_lt_of_le hbb hs3)).trans hcx
        have R4 := cells_kept hR b4 (by omega)
        have hb4 := hb.trans (b4.mono hs3)
        clear hR b4 hcx hb
        go_wp2_with fail
        go_roundw
        case rel => exact ⟨n + 1, hlt, by go_num, by rw [SB.out], G2.out, R4, hb4⟩
        case measure => simp [intOf]; omega
      have SB : Hid (B (accV a r (n + 1)) = (B (accV a r n) ++ ⟨#[10]⟩) ++ B (d :: t)) := by
        show _ = _
        rw [STEP, show (⟨#[10]⟩ : ByteArray) = B [10] from rfl, B_append, B_append]; simp [dropDot, hd]
      have hdb : (d == 46) = false := by simp [hd]
      rw [hdb] at q2
      clear STEP hd
      generalize B (accV a r n) = acc at *
      generalize B (c :: d :: t) = X at *
      generalize B (d :: t) = Y at *
      generalize B t = Z at *
      go_wp2_with fail
      refine (RK _).mono ?_
      rintro e w4 ⟨rfl, b4⟩
      have hcx4 := (b4.cell (p := ⟨b, off + (n + 1), none⟩) (Nat.lt_of_lt_of_le hbb hs3)).trans hcx
      have R4 := cells_kept hR b4 (by omega)
      have hb4 := hb.trans (b4.mono hs3)
      clear hR b4 hcx hb
      go_wp2_with fail
      go_roundw
      case rel => exact ⟨n + 1, hlt, by go_num, by rw [SB.out], G2.out, R4, hb4⟩
      case measure => simp [intOf]; omega
    have hF : sayF (a :: r) = false := by
      rw [sayF_cons hka, hG]; simp [hk3]
    obtain ⟨e1, e2, e3⟩ := unfold_no hF
    have ET : Hid (unfoldN (a :: r) = 2 /\ unfoldK (a :: r) = [] /\ unfoldV (a :: r) = []) := ⟨e1, e2, e3⟩
    have hki : ((kindL x : Int) != 3) = true := by simp; omega
    clear hx hG hk3 e1 e2 e3 hF STEP
    generalize kindL x = kx at *
    generalize B (accV a r n) = acc at *
    generalize B x = X at *
    go_wp2_with fail
    refine (RK _).mono ?_
    rintro e w4 ⟨rfl, b4⟩
    have R4 := cells_kept hR b4 (by omega)
    have hb4 := hb.trans (b4.mono hs3)
    have c0 := R4.cell 0
    have c1 := R4.cell 1
    have f0 := R4.frozen 0
    have f1 := R4.frozen 1
    simp only [List.getElem?_toArray, List.getElem?_cons_zero, List.getElem?_cons_succ] at c0 c1
    have RE := (R4.set 0 (.string ⟨#[]⟩)).set 1 (.string ⟨#[]⟩)
    rw [set2] at RE
    clear hR b4 hcx hb
    go_wp2_with fail
    refine bodyPost_ret (ret_f2 rfl _ _ w.heap.size _ rfl RE rfl) rfl ?_
    obtain ⟨e1, e2, e3⟩ := ET.out
    exact ⟨by rw [e1, e2, e3]; rfl, (hb4.setCell (Nat.le_refl _) _).setCell (Nat.le_refl _) _⟩
  obtain rfl : n = r.length := by omega
  rw [accV_all] at *
  rw [List.drop_length] at hG
  have hF : sayF (a :: r) = true := by rw [sayF_cons hka, hG]; rfl
  have c0 := hR.cell 0
  have c1 := hR.cell 1
  have f0 := hR.frozen 0
  have f1 := hR.frozen 1
  simp only [List.getElem?_toArray, List.getElem?_cons_zero, List.getElem?_cons_succ] at c0 c1
  have hvz := B_size (saidV (a :: r))
  by_cases hlen : (saidV (a :: r)).length <= 1000
  . have ET : Hid _ := unfold_yes hF hlen
    have RE := (hR.set 0 (.string KB)).set 1 (.string (B (saidV (a :: r))))
    rw [set2] at RE
    rw [<- hvz] at hlen
    clear hF hG
    generalize hV : B (saidV (a :: r)) = V at *
    have HV := Lib.hid hV
    clear hV
    go_wp2_with fail
    refine bodyPost_ret (ret_f2 rfl _ _ w.heap.size _ rfl RE rfl) rfl ?_
    obtain ⟨e1, e2, e3⟩ := ET.out
    exact ⟨by rw [e1, e2, e3, HV.out, HK.out]; rfl, (hb.setCell (Nat.le_refl _) _).setCell (Nat.le_refl _) _⟩
  have ET : Hid _ := unfold_long hF hlen
  have RE := (hR.set 0 (.string ⟨#[]⟩)).set 1 (.string ⟨#[]⟩)
  rw [set2] at RE
  rw [<- hvz] at hlen
  clear hF hG
  generalize B (saidV (a :: r)) = V at *
  go_wp2_with fail
  refine bodyPost_ret (ret_f2 rfl _ _ w.heap.size _ rfl RE rfl) rfl ?_
  obtain ⟨e1, e2, e3⟩ := ET.out
  exact ⟨by rw [e1, e2, e3]; rfl, (hb.setCell (Nat.le_refl _) _).setCell (Nat.le_refl _) _⟩
end Go.Proofs.YtbkeoiefolkjfaaGreatDoor
namespace Go.Proofs.YtbkeoiefolkjfaaGreatDoor
open Go.RowKit Go.Shelf
end Go.Proofs.YtbkeoiefolkjfaaGreatDoor
namespace Go.Proofs.YtbkeoiefolkjfaaGreatDoor
open Go.RowKit Go.Shelf
end Go.Proofs.YtbkeoiefolkjfaaGreatDoor
namespace Go.Proofs.YtbkeoiefolkjfaaGreatDoor
open Go.RowKit Go.Shelf
end Go.Proofs.YtbkeoiefolkjfaaGreatDoor
namespace Go.Proofs.YtbkeoiefolkjfaaGreatDoor
open Go.RowKit Go.Shelf
def Fresh (lo : Nat) (w : World) (v : Value) (its : List It) : Prop :=
  ∃ fvs, w.ownsRow lo 117 3 v its.length (itemsCells its fvs) /\ fvs.length = its.length /\ ∀ (j : Nat) it x, its[j]? = some it -> fvs[j]? = some x -> w.ownsRow lo 83 2 x it.fields.length (cellsF it.fields)
def RefParsed (w : World) (t : List UInt8) (e : Ending) (w' : World) : Prop :=
  Below w.heap.size w w' /\ match refParseL t with
    | .error (a, n) => e = .returned (.tuple #[.slice none 0 0, .int .i64 (a : Nat), .int .i64 (n : Nat)])
    | .ok its => ∃ v, e = .returned (.tuple #[v, .int .i64 (-9), .int .i64 0]) /\ Its w' v its /\ Fresh w.heap.size w' v its
end Go.Proofs.YtbkeoiefolkjfaaGreatDoor
namespace Go.Proofs.YtbkeoiefolkjfaaGreatDoor
open Go.RowKit Go.Shelf
theorem take_no {t : List UInt8} {p : PS} {x : Ln} {a n : Nat} (h : takeP t p x = .error (a, n)) : n ≠ 0 /\ n <= 11 := by
  unfold takeP at h
  split at h
  . rename_i hc
    cases h
    exact ⟨hc.2, endFieldN_le _⟩
  split at h
  . cases h; exact ⟨by decide, by decide⟩
  cases h
theorem run_no (t : List UInt8) : ∀ (xs : List Ln) (p : PS) (a n : Nat), runP t p xs = .error (a, n) -> n ≠ 0 /\ n <= 11
  | [], p, a, n, h => by cases h
  | x :: xs, p, a, n, h => by
    have h' : (match takeP t p x with | .error e => Except.error e | .ok q => runP t q xs) = .error (a, n) := h
    cases ht : takeP t p x with
    | error e =>
      rw [ht] at h'
      cases h'
      exact take_no ht
    | ok q =>
    rw [ht] at h'
    exact run_no t xs q a n h'
theorem parse_no {t : List UInt8} {a n : Nat} (h : parseL t = .error (a, n)) : n ≠ 0 /\ n <= 11 := by
  unfold parseL at h
  cases hr : runP t PS.new (linesOf t) with
  | error e =>
    rw [hr] at h
    cases h
    exact run_no t _ _ _ _ hr
  | ok p =>
  rw [hr] at h
  dsimp only at h
  unfold lastP at h
  split at h
  . rename_i hc
    cases h
    exact ⟨hc, endFieldN_le _⟩
  cases h
theorem refParsedNo {w w' : World} {t : List UInt8} {e : Ending} {a n : Nat} (h : RefParsed w t e w') (hp : parseL t = .error (a, n)) : Below w.heap.size w w' /\ e = .returned (.tuple #[.slice none 0 0, .int .i64 (a : Nat), .int .i64 (n : Nat)]) := by
  obtain ⟨h1, h2⟩ := h
  rw [<- parse_ref, hp] at h2
  exact ⟨h1, h2⟩
theorem refParsedYes {w w' : World} {t : List UInt8} {e : Ending} {its : List It} (h : RefParsed w t e w') (hp : parseL t = .ok its) : Below w.heap.size w w' /\ ∃ v, e = .returned (.tuple #[v, .int .i64 (-9), .int .i64 0]) /\ Its w' v its := by
  obtain ⟨h1, h2⟩ := h
  rw [<- parse_ref, hp] at h2
  obtain ⟨v, e1, i1, _⟩ := h2
  exact ⟨h1, v, e1, i1⟩
end Go.Proofs.YtbkeoiefolkjfaaGreatDoor
namespace Go.Proofs.YtbkeoiefolkjfaaGreatDoor.Bk
open Go.RowKit Go.Shelf
attribute [local go_sem] Oper.semAt_some
theorem good_longB (s : ByteArray) (hsz : 50000 < s.size) (w : World) :
    Calls Tryz.prog 62 #[.string s] w fun e w' => e = .returned (.bool false) /\ Below w.heap.size w w' := by
  have FT := Lib.hid (Fr.fits_any (s.size : Int))
  have hf : decide (2 <= (s.size : Int) /\ (s.size : Int) <= 50000) = false := by simp; omega
  refine callsIn_wide (n := 9).1 ?_
  refine callsIn_of_wp_marks Tryz.func62 rfl trivial ?_ rfl
  simp only [Tryz.ntmps62, List.size_toArray, List.length_cons, List.length_nil, Nat.reduceAdd, Nat.reduceSub, Array.replicate_succ, Array.replicate_zero, List.push_toArray, List.append_toArray, List.nil_append, List.cons_append]
  have k1 := Boxed.new w 4 (.bool false)
  have kb : Below w.heap.size w (w.alloc (.cells #[.bool false] 4)) := (Below.refl _ w).alloc (Nat.le_refl _) _
  rw [hf] at FT
  gi_wp2_with fail
  refine ⟨trivial, (callsIn_wide.2 (FT.out _)).mono ?_⟩
  rintro e w3 ⟨rfl, rfl⟩
  gi_wp2
  have c := k1.cell
  exact ⟨.bool false, by simp [results, Tryz.f62, go_sem, c], rfl, kb⟩
theorem record_longB (l : List UInt8) (hl : 50000 < l.length) (w : World) :
    Calls Tryz.prog 43 #[.string (B l)] w fun e w' => e = .returned (.tuple #[.string (B []), errV 2]) /\ Below w.heap.size w w' := by
  have G1 := Lib.hid (good_longB (B l) (by rw [B_size]; exact hl) w)
  go_enter Tryz.func43, Tryz.ntmps43
  go_wp2_with fail
  refine G1.out.mono ?_
  rintro e w1 ⟨rfl, hb1⟩
  go_wp2_with fail
  go_ret2
  exact ⟨rfl, hb1⟩
def BadAt (t : List UInt8) (a k : Nat) : Prop :=
  parseL (baseL (t.drop (hl (Hd.genP t)))) = .error (a, k) \/
  (k = 10 /\ ∃ its bds r, parseL (baseL (t.drop (hl (Hd.genP t)))) = .ok its /\ Recd Dc (t.drop (hl (Hd.genP t) + (baseL (t.drop (hl (Hd.genP t)))).length)) bds r /\ FinB Dc r /\ a = bds.length)
theorem BadAt.one {t : List UInt8} {a k a' k' : Nat} (h : BadAt t a k) (h' : BadAt t a' k') : a = a' /\ k = k' := by
  rcases h with h | ⟨rfl, its, bds, r, h1, h2, h3, rfl⟩ <;> rcases h' with h' | ⟨rfl, its', bds', r', h1', h2', h3', rfl⟩
  . rw [h] at h'
    injection h' with h'
    exact ⟨(Prod.mk.inj h').1, (Prod.mk.inj h').2⟩
  . rw [h] at h1'; cases h1'
  . rw [h'] at h1; cases h1
  obtain ⟨rfl, _⟩ := recd_one h2 h2' (.inr h3) (.inr h3')
  exact ⟨rfl, rfl⟩
theorem BadAt.not {t : List UInt8} {a k n : Nat} {base tail : List UInt8} {bds : List (List UInt8)} (h : BadAt t a k) (s : Sound Dc t n base bds tail) : False := by
  have hn : Hd.genP t = n := Hd.gen_one (Hd.genP_is t) s.gen
  obtain ⟨its, hp⟩ := s.parse
  have hB := s.isB
  unfold BadAt at h
  rw [hn, hB] at h
  rcases h with h | ⟨_, _, bds', r, _, h2, h3, _⟩
  . rw [hp] at h; cases h
  obtain ⟨rfl, rfl⟩ := recd_one h2 s.recd (.inr h3) (.inl s.fin)
  exact finB_not s.fin h3
theorem BadAt.num {t : List UInt8} {a k : Nat} (h : BadAt t a k) : k ≠ 0 /\ k <= 11 := by
  rcases h with h | ⟨rfl, _⟩
  . exact parse_no h
  exact ⟨by decide, by decide⟩
theorem ReadR.two {w w' : World} {t : List UInt8} {e : Ending} (h : ReadR w w' t e) : Below w.heap.size w w' /\
    ((∃ a k u, BadAt t a k /\ e = .returned (.tuple #[zeroB, u]) /\ FaultAt w.heap.size w' u a k) \/ ∃ n base bds tail v, Sound Dc t n base bds tail /\ e = .returned (.tuple #[v, .nilIface]) /\ BookR w.heap.size w' v n base bds tail) := by
  obtain ⟨hb, h⟩ := h
  refine ⟨hb, ?_⟩
  rcases h with ⟨a, k, u, h1, h2, h3⟩ | ⟨its, bds, r, u, h1, h2, h3, h4, h5⟩ | ⟨base, bds, tail, v, h1, h2, h3⟩
  . exact .inl ⟨a, k, u, .inl h1, h2, h3⟩
  . exact .inl ⟨_, 10, u, .inr ⟨rfl, its, bds, r, h1, h2, h3, rfl⟩, h4, h5⟩
  exact .inr ⟨_, base, bds, tail, v, h1, h2, h3⟩
def AppR (w w' : World) (t : List UInt8) (eds : List Ed) (e : Ending) : Prop := Below w.heap.size w w' /\
  ((∃ a k u, BadAt t a k /\ e = .returned (.tuple #[.string (B []), u]) /\ FaultAt w.heap.size w' u a k) \/
   ∃ n base bds tail, Sound Dc t n base bds tail /\
    (((chkB eds).2 ≠ 0 /\ ∃ u, e = .returned (.tuple #[.string (B []), u]) /\ ErrZ w.heap.size w' u (chkB eds).1 (chkB eds).2) \/
     ((chkB eds).2 = 0 /\ 50000 < (batchT eds).length /\ e = .returned (.tuple #[.string (B []), errV 11])) \/
     ((chkB eds).2 = 0 /\ (batchT eds).length <= 50000 /\ e = .returned (.tuple #[.string (B (t.take (wholeN n base bds) ++ Fr.fullR (batchT eds))), .nilIface]))))
theorem appended_any (t : List UInt8) (ht : t.length <= 60000) (eds : List Ed) (bv : Value) (w : World) (hE : EdV w bv eds) (hlen : eds.length <= 1000000) (hf : Fines8 eds) (hi : ∀ ed ∈ eds, I64 ed.id) (hT : TabB w) :
    Calls Tryz.prog 21 #[.string (B t), bv] w fun e w' => AppR w w' t eds e := by
  have TB : Hid (∀ W, Below w.heap.size w W -> TabB W) := fun W hW => hT.below hW (Nat.le_refl _)
  have hsz : (B t).size = t.length := B_size t
  have RD := Lib.hid (bookRead_any t (by omega) (by have := base_short t (hl (Hd.genP t)); omega) w hT)
  have EV : Hid (∀ W, Below w.heap.size w W -> EdV W bv eds) := fun W hW => hE.below hW (Nat.le_refl _)
  have HF := Lib.hid hf
  have HI := Lib.hid hi
  obtain ⟨va, vc, rfl, _⟩ : ∃ A c, bv = .slice A eds.length c /\ True := by obtain ⟨A, c, e, _⟩ := hE; exact ⟨A, c, e, trivial⟩
  clear hT hE hf hi
  go_enter Tryz.func21, Tryz.ntmps21
  go_wp2_with fail
  refine RD.out.mono ?_
  rintro e w1 hr
  obtain ⟨b1, h1⟩ := hr.two
  have B1 := Lib.hid b1
  clear RD hr b1
  rcases h1 with ⟨a, k, u, hbad, rfl, hf1⟩ | ⟨n, base, bds, tail, v, hS, rfl, hBR⟩
  . have hbz : Below w1.heap.size w1 (w1.alloc (.cells #[.int .i64 0, .string ⟨#[]⟩, .slice none 0 0, .slice none 0 0, .string ⟨#[]⟩] 26)) := (Below.refl _ _).alloc (Nat.le_refl _) _
    have B2 := Lib.hid (B1.out.trans (hbz.mono B1.out.size))
    have F2 := Lib.hid (hf1.below hbz (Nat.le_refl _))
    obtain ⟨q, _, rfl, _⟩ := hf1
    have HBAD := Lib.hid hbad
    unfold zeroB bookV
    clear hbz hbad
    go_wp2_with fail
    go_ret2
    exact ⟨B2.out, .inl ⟨a, k, _, HBAD.out, rfl, F2.out⟩⟩
  have BR2 := hBR
  obtain ⟨bbv, ev, us, rfl, hBt, hEv⟩ := hBR.is
  obtain ⟨ba, bc, rfl, _⟩ := own_slice hBt.row
  obtain ⟨ea, ec, rfl, _⟩ := own_slice hEv
  have PT := hS.parts
  unfold bookV at *
  obtain ⟨w3, hw3⟩ : ∃ z, w1.alloc (.cells #[.int .i64 (n : Int), .string (B base), .slice ba bds.length bc, .slice ea bds.length ec, .string (B tail)] 26) = z := ⟨_, rfl⟩
  obtain ⟨b23, C3⟩ := bcells hw3
  have B3 := Lib.hid (B1.out.trans (b23.mono B1.out.size))
  have hWl : wholeN n base bds <= t.length := by have := PT.len; omega
  have WH : Hid (∀ W, Below w3.heap.size w3 W -> Calls Tryz.prog 15 #[.agg #[.int .i64 (n : Int), .string (B base), .slice ba bds.length bc, .slice ea bds.length ec, .string (B tail)]] W fun e w' => e = .returned (.int .i64 (wholeN n base bds : Nat)) /\ Below W.heap.size W w') := fun W hW => whole_any ((BR2.below b23).below hW) (by omega) (TB.out W (B3.out.trans (hW.mono B3.out.size)))
  have EN := Lib.hid (encode_any eds _ w3 (EV.out w3 B3.out) hlen HF.out HI.out (TB.out w3 B3.out).tabs)
  have HS := Lib.hid hS
  have HC3 := Lib.hid C3
  have HW3 := Lib.hid hw3
  have EX : Hid ((B t).extract 0 (wholeN n base bds) = B (t.take (wholeN n base bds))) := Fr.ext_take _ _
  have RS : Hid (∀ e : Ending, ∀ w', Below w.heap.size w w' -> (((chkB eds).2 ≠ 0 /\ ∃ u, e = .returned (.tuple #[.string (B []), u]) /\ ErrZ w.heap.size w' u (chkB eds).1 (chkB eds).2) \/ ((chkB eds).2 = 0 /\ 50000 < (batchT eds).length /\ e = .returned (.tuple #[.string (B []), errV 11])) \/ ((chkB eds).2 = 0 /\ (batchT eds).length <= 50000 /\ e = .returned (.tuple #[.string (B (t.take (wholeN n base bds) ++ Fr.fullR (batchT eds))), .nilIface]))) -> AppR w w' t eds e) := fun e w' hb h => ⟨hb, .inr ⟨n, base, bds, tail, hS, h⟩⟩
  clear BR2 hBR hBt hEv hS PT b23 C3 hw3
  generalize hWW : wholeN n base bds = W at *
  go_wp2_with fail
  rw [HW3.out]
  refine EN.out.mono ?_
  rintro e w4 ⟨b4, h4⟩
  have B4 := Lib.hid (B3.out.trans (b4.mono B3.out.size))
  have HB34 := Lib.hid b4
  clear EN b4
  rcases h4 with ⟨hc, rfl⟩ | ⟨hc, u, rfl, hz⟩
  rotate_left
  . -- the batch isn't good
    have Z4 := Lib.hid (hz.mono (B3.out.size))
    have hform := hz
    obtain ⟨_, hform⟩ := hform
    have hform : (∃ z, u = .iface 57 (.int .i64 z)) \/ ∃ q, u = .iface 68 (.pointer (some ⟨q, 0, none⟩)) := by
      rcases hform with ⟨rfl, _⟩ | ⟨_, ⟨q, _, rfl, _⟩, _, _⟩
      . rw [errV_pos _ (by omega)]; exact .inl ⟨_, rfl⟩
      exact .inr ⟨q, rfl⟩
    have R4 := Lib.hid (RS.out (.returned (.tuple #[.string (B []), u])) w4 B4.out (.inl ⟨hc, u, rfl, Z4.out⟩))
    clear hz RS
    rcases hform with ⟨z, rfl⟩ | ⟨q, rfl⟩
    all_goals
      go_wp2_with fail
      go_ret2
      exact R4.out
  have hbt := B_size (batchT eds)
  by_cases hbig : 50000 < (batchT eds).length
  . have RC := Lib.hid (record_longB (batchT eds) hbig w4)
    have RSX : Hid (∀ w', Below w.heap.size w w' -> AppR w w' t eds (.returned (.tuple #[.string (B []), errV 11]))) := fun w' hb => RS.out _ w' hb (.inr (.inl ⟨hc, hbig, rfl⟩))
    rw [errV_2] at RC
    rw [errV_pos 11 (by decide)] at RSX
    clear RS
    generalize B (batchT eds) = X at *
    go_wp2_with fail
    refine RC.out.mono ?_
    rintro e w5 ⟨rfl, b5⟩
    have R5 := Lib.hid (RSX.out w5 (B4.out.trans (b5.mono B4.out.size)))
    clear b5 RC
    go_wp2_with fail
    go_ret2
    exact R5.out
  have hgd : Fr.goodR (batchT eds) = true := Fr.batch_body hc (by omega)
  have RC := Lib.hid (Fr.record_yes (batchT eds) hgd w4 (TB.out w4 B4.out).nums)
  have hfl := Fr.full_le hgd
  have hfs : (B (Fr.fullR (batchT eds))).size = (Fr.fullR (batchT eds)).length := B_size _
  have EX2 : Hid (B (t.take W) ++ B (Fr.fullR (batchT eds)) = B (t.take W ++ Fr.fullR (batchT eds))) := by show _ = _; rw [B_append]
  have RSX : Hid (∀ w', Below w.heap.size w w' -> AppR w w' t eds (.returned (.tuple #[.string (B (t.take W ++ Fr.fullR (batchT eds))), .nilIface]))) := fun w' hb => RS.out _ w' hb (.inr (.inr ⟨hc, by omega, rfl⟩))
  have htk : (B (t.take W)).size = W := by rw [B_size, List.length_take]; omega
  clear RS hgd hc
  generalize Fr.fullR (batchT eds) = FR at *
  generalize B (batchT eds) = X at *
  go_wp2_with fail
  refine RC.out.mono ?_
  rintro e w5 ⟨rfl, b5⟩
  have B35 := Lib.hid (HB34.out.trans (b5.mono HB34.out.size))
  have B5 := Lib.hid (B4.out.trans (b5.mono B4.out.size))
  have k := cells_kept HC3.out B35.out HC3.out.lt
  have k0 := k.cell 0
  have k1 := k.cell 1
  have k2 := k.cell 2
  have k3 := k.cell 3
  have k4 := k.cell 4
  simp only [List.getElem?_toArray, List.getElem?_cons_zero, List.getElem?_cons_succ] at k0 k1 k2 k3 k4
  clear b5 RC k
  go_wp2_with fail
  refine (WH.out w5 B35.out).mono ?_
  rintro e w6 ⟨rfl, b6⟩
  have B36 := Lib.hid (B35.out.trans (b6.mono B35.out.size))
  have B6 := Lib.hid (B5.out.trans (b6.mono B5.out.size))
  have k := cells_kept HC3.out B36.out HC3.out.lt
  have j0 := k.cell 0
  have j1 := k.cell 1
  have j2 := k.cell 2
  have j3 := k.cell 3
  have j4 := k.cell 4
  simp only [List.getElem?_toArray, List.getElem?_cons_zero, List.getElem?_cons_succ] at j0 j1 j2 j3 j4
  have q5 : ¬ (120000 : Int) < (W : Int) + (FR.length : Int) := by omega
  have q6 : (W : Int) <= ((B t).size : Int) := by omega
  clear b6 k k0 k1 k2 k3 k4
  go_wp2_with fail
  refine (WH.out w6 B36.out).mono ?_
  rintro e w7 ⟨rfl, b7⟩
  have R7 := Lib.hid (RSX.out w7 (B6.out.trans (b7.mono B6.out.size)))
  have hex : ((B t).extract 0 W).size = W := by rw [EX.out]; exact htk
  clear b7 RSX
  go_wp2_with fail
  rw [EX.out, EX2.out]
  go_ret2
  exact R7.out
end Go.Proofs.YtbkeoiefolkjfaaGreatDoor.Bk
namespace Go.Proofs.YtbkeoiefolkjfaaGreatDoor.Fr
open Go.RowKit Go.Shelf
attribute [local go_sem] Oper.semAt_some
theorem takeWhile_len {p : UInt8 -> Bool} {l : List UInt8} {k : Nat} (hk : k <= l.length) (h1 : (l.take k).all p = true) (h2 : k = l.length \/ ∃ c, l[k]? = some c /\ p c = false) : (l.takeWhile p).length = k := by
  have e : l = l.take k ++ l.drop k := (List.take_append_drop k l).symm
  rw [e, List.takeWhile_append_of_pos (fun x hx => List.all_eq_true.1 h1 x hx)]
  have hd : (l.drop k).takeWhile p = [] := by
    rcases h2 with h | ⟨c, hc, hp⟩
    . rw [List.drop_of_length_le (by omega)]; rfl
    obtain ⟨hlt, hc⟩ := List.getElem?_eq_some_iff.1 hc
    rw [List.drop_eq_getElem_cons hlt, List.takeWhile_cons, hc, hp]; rfl
  rw [hd, List.append_nil, List.length_take]; omega
theorem all_snoc {p : UInt8 -> Bool} {s : ByteArray} {k : Nat} (h : k < s.size) (h1 : (s.data.toList.take k).all p = true) (h2 : p s[k] = true) : (s.data.toList.take (k + 1)).all p = true := by
  rw [Sm.take_snoc s k h, List.all_append, h1]
  simp [h2]
theorem at_some {s : ByteArray} {k : Nat} (h : k < s.size) : s.data.toList[k]? = some s[k] := by
  rw [List.getElem?_eq_getElem (by rw [<- Lib.size_eq]; exact h)]; rfl
theorem decimal_any (s : ByteArray) (hs : s.size <= 1000000) (w : World) :
    Calls Tryz.prog 72 #[.string s] w fun e w' => e = .returned (.int .i64 ((s.data.toList.takeWhile dgB).length : Int)) /\ w' = w := by
  go_enter Tryz.func72, Tryz.ntmps72
  go_wp2_with fail
  go_loop [3] (fun i => ∃ k : Nat, k <= s.size /\ i = .int .i64 k /\ (s.data.toList.take k).all dgB = true) (fun i => s.size - (intOf i).toNat)
  case atStart => exact ⟨0, Nat.zero_le _, rfl, rfl⟩
  case round =>
  obtain ⟨k, hk, rfl, ha⟩ := hrel
  by_cases hlt : k < s.size
  . have hd : dgB s[k] = (decide (48 <= s[k].toNat) && decide (s[k].toNat <= 57)) := rfl
    by_cases h1 : 48 <= s[k].toNat
    . have q1 : (48 : Int) <= (s[k].toNat : Int) := by omega
      by_cases h2 : s[k].toNat <= 57
      . have q2 : (s[k].toNat : Int) <= 57 := by omega
        have HN := Lib.hid (all_snoc hlt ha (by rw [hd]; simp [h1, h2]))
        clear ha hd
        go_wp2_with fail
        go_round
        case rel => exact ⟨k + 1, by omega, by go_num, HN.out⟩
        case measure => simp [intOf]; omega
      have q2 : ¬ (s[k].toNat : Int) <= 57 := by omega
      have HN := Lib.hid (takeWhile_len (p := dgB) (by rw [<- Lib.size_eq]; omega) ha (.inr ⟨_, at_some hlt, by rw [hd]; simp [h2]⟩))
      clear ha hd
      go_wp2_with fail
      go_ret
      exact ⟨by rw [HN.out]; rfl, rfl⟩
    have q1 : ¬ (48 : Int) <= (s[k].toNat : Int) := by omega
    have HN := Lib.hid (takeWhile_len (p := dgB) (by rw [<- Lib.size_eq]; omega) ha (.inr ⟨_, at_some hlt, by rw [hd]; simp [h1]⟩))
    clear ha hd
    go_wp2_with fail
    go_ret
    exact ⟨by rw [HN.out]; rfl, rfl⟩
  obtain rfl : k = s.size := by omega
  have HN := Lib.hid (takeWhile_len (p := dgB) (by rw [<- Lib.size_eq]; omega) ha (.inl (Lib.size_eq s)))
  clear ha
  go_wp2_with fail
  go_ret
  exact ⟨by rw [HN.out]; rfl, rfl⟩
theorem hexB_of (c : UInt8) : hexB c = (decide (48 <= c.toNat /\ c.toNat <= 57) || decide (97 <= c.toNat /\ c.toNat <= 102)) := by
  unfold hexB Sm.val
  by_cases h : 48 <= c.toNat /\ c.toNat <= 57
  . rw [if_pos h]; simp [h]
  rw [if_neg h]
  by_cases h2 : 97 <= c.toNat /\ c.toNat <= 102
  . rw [if_pos h2]; simp [h2]
  rw [if_neg h2]; simp [h, h2]
theorem hx_len {s : ByteArray} {k : Nat} (h8 : k <= 8) (hk : k <= s.size) (h1 : (s.data.toList.take k).all hexB = true) (h2 : k = s.size \/ k = 8 \/ ∃ h : k < s.size, hexB s[k] = false) : hx s.data.toList = k := by
  unfold hx
  have e := Lib.size_eq s
  refine takeWhile_len (by simp; omega) (by rw [List.take_take, Nat.min_eq_left h8]; exact h1) ?_
  rcases h2 with h | h | ⟨h, hc⟩
  . exact .inl (by simp; omega)
  . exact .inl (by simp; omega)
  by_cases hk8 : k = 8
  . exact .inl (by simp; omega)
  exact .inr ⟨_, by rw [List.getElem?_take, if_pos (by omega)]; exact at_some h, hc⟩
theorem hex_any (s : ByteArray) (hs : s.size <= 1000000) (w : World) :
    Calls Tryz.prog 73 #[.string s] w fun e w' => e = .returned (.int .i64 (hx s.data.toList : Int)) /\ w' = w := by
  go_enter Tryz.func73, Tryz.ntmps73
  go_wp2_with fail
  go_loop [3] (fun i => ∃ k : Nat, k <= s.size /\ k <= 8 /\ i = .int .i64 k /\ (s.data.toList.take k).all hexB = true) (fun i => s.size - (intOf i).toNat)
  case atStart => exact ⟨0, Nat.zero_le _, Nat.zero_le _, rfl, rfl⟩
  case round =>
  obtain ⟨k, hk, hk8, rfl, ha⟩ := hrel
  by_cases hlt : k < s.size
  . by_cases h8 : k < 8
    . have q8 : (k : Int) < 8 := by omega
      have hh := hexB_of s[k]
      by_cases h1 : 48 <= s[k].toNat
      . have q1 : (48 : Int) <= (s[k].toNat : Int) := by omega
        by_cases h2 : s[k].toNat <= 57
        . have q2 : (s[k].toNat : Int) <= 57 := by omega
          have HN := Lib.hid (all_snoc (p := hexB) hlt ha (by rw [hh]; simp [h1, h2]))
          clear ha hh
          go_wp2_with fail
          go_round
          case rel => exact ⟨k + 1, by omega, by omega, by go_num, HN.out⟩
          case measure => simp [intOf]; omega
        have q2 : ¬ (s[k].toNat : Int) <= 57 := by omega
        by_cases h3 : 97 <= s[k].toNat
        . have q3 : (97 : Int) <= (s[k].toNat : Int) := by omega
          by_cases h4 : s[k].toNat <= 102
          . have q4 : (s[k].toNat : Int) <= 102 := by omega
            have HN := Lib.hid (all_snoc (p := hexB) hlt ha (by rw [hh]; simp [h3, h4]))
            clear ha hh
            go_wp2_with fail
            go_round
            case rel => exact ⟨k + 1, by omega, by omega, by go_num, HN.out⟩
            case measure => simp [intOf]; omega
          have q4 : ¬ (s[k].toNat : Int) <= 102 := by omega
          have HN := Lib.hid (hx_len hk8 hk ha (.inr (.inr ⟨hlt, by rw [hh]; simp [h2, h4]⟩)))
          clear ha hh
          go_wp2_with fail
          go_ret
          exact ⟨by rw [HN.out]; rfl, rfl⟩
        have q3 : ¬ (97 : Int) <= (s[k].toNat : Int) := by omega
        have HN := Lib.hid (hx_len hk8 hk ha (.inr (.inr ⟨hlt, by rw [hh]; simp [h2, h3]⟩)))
        clear ha hh
        go_wp2_with fail
        go_ret
        exact ⟨by rw [HN.out]; rfl, rfl⟩
      have q1 : ¬ (48 : Int) <= (s[k].toNat : Int) := by omega
      have h3 : ¬ 97 <= s[k].toNat := by omega
      have q3 : ¬ (97 : Int) <= (s[k].toNat : Int) := by omega
      have HN := Lib.hid (hx_len hk8 hk ha (.inr (.inr ⟨hlt, by rw [hh]; simp [h1, h3]⟩)))
      clear ha hh
      go_wp2_with fail
      go_ret
      exact ⟨by rw [HN.out]; rfl, rfl⟩
    have q8 : ¬ (k : Int) < 8 := by omega
    have HN := Lib.hid (hx_len hk8 hk ha (.inr (.inl (by omega))))
    clear ha
    go_wp2_with fail
    go_ret
    exact ⟨by rw [HN.out]; rfl, rfl⟩
  obtain rfl : k = s.size := by omega
  have HN := Lib.hid (hx_len hk8 hk ha (.inl rfl))
  clear ha
  go_wp2_with fail
  go_ret
  exact ⟨by rw [HN.out]; rfl, rfl⟩
end Go.Proofs.YtbkeoiefolkjfaaGreatDoor.Fr
