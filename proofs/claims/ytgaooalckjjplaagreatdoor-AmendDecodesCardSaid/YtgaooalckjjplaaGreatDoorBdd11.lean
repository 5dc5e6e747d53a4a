/- Texts put together: FU, FV. -/
import Derived.Test.YtgaooalckjjplaaGreatDoorBfa1
import Derived.Test.YtgaooalckjjplaaGreatDoorBfa2
import Derived.Test.YtgaooalckjjplaaGreatDoorBfa3
import Derived.Test.YtgaooalckjjplaaGreatDoorBfa4
import Derived.Test.YtgaooalckjjplaaGreatDoorBfa5
import Derived.Test.YtgaooalckjjplaaGreatDoorBfa7
import Derived.Test.YtgaooalckjjplaaGreatDoorBfa8
import Derived.Test.YtgaooalckjjplaaGreatDoorBfa9
import Derived.Test.YtgaooalckjjplaaGreatDoorBfa10
import Derived.Test.YtgaooalckjjplaaGreatDoorBfa12
import Derived.Test.YtgaooalckjjplaaGreatDoorBfa13
import Derived.Test.YtgaooalckjjplaaGreatDoorBdd1
import Derived.Test.YtgaooalckjjplaaGreatDoorBdd2
import Derived.Test.YtgaooalckjjplaaGreatDoorBdd3
import Derived.Test.YtgaooalckjjplaaGreatDoorBdd10
set_option linter.unusedVariables false
namespace Go.Proofs.YtgaooalckjjplaaGreatDoor
open Go.RowKit Go.Shelf

set_option maxRecDepth 100000 in
set_option maxHeartbeats 8000000 in
theorem refUnfold_yes (a : List UInt8) (r : List (List UInt8)) (v : Value) (w : World) (hs : Strs w v ((a :: r).map B)) (hl : ∀ l ∈ a :: r, l.length ≤ 100000) (hn : (a :: r).length ≤ 100000) (hj : (saidV (a :: r)).length ≤ 1000000) (hka : kindL a = 4) :
    Calls Tryz.prog 48 #[v] w fun e w' => e = .returned (.tuple #[fieldV (unfoldK (a :: r)) (unfoldV (a :: r)), .int .i64 (unfoldN (a :: r) : Nat)]) ∧ Below w.heap.size w w' := by
  obtain ⟨A, cap, rfl, hle, hc⟩ := hs
  have hcb := cellB hc
  clear hc
  obtain ⟨b, off, rfl, hbb, hca⟩ := hcb 0 a rfl
  have PCH := Lib.hid (fun (j : Nat) x (hx : r[j]? = some x) => (show w.cell? ⟨b, off + (j + 1), none⟩ = some (.string (B x)) by
    obtain ⟨b', off', e, _, h⟩ := hcb (j + 1) x (by simpa using hx)
    cases e; exact h))
  rw [Nat.add_zero] at hca
  clear hcb
  have hal := hl a (by simp)
  have hlr : ∀ x ∈ r, x.length ≤ 100000 := fun x hx => hl x (List.mem_cons_of_mem _ hx)
  have RK := fun w => refKind_any (B a) (by rw [B_size]; omega) w
  rw [B_data, hka] at RK
  obtain ⟨k1, k2, k3⟩ := kind4 hka
  have RC := fun w => refCut_yes (B a) (by rw [B_size]; omega) w (by rw [B_data]; exact k1) (by rw [B_data]; exact k2) (by rw [B_data]; exact k3)
  rw [pre_B, post_B] at RC
  rw [List.length_map, List.length_cons] at *
  have hnz : ((r.length : Int) + 1 == 0) = false := by rw [beq_eq_false_iff_ne]; omega
  have haz : (afterC a).length ≤ a.length := by unfold afterC; rw [List.length_drop]; omega
  have hA0 : B (accV a r 0) = B (dropSp (afterC a)) := by unfold accV; rfl
  unfold fieldV
  clear k1 k2 k3 hl
  generalize hX : B a = X at *
  clear hX
  generalize hK : B (before a) = KB at *
  have HK := Lib.hid hK
  clear hK
  go_enter Tryz.func48, Tryz.ntmps48
  go_wp2_with fail
  refine (RK _).mono ?_
  rintro e w1 ⟨rfl, b1⟩
  have R1 := cells_kept (Cells.new w 66 #[.string ⟨#[]⟩, .string ⟨#[]⟩]) b1 (by simp)
  have hb1 : Below w.heap.size w w1 := ((Below.refl _ _).alloc (Nat.le_refl _) _).trans (b1.mono (by simp))
  have hca1 := (hb1.cell (p := ⟨b, off, none⟩) hbb).trans hca
  have hs1 := b1.size
  simp only [World.size_alloc] at hs1
  clear b1 hca RK
  go_wp2_with fail
  refine (RC _).mono ?_
  rintro e w2 ⟨rfl, b2⟩
  have R2 := cells_kept R1 b2 (by omega)
  have BW := Lib.hid (hb1.trans (b2.mono (by omega)))
  clear b2 R1 hb1 hca1 RC
  rcases hac : afterC a with _ | ⟨c, t⟩
  · rw [hac] at hA0
    have HA0 : Hid (B (accV a r 0) = ⟨#[]⟩) := hA0
    rw [show B [] = ⟨#[]⟩ from rfl]
    clear hA0 hac
    go_wp2_with fail
    go_loopw [5, 7] (fun s i wr => ∃ n : Nat, n ≤ r.length ∧ i = .int .i64 ((n : Int) + 1) ∧ s = .string (B (accV a r n)) ∧ sayG 3 r = sayG 3 (r.drop n) ∧ Cells wr w.heap.size 66 #[.string ⟨#[]⟩, .string ⟨#[]⟩] ∧ Below w.heap.size w wr) (fun _ i _ => r.length + 1 - (intOf i).toNat)
    case atStart => exact ⟨0, Nat.zero_le _, rfl, by rw [HA0.out], rfl, R2, BW.out⟩
    case round =>
      obtain ⟨n, hnr, rfl, rfl, hG, hR, hb⟩ := hrel
      have hal := accV_le a r n
      have hs3 := hb.size
      have hRl := hR.lt
      by_cases hlt : n < r.length
      · obtain ⟨x, hx⟩ : ∃ x, r[n]? = some x := ⟨_, List.getElem?_eq_getElem hlt⟩
        have hcx := (hb.cell (p := ⟨b, off + (n + 1), none⟩) hbb).trans (PCH.out n x hx)
        have hxl := hlr x (List.mem_of_getElem? hx)
        have hxz := B_size x
        have RK := fun w => refKind_any (B x) (by omega) w
        rw [B_data] at RK
        have STEP := accV_step a r n x hx
        rw [allK_drop r n x hx] at hG
        by_cases hk3 : kindL x = 3
        · obtain ⟨c, d, t, rfl⟩ := kind3 hk3
          have G2 : Hid (sayG 3 r = sayG 3 (r.drop (n + 1))) := by show _ = _; rw [hG, hk3]; simp
          rw [hk3] at RK
          rw [List.tail_cons] at STEP
          have hex := tail_B c (d :: t)
          have hex2 := tail_B d t
          have z1 : (B (c :: d :: t)).size = t.length + 2 := by rw [B_size]; rfl
          have z2 : (B (d :: t)).size = t.length + 1 := by rw [B_size]; rfl
          have z3 : (B t).size = t.length := B_size t
          have htl : t.length ≤ 1000000 := by simp only [List.length_cons] at hxl; omega
          rw [z1] at hex
          rw [z2] at hex2
          have hd0 : ∀ h : 0 < (B (d :: t)).size, (B (d :: t))[0]'h = d := fun _ => rfl
          have hdp : 0 < (B (d :: t)).size := by omega
          have hcp : 0 < (B (c :: d :: t)).size := by omega
          have q2 := byte_eq (c := d) (d := 46) 46 rfl
          have y1 := B_size (accV a r n)
          have y2 : (B (accV a r n) ++ ⟨#[10]⟩).size = (accV a r n).length + 1 := by rw [show (⟨#[10]⟩ : ByteArray) = B [10] from rfl, B_append, B_size]; simp
          have hal2 : (accV a r n).length ≤ 1000000 := by omega
          clear hx hG hk3 hxz hal
          by_cases hd : d = 46
          · have SB : Hid (B (accV a r (n + 1)) = (B (accV a r n) ++ ⟨#[10]⟩) ++ B t) := by
              show _ = _
              rw [STEP, show (⟨#[10]⟩ : ByteArray) = B [10] from rfl, B_append, B_append]; simp [dropDot, hd]
            have hdb : (d == 46) = true := by simp [hd]
            rw [hdb] at q2
            clear STEP hd
            generalize B (accV a r n) = acc at *
            generalize B (c :: d :: t) = X at *
            generalize B (d :: t) = Y at *
            generalize B t = Z at *
            go_wp2_with fail
            refine (RK _).mono ?_
            rintro e w4 ⟨rfl, b4⟩
            have hcx4 := (b4.cell (p := ⟨b, off + (n + 1), none⟩) (Nat.lt_of_lt_of_le hbb hs3)).trans hcx
            have R4 := cells_kept hR b4 (by omega)
            have hb4 := hb.trans (b4.mono hs3)
            clear hR b4 hcx hb
            go_wp2_with fail
            go_roundw
            case rel => exact ⟨n + 1, hlt, by go_num, by rw [SB.out], G2.out, R4, hb4⟩
            case measure => simp [intOf]; omega
          · have SB : Hid (B (accV a r (n + 1)) = (B (accV a r n) ++ ⟨#[10]⟩) ++ B (d :: t)) := by
              show _ = _
              rw [STEP, show (⟨#[10]⟩ : ByteArray) = B [10] from rfl, B_append, B_append]; simp [dropDot, hd]
            have hdb : (d == 46) = false := by simp [hd]
            rw [hdb] at q2
            clear STEP hd
            generalize B (accV a r n) = acc at *
            generalize B (c :: d :: t) = X at *
            generalize B (d :: t) = Y at *
            generalize B t = Z at *
            go_wp2_with fail
            refine (RK _).mono ?_
            rintro e w4 ⟨rfl, b4⟩
            have hcx4 := (b4.cell (p := ⟨b, off + (n + 1), none⟩) (Nat.lt_of_lt_of_le hbb hs3)).trans hcx
            have R4 := cells_kept hR b4 (by omega)
            have hb4 := hb.trans (b4.mono hs3)
            clear hR b4 hcx hb
            go_wp2_with fail
            go_roundw
            case rel => exact ⟨n + 1, hlt, by go_num, by rw [SB.out], G2.out, R4, hb4⟩
            case measure => simp [intOf]; omega
        · have hF : sayF (a :: r) = false := by
            rw [sayF_cons hka, hG]; simp [hk3]
          obtain ⟨e1, e2, e3⟩ := unfold_no hF
          have ET : Hid (unfoldN (a :: r) = 2 ∧ unfoldK (a :: r) = [] ∧ unfoldV (a :: r) = []) := ⟨e1, e2, e3⟩
          have hki : ((kindL x : Int) != 3) = true := by simp; omega
          clear hx hG hk3 e1 e2 e3 hF STEP
          generalize kindL x = kx at *
          generalize B (accV a r n) = acc at *
          generalize B x = X at *
          go_wp2_with fail
          refine (RK _).mono ?_
          rintro e w4 ⟨rfl, b4⟩
          have R4 := cells_kept hR b4 (by omega)
          have hb4 := hb.trans (b4.mono hs3)
          have c0 := R4.cell 0
          have c1 := R4.cell 1
          have f0 := R4.frozen 0
          have f1 := R4.frozen 1
          simp only [List.getElem?_toArray, List.getElem?_cons_zero, List.getElem?_cons_succ] at c0 c1
          have RE := (R4.set 0 (.string ⟨#[]⟩)).set 1 (.string ⟨#[]⟩)
          rw [set2] at RE
          clear hR b4 hcx hb
          go_wp2_with fail
          refine bodyPost_ret (ret_f2 rfl _ _ w.heap.size _ rfl RE rfl) rfl ?_
          obtain ⟨e1, e2, e3⟩ := ET.out
          exact ⟨by rw [e1, e2, e3]; rfl, (hb4.setCell (Nat.le_refl _) _).setCell (Nat.le_refl _) _⟩
      · obtain rfl : n = r.length := by omega
        rw [accV_all] at *
        rw [List.drop_length] at hG
        have hF : sayF (a :: r) = true := by rw [sayF_cons hka, hG]; rfl
        have c0 := hR.cell 0
        have c1 := hR.cell 1
        have f0 := hR.frozen 0
        have f1 := hR.frozen 1
        simp only [List.getElem?_toArray, List.getElem?_cons_zero, List.getElem?_cons_succ] at c0 c1
        have hvz := B_size (saidV (a :: r))
        by_cases hlen : (saidV (a :: r)).length ≤ 1000
        · have ET : Hid _ := unfold_yes hF hlen
          have RE := (hR.set 0 (.string KB)).set 1 (.string (B (saidV (a :: r))))
          rw [set2] at RE
          rw [← hvz] at hlen
          clear hF hG
          generalize hV : B (saidV (a :: r)) = V at *
          have HV := Lib.hid hV
          clear hV
          go_wp2_with fail
          refine bodyPost_ret (ret_f2 rfl _ _ w.heap.size _ rfl RE rfl) rfl ?_
          obtain ⟨e1, e2, e3⟩ := ET.out
          exact ⟨by rw [e1, e2, e3, HV.out, HK.out]; rfl, (hb.setCell (Nat.le_refl _) _).setCell (Nat.le_refl _) _⟩
        · have ET : Hid _ := unfold_long hF hlen
          have RE := (hR.set 0 (.string ⟨#[]⟩)).set 1 (.string ⟨#[]⟩)
          rw [set2] at RE
          rw [← hvz] at hlen
          clear hF hG
          generalize B (saidV (a :: r)) = V at *
          go_wp2_with fail
          refine bodyPost_ret (ret_f2 rfl _ _ w.heap.size _ rfl RE rfl) rfl ?_
          obtain ⟨e1, e2, e3⟩ := ET.out
          exact ⟨by rw [e1, e2, e3]; rfl, (hb.setCell (Nat.le_refl _) _).setCell (Nat.le_refl _) _⟩
  · rw [hac] at hA0 haz
    have hyz := B_size (c :: t)
    have htl : t.length ≤ 1000000 := by simp only [List.length_cons] at haz; omega
    have z1 : (B (c :: t)).size = t.length + 1 := hyz
    have hex := tail_B c t
    rw [z1] at hex
    have hd0 : ∀ h : 0 < (B (c :: t)).size, (B (c :: t))[0]'h = c := fun _ => rfl
    have hdp : 0 < (B (c :: t)).size := by omega
    have q2 := byte_eq (c := c) (d := 32) 32 rfl
    have hAA : (c = 32 ∧ B (accV a r 0) = B t) ∨ (c ≠ 32 ∧ B (accV a r 0) = B (c :: t)) := by
      by_cases h : c = 32
      · exact .inl ⟨h, by rw [hA0]; unfold dropSp; rw [h]; rfl⟩
      · exact .inr ⟨h, by rw [hA0]; unfold dropSp; simp [h]⟩
    clear hA0 hac hyz haz
    have y1 := B_size t
    generalize B (c :: t) = Y0 at *
    generalize B t = Z0 at *
    rcases hAA with ⟨hc, hA0⟩ | ⟨hc, hA0⟩
    · have hcb : (c == 32) = true := by simp [hc]
      rw [hcb] at q2
      have HA0 := Lib.hid hA0
      clear hA0 hc
      go_wp2_with fail
      go_loopw [5, 7] (fun s i wr => ∃ n : Nat, n ≤ r.length ∧ i = .int .i64 ((n : Int) + 1) ∧ s = .string (B (accV a r n)) ∧ sayG 3 r = sayG 3 (r.drop n) ∧ Cells wr w.heap.size 66 #[.string ⟨#[]⟩, .string ⟨#[]⟩] ∧ Below w.heap.size w wr) (fun _ i _ => r.length + 1 - (intOf i).toNat)
      case atStart => exact ⟨0, Nat.zero_le _, rfl, by rw [HA0.out], rfl, R2, BW.out⟩
      case round =>
        obtain ⟨n, hnr, rfl, rfl, hG, hR, hb⟩ := hrel
        have hal := accV_le a r n
        have hs3 := hb.size
        have hRl := hR.lt
        by_cases hlt : n < r.length
        · obtain ⟨x, hx⟩ : ∃ x, r[n]? = some x := ⟨_, List.getElem?_eq_getElem hlt⟩
          have hcx := (hb.cell (p := ⟨b, off + (n + 1), none⟩) hbb).trans (PCH.out n x hx)
          have hxl := hlr x (List.mem_of_getElem? hx)
          have hxz := B_size x
          have RK := fun w => refKind_any (B x) (by omega) w
          rw [B_data] at RK
          have STEP := accV_step a r n x hx
          rw [allK_drop r n x hx] at hG
          by_cases hk3 : kindL x = 3
          · obtain ⟨c, d, t, rfl⟩ := kind3 hk3
            have G2 : Hid (sayG 3 r = sayG 3 (r.drop (n + 1))) := by show _ = _; rw [hG, hk3]; simp
            rw [hk3] at RK
            rw [List.tail_cons] at STEP
            have hex := tail_B c (d :: t)
            have hex2 := tail_B d t
            have z1 : (B (c :: d :: t)).size = t.length + 2 := by rw [B_size]; rfl
            have z2 : (B (d :: t)).size = t.length + 1 := by rw [B_size]; rfl
            have z3 : (B t).size = t.length := B_size t
            have htl : t.length ≤ 1000000 := by simp only [List.length_cons] at hxl; omega
            rw [z1] at hex
            rw [z2] at hex2
            have hd0 : ∀ h : 0 < (B (d :: t)).size, (B (d :: t))[0]'h = d := fun _ => rfl
            have hdp : 0 < (B (d :: t)).size := by omega
            have hcp : 0 < (B (c :: d :: t)).size := by omega
            have q2 := byte_eq (c := d) (d := 46) 46 rfl
            have y1 := B_size (accV a r n)
            have y2 : (B (accV a r n) ++ ⟨#[10]⟩).size = (accV a r n).length + 1 := by rw [show (⟨#[10]⟩ : ByteArray) = B [10] from rfl, B_append, B_size]; simp
            have hal2 : (accV a r n).length ≤ 1000000 := by omega
            clear hx hG hk3 hxz hal
            by_cases hd : d = 46
            · have SB : Hid (B (accV a r (n + 1)) = (B (accV a r n) ++ ⟨#[10]⟩) ++ B t) := by
                show _ = _
                rw [STEP, show (⟨#[10]⟩ : ByteArray) = B [10] from rfl, B_append, B_append]; simp [dropDot, hd]
              have hdb : (d == 46) = true := by simp [hd]
              rw [hdb] at q2
              clear STEP hd
              generalize B (accV a r n) = acc at *
              generalize B (c :: d :: t) = X at *
              generalize B (d :: t) = Y at *
              generalize B t = Z at *
              go_wp2_with fail
              refine (RK _).mono ?_
              rintro e w4 ⟨rfl, b4⟩
              have hcx4 := (b4.cell (p := ⟨b, off + (n + 1), none⟩) (Nat.lt_of_lt_of_le hbb hs3)).trans hcx
              have R4 := cells_kept hR b4 (by omega)
              have hb4 := hb.trans (b4.mono hs3)
              clear hR b4 hcx hb
              go_wp2_with fail
              go_roundw
              case rel => exact ⟨n + 1, hlt, by go_num, by rw [SB.out], G2.out, R4, hb4⟩
              case measure => simp [intOf]; omega
            · have SB : Hid (B (accV a r (n + 1)) = (B (accV a r n) ++ ⟨#[10]⟩) ++ B (d :: t)) := by
                show _ = _
                rw [STEP, show (⟨#[10]⟩ : ByteArray) = B [10] from rfl, B_append, B_append]; simp [dropDot, hd]
              have hdb : (d == 46) = false := by simp [hd]
              rw [hdb] at q2
              clear STEP hd
              generalize B (accV a r n) = acc at *
              generalize B (c :: d :: t) = X at *
              generalize B (d :: t) = Y at *
              generalize B t = Z at *
              go_wp2_with fail
              refine (RK _).mono ?_
              rintro e w4 ⟨rfl, b4⟩
              have hcx4 := (b4.cell (p := ⟨b, off + (n + 1), none⟩) (Nat.lt_of_lt_of_le hbb hs3)).trans hcx
              have R4 := cells_kept hR b4 (by omega)
              have hb4 := hb.trans (b4.mono hs3)
              clear hR b4 hcx hb
              go_wp2_with fail
              go_roundw
              case rel => exact ⟨n + 1, hlt, by go_num, by rw [SB.out], G2.out, R4, hb4⟩
              case measure => simp [intOf]; omega
          · have hF : sayF (a :: r) = false := by
              rw [sayF_cons hka, hG]; simp [hk3]
            obtain ⟨e1, e2, e3⟩ := unfold_no hF
            have ET : Hid (unfoldN (a :: r) = 2 ∧ unfoldK (a :: r) = [] ∧ unfoldV (a :: r) = []) := ⟨e1, e2, e3⟩
            have hki : ((kindL x : Int) != 3) = true := by simp; omega
            clear hx hG hk3 e1 e2 e3 hF STEP
            generalize kindL x = kx at *
            generalize B (accV a r n) = acc at *
            generalize B x = X at *
            go_wp2_with fail
            refine (RK _).mono ?_
            rintro e w4 ⟨rfl, b4⟩
            have R4 := cells_kept hR b4 (by omega)
            have hb4 := hb.trans (b4.mono hs3)
            have c0 := R4.cell 0
            have c1 := R4.cell 1
            have f0 := R4.frozen 0
            have f1 := R4.frozen 1
            simp only [List.getElem?_toArray, List.getElem?_cons_zero, List.getElem?_cons_succ] at c0 c1
            have RE := (R4.set 0 (.string ⟨#[]⟩)).set 1 (.string ⟨#[]⟩)
            rw [set2] at RE
            clear hR b4 hcx hb
            go_wp2_with fail
            refine bodyPost_ret (ret_f2 rfl _ _ w.heap.size _ rfl RE rfl) rfl ?_
            obtain ⟨e1, e2, e3⟩ := ET.out
            exact ⟨by rw [e1, e2, e3]; rfl, (hb4.setCell (Nat.le_refl _) _).setCell (Nat.le_refl _) _⟩
        · obtain rfl : n = r.length := by omega
          rw [accV_all] at *
          rw [List.drop_length] at hG
          have hF : sayF (a :: r) = true := by rw [sayF_cons hka, hG]; rfl
          have c0 := hR.cell 0
          have c1 := hR.cell 1
          have f0 := hR.frozen 0
          have f1 := hR.frozen 1
          simp only [List.getElem?_toArray, List.getElem?_cons_zero, List.getElem?_cons_succ] at c0 c1
          have hvz := B_size (saidV (a :: r))
          by_cases hlen : (saidV (a :: r)).length ≤ 1000
          · have ET : Hid _ := unfold_yes hF hlen
            have RE := (hR.set 0 (.string KB)).set 1 (.string (B (saidV (a :: r))))
            rw [set2] at RE
            rw [← hvz] at hlen
            clear hF hG
            generalize hV : B (saidV (a :: r)) = V at *
            have HV := Lib.hid hV
            clear hV
            go_wp2_with fail
            refine bodyPost_ret (ret_f2 rfl _ _ w.heap.size _ rfl RE rfl) rfl ?_
            obtain ⟨e1, e2, e3⟩ := ET.out
            exact ⟨by rw [e1, e2, e3, HV.out, HK.out]; rfl, (hb.setCell (Nat.le_refl _) _).setCell (Nat.le_refl _) _⟩
          · have ET : Hid _ := unfold_long hF hlen
            have RE := (hR.set 0 (.string ⟨#[]⟩)).set 1 (.string ⟨#[]⟩)
            rw [set2] at RE
            rw [← hvz] at hlen
            clear hF hG
            generalize B (saidV (a :: r)) = V at *
            go_wp2_with fail
            refine bodyPost_ret (ret_f2 rfl _ _ w.heap.size _ rfl RE rfl) rfl ?_
            obtain ⟨e1, e2, e3⟩ := ET.out
            exact ⟨by rw [e1, e2, e3]; rfl, (hb.setCell (Nat.le_refl _) _).setCell (Nat.le_refl _) _⟩
    · have hcb : (c == 32) = false := by simp [hc]
      rw [hcb] at q2
      have HA0 := Lib.hid hA0
      clear hA0 hc
      go_wp2_with fail
      go_loopw [5, 7] (fun s i wr => ∃ n : Nat, n ≤ r.length ∧ i = .int .i64 ((n : Int) + 1) ∧ s = .string (B (accV a r n)) ∧ sayG 3 r = sayG 3 (r.drop n) ∧ Cells wr w.heap.size 66 #[.string ⟨#[]⟩, .string ⟨#[]⟩] ∧ Below w.heap.size w wr) (fun _ i _ => r.length + 1 - (intOf i).toNat)
      case atStart => exact ⟨0, Nat.zero_le _, rfl, by rw [HA0.out], rfl, R2, BW.out⟩
      case round =>
        obtain ⟨n, hnr, rfl, rfl, hG, hR, hb⟩ := hrel
        have hal := accV_le a r n
        have hs3 := hb.size
        have hRl := hR.lt
        by_cases hlt : n < r.length
        · obtain ⟨x, hx⟩ : ∃ x, r[n]? = some x := ⟨_, List.getElem?_eq_getElem hlt⟩
          have hcx := (hb.cell (p := ⟨b, off + (n + 1), none⟩) hbb).trans (PCH.out n x hx)
          have hxl := hlr x (List.mem_of_getElem? hx)
          have hxz := B_size x
          have RK := fun w => refKind_any (B x) (by omega) w
          rw [B_data] at RK
          have STEP := accV_step a r n x hx
          rw [allK_drop r n x hx] at hG
          by_cases hk3 : kindL x = 3
          · obtain ⟨c, d, t, rfl⟩ := kind3 hk3
            have G2 : Hid (sayG 3 r = sayG 3 (r.drop (n + 1))) := by show _ = _; rw [hG, hk3]; simp
            rw [hk3] at RK
            rw [List.tail_cons] at STEP
            have hex := tail_B c (d :: t)
            have hex2 := tail_B d t
            have z1 : (B (c :: d :: t)).size = t.length + 2 := by rw [B_size]; rfl
            have z2 : (B (d :: t)).size = t.length + 1 := by rw [B_size]; rfl
            have z3 : (B t).size = t.length := B_size t
            have htl : t.length ≤ 1000000 := by simp only [List.length_cons] at hxl; omega
            rw [z1] at hex
            rw [z2] at hex2
            have hd0 : ∀ h : 0 < (B (d :: t)).size, (B (d :: t))[0]'h = d := fun _ => rfl
            have hdp : 0 < (B (d :: t)).size := by omega
            have hcp : 0 < (B (c :: d :: t)).size := by omega
            have q2 := byte_eq (c := d) (d := 46) 46 rfl
            have y1 := B_size (accV a r n)
            have y2 : (B (accV a r n) ++ ⟨#[10]⟩).size = (accV a r n).length + 1 := by rw [show (⟨#[10]⟩ : ByteArray) = B [10] from rfl, B_append, B_size]; simp
            have hal2 : (accV a r n).length ≤ 1000000 := by omega
            clear hx hG hk3 hxz hal
            by_cases hd : d = 46
            · have SB : Hid (B (accV a r (n + 1)) = (B (accV a r n) ++ ⟨#[10]⟩) ++ B t) := by
                show _ = _
                rw [STEP, show (⟨#[10]⟩ : ByteArray) = B [10] from rfl, B_append, B_append]; simp [dropDot, hd]
              have hdb : (d == 46) = true := by simp [hd]
              rw [hdb] at q2
              clear STEP hd
              generalize B (accV a r n) = acc at *
              generalize B (c :: d :: t) = X at *
              generalize B (d :: t) = Y at *
              generalize B t = Z at *
              go_wp2_with fail
              refine (RK _).mono ?_
              rintro e w4 ⟨rfl, b4⟩
              have hcx4 := (b4.cell (p := ⟨b, off + (n + 1), none⟩) (Nat.lt_of_lt_of_le hbb hs3)).trans hcx
              have R4 := cells_kept hR b4 (by omega)
              have hb4 := hb.trans (b4.mono hs3)
              clear hR b4 hcx hb
              go_wp2_with fail
              go_roundw
              case rel => exact ⟨n + 1, hlt, by go_num, by rw [SB.out], G2.out, R4, hb4⟩
              case measure => simp [intOf]; omega
            · have SB : Hid (B (accV a r (n + 1)) = (B (accV a r n) ++ ⟨#[10]⟩) ++ B (d :: t)) := by
                show _ = _
                rw [STEP, show (⟨#[10]⟩ : ByteArray) = B [10] from rfl, B_append, B_append]; simp [dropDot, hd]
              have hdb : (d == 46) = false := by simp [hd]
              rw [hdb] at q2
              clear STEP hd
              generalize B (accV a r n) = acc at *
              generalize B (c :: d :: t) = X at *
              generalize B (d :: t) = Y at *
              generalize B t = Z at *
              go_wp2_with fail
              refine (RK _).mono ?_
              rintro e w4 ⟨rfl, b4⟩
              have hcx4 := (b4.cell (p := ⟨b, off + (n + 1), none⟩) (Nat.lt_of_lt_of_le hbb hs3)).trans hcx
              have R4 := cells_kept hR b4 (by omega)
              have hb4 := hb.trans (b4.mono hs3)
              clear hR b4 hcx hb
              go_wp2_with fail
              go_roundw
              case rel => exact ⟨n + 1, hlt, by go_num, by rw [SB.out], G2.out, R4, hb4⟩
              case measure => simp [intOf]; omega
          · have hF : sayF (a :: r) = false := by
              rw [sayF_cons hka, hG]; simp [hk3]
            obtain ⟨e1, e2, e3⟩ := unfold_no hF
            have ET : Hid (unfoldN (a :: r) = 2 ∧ unfoldK (a :: r) = [] ∧ unfoldV (a :: r) = []) := ⟨e1, e2, e3⟩
            have hki : ((kindL x : Int) != 3) = true := by simp; omega
            clear hx hG hk3 e1 e2 e3 hF STEP
            generalize kindL x = kx at *
            generalize B (accV a r n) = acc at *
            generalize B x = X at *
            go_wp2_with fail
            refine (RK _).mono ?_
            rintro e w4 ⟨rfl, b4⟩
            have R4 := cells_kept hR b4 (by omega)
            have hb4 := hb.trans (b4.mono hs3)
            have c0 := R4.cell 0
            have c1 := R4.cell 1
            have f0 := R4.frozen 0
            have f1 := R4.frozen 1
            simp only [List.getElem?_toArray, List.getElem?_cons_zero, List.getElem?_cons_succ] at c0 c1
            have RE := (R4.set 0 (.string ⟨#[]⟩)).set 1 (.string ⟨#[]⟩)
            rw [set2] at RE
            clear hR b4 hcx hb
            go_wp2_with fail
            refine bodyPost_ret (ret_f2 rfl _ _ w.heap.size _ rfl RE rfl) rfl ?_
            obtain ⟨e1, e2, e3⟩ := ET.out
            exact ⟨by rw [e1, e2, e3]; rfl, (hb4.setCell (Nat.le_refl _) _).setCell (Nat.le_refl _) _⟩
        · obtain rfl : n = r.length := by omega
          rw [accV_all] at *
          rw [List.drop_length] at hG
          have hF : sayF (a :: r) = true := by rw [sayF_cons hka, hG]; rfl
          have c0 := hR.cell 0
          have c1 := hR.cell 1
          have f0 := hR.frozen 0
          have f1 := hR.frozen 1
          simp only [List.getElem?_toArray, List.getElem?_cons_zero, List.getElem?_cons_succ] at c0 c1
          have hvz := B_size (saidV (a :: r))
          by_cases hlen : (saidV (a :: r)).length ≤ 1000
          · have ET : Hid _ := unfold_yes hF hlen
            have RE := (hR.set 0 (.string KB)).set 1 (.string (B (saidV (a :: r))))
            rw [set2] at RE
            rw [← hvz] at hlen
            clear hF hG
            generalize hV : B (saidV (a :: r)) = V at *
            have HV := Lib.hid hV
            clear hV
            go_wp2_with fail
            refine bodyPost_ret (ret_f2 rfl _ _ w.heap.size _ rfl RE rfl) rfl ?_
            obtain ⟨e1, e2, e3⟩ := ET.out
            exact ⟨by rw [e1, e2, e3, HV.out, HK.out]; rfl, (hb.setCell (Nat.le_refl _) _).setCell (Nat.le_refl _) _⟩
          · have ET : Hid _ := unfold_long hF hlen
            have RE := (hR.set 0 (.string ⟨#[]⟩)).set 1 (.string ⟨#[]⟩)
            rw [set2] at RE
            rw [← hvz] at hlen
            clear hF hG
            generalize B (saidV (a :: r)) = V at *
            go_wp2_with fail
            refine bodyPost_ret (ret_f2 rfl _ _ w.heap.size _ rfl RE rfl) rfl ?_
            obtain ⟨e1, e2, e3⟩ := ET.out
            exact ⟨by rw [e1, e2, e3]; rfl, (hb.setCell (Nat.le_refl _) _).setCell (Nat.le_refl _) _⟩
end Go.Proofs.YtgaooalckjjplaaGreatDoor

namespace Go.Proofs.YtgaooalckjjplaaGreatDoor
open Go.RowKit Go.Shelf

theorem refUnfold_any (ls : List (List UInt8)) (v : Value) (w : World) (hs : Strs w v (ls.map B)) (hl : ∀ l ∈ ls, l.length ≤ 100000) (hn : ls.length ≤ 100000) (hj : (saidV ls).length ≤ 1000000) :
    Calls Tryz.prog 48 #[v] w fun e w' => e = .returned (.tuple #[fieldV (unfoldK ls) (unfoldV ls), .int .i64 (unfoldN ls : Nat)]) ∧ Below w.heap.size w w' := by
  cases ls with
  | nil =>
    have hF : sayF [] = false := rfl
    obtain ⟨e1, e2, e3⟩ := unfold_no hF
    rw [e1, e2, e3]
    exact refUnfold_no [] v w hs hl hn (.inl rfl)
  | cons a r =>
    by_cases hka : kindL a = 4
    · exact refUnfold_yes a r v w hs hl hn hj hka
    · have hF : sayF (a :: r) = false := by
        rw [sayF_eq]
        show (decide (0 < (a :: r).length) && ((kindL a == 4) && sayG 3 r)) = _
        simp [hka]
      obtain ⟨e1, e2, e3⟩ := unfold_no hF
      rw [e1, e2, e3]
      exact refUnfold_no (a :: r) v w hs hl hn (.inr ⟨a, r, rfl, hka⟩)
end Go.Proofs.YtgaooalckjjplaaGreatDoor

