/- PrintMixes' walk. -/
import Derived.Test.YtafgebodmhkghaaDoorXTR
import Derived.Deep.DeepCutAuto
set_option linter.unusedVariables false
namespace Go.Proofs.YtafgebodmhkghaaDoor
open Go.RowKit Go.Shelf Go.ChangeShapes Go.WideShapes

def pk (l : List It) (k : Nat) : Bool := match l[k]? with | some it => it.kind != 1 | none => false
theorem pk_at {l : List It} {k : Nat} {it : It} (h : l[k]? = some it) : pk l k = (it.kind != 1) := by unfold pk; rw [h]
theorem pk_none {l : List It} {k : Nat} (h : ¬ k < l.length) : pk l k = false := by unfold pk; rw [List.getElem?_eq_none (by omega)]
theorem pk_true {l : List It} {k : Nat} (h : pk l k = true) : ∃ it, l[k]? = some it ∧ pickI l k = [it] := by
  unfold pk at h
  cases hk : l[k]? with
  | none => rw [hk] at h; cases h
  | some it => rw [hk] at h; exact ⟨it, rfl, pick_yes hk (by simpa using h)⟩
theorem pk_false {l : List It} {k : Nat} (h : pk l k = false) : pickI l k = [] := by
  unfold pk at h
  cases hk : l[k]? with
  | none => unfold pickI; rw [hk]
  | some it => rw [hk] at h; exact pick_blank hk (by simpa using h)
theorem sliceOne (g n c j : Nat) (hn : j + 1 ≤ c) (W : World) : (Instr.slice 23 (.slice (some ⟨g, 0, none⟩) n c) (some (.int .i64 (j : Nat))) (some (.int .i64 ((j : Nat) + 1))) none).run Tryd.prog W = .ok (.slice (some ⟨g, j * 3, none⟩) 1 (c - j)) W := by
  have h := run_slice_lh (P := Tryd.prog) W 23 (some ⟨g, 0, none⟩) n c (show Tryd.prog.underlying 23 = some (.slice (Tryd.prog.elem 23)) by kernel_rfl) .i64 .i64 (j : Int) ((j : Int) + 1) (by omega) (by omega) (by omega)
  have hsz : (sizeOf (Tryd.prog.elem 23)).run Tryd.prog W = .ok 3 W := by kernel_rfl
  rw [h, hsz]
  show Result.ok (sliced (some ⟨g, 0, none⟩) ((j : Int)).toNat ((j : Int) + 1).toNat c 3) W = _
  unfold sliced
  have e1 : ((j : Int)).toNat = j := by omega
  have e2 : ((j : Int) + 1).toNat = j + 1 := by omega
  rw [e1, e2, if_neg (by omega), Nat.add_sub_cancel_left]
  simp [Addr.add]
  omega
set_option maxRecDepth 100000 in
set_option maxHeartbeats 16000000 in
theorem mixesLaw6 (s t : ByteArray) (turn : Bool) (hs : s.size ≤ maxLen) (ht : t.size ≤ maxLen) (w : World) :
    Calls Tryd.prog 8 #[.string s, .string t, .bool turn] w fun e w' => e = .returned (.bool true) ∧ Below w.heap.size w w' := by
  unfold maxLen at hs ht
  obtain ⟨i0, hi, hz0, hz1, hz2⟩ := info_parts infoItem
  by_cases h1 : 3000 < s.size
  · go_enter Tryd.func8, Tryd.ntmps8
    go_wp2_with fail
    refine (alive6_any _).mono ?_
    rintro e w1 ⟨rfl, b1⟩
    go_wp2_with fail
    go_ret
    exact ⟨rfl, b1⟩
  by_cases h2 : 3000 < t.size
  · go_enter Tryd.func8, Tryd.ntmps8
    go_wp2_with fail
    refine (alive6_any _).mono ?_
    rintro e w1 ⟨rfl, b1⟩
    go_wp2_with fail
    go_ret
    exact ⟨rfl, b1⟩
  have PA := Lib.hid (fun w => parse_any s (by omega) w)
  have PB := Lib.hid (fun w => parse_any t (by omega) w)
  cases hp : parseL s.data.toList with
  | error an =>
    obtain ⟨a, n⟩ := an
    have HP := Lib.hid hp
    clear hp
    go_enter Tryd.func8, Tryd.ntmps8
    go_wp2_with fail
    refine (alive6_any _).mono ?_
    rintro e w1 ⟨rfl, b1⟩
    go_wp2_with fail
    refine (PA.out _).mono ?_
    rintro e w2 hP
    obtain ⟨p1, v, rfl, q, _, rfl, _⟩ := parseNo hP HP.out
    have hb := b1.trans (p1.mono b1.size)
    have hzb := hb.size
    clear hP
    go_wp2_with fail
    refine (PB.out _).mono ?_
    rintro e w3 hP
    have b3 := hb.trans (hP.1.mono hzb)
    have hE : ∃ x y, e = .returned (.tuple #[x, y]) := by
      obtain ⟨_, hP⟩ := hP
      cases hq : parseL t.data.toList with
      | error bn => rw [hq] at hP; obtain ⟨v, rfl, _⟩ := hP; exact ⟨_, _, rfl⟩
      | ok m => rw [hq] at hP; obtain ⟨v, rfl, _⟩ := hP; exact ⟨_, _, rfl⟩
    obtain ⟨x, y, rfl⟩ := hE
    clear hP PA PB
    go_wp2_with fail
    go_ret
    exact ⟨rfl, b3⟩
  | ok l =>
    cases hq : parseL t.data.toList with
    | error bn =>
      obtain ⟨a, n⟩ := bn
      have HP := Lib.hid hp
      have HQ := Lib.hid hq
      clear hp hq
      go_enter Tryd.func8, Tryd.ntmps8
      go_wp2_with fail
      refine (alive6_any _).mono ?_
      rintro e w1 ⟨rfl, b1⟩
      go_wp2_with fail
      refine (PA.out _).mono ?_
      rintro e w2 hP
      obtain ⟨p1, v, rfl, i1, _⟩ := parseYes hP HP.out
      obtain ⟨la, lc, hle2, hlc, _⟩ := id i1
      subst hle2
      have hb := b1.trans (p1.mono b1.size)
      have hzb := hb.size
      clear hP i1
      go_wp2_with fail
      refine (PB.out _).mono ?_
      rintro e w3 hP
      obtain ⟨p3, v3, rfl, q, _, rfl, _⟩ := parseNo hP HQ.out
      have b3 := hb.trans (p3.mono hzb)
      clear hP PA PB
      go_wp2_with fail
      go_ret
      exact ⟨rfl, b3⟩
    | ok m =>
      obtain ⟨_, hl1, hl2⟩ := parse_join hp
      obtain ⟨_, hm1, hm2⟩ := parse_join hq
      rw [← Lib.size_eq] at hl1 hm1
      have HL2 : Hid (∀ it ∈ l, it.fields.length ≤ 40 ∧ it.raw.length ≤ 3000) := fun it hi => by have := hl2 it hi; rw [← Lib.size_eq] at this; omega
      have HM2 : Hid (∀ it ∈ m, it.fields.length ≤ 40 ∧ it.raw.length ≤ 3000) := fun it hi => by have := hm2 it hi; rw [← Lib.size_eq] at this; omega
      have MP := Lib.hid (fun k => mix_parse hp hq turn k)
      rw [← Lib.size_eq, ← Lib.size_eq] at MP
      have HP := Lib.hid hp
      have HQ := Lib.hid hq
      clear hp hq hl2 hm2
      go_enter Tryd.func8, Tryd.ntmps8
      go_wp2_with fail
      refine (alive6_any _).mono ?_
      rintro e w1 ⟨rfl, b1⟩
      go_wp2_with fail
      refine (PA.out _).mono ?_
      rintro e w2 hP
      obtain ⟨p1, v, rfl, i1, n1⟩ := parseYes hP HP.out
      obtain ⟨la, lc, hle2, hlc, _⟩ := id i1
      subst hle2
      have hb := b1.trans (p1.mono b1.size)
      have hzb := hb.size
      have I1 := Lib.hid i1
      have NI1 := Lib.hid n1
      clear hP i1 n1 PA p1 b1
      go_wp2_with fail
      refine (PB.out _).mono ?_
      rintro e w3 hP
      obtain ⟨p3, v3, rfl, i3, n3⟩ := parseYes hP HQ.out
      obtain ⟨ma, mc, hme2, hmc, _⟩ := id i3
      subst hme2
      have hb3 := hb.trans (p3.mono hzb)
      have hz3 := hb3.size
      have I3 := Lib.hid i3
      have LC : Hid (∀ (k : Nat) (it : It), l[k]? = some it → ∃ b off fa fc, Value.slice la l.length lc = .slice (some ⟨b, off, none⟩) l.length lc ∧ b < w3.heap.size ∧ Flds w3 (.slice fa it.fields.length fc) it.fields ∧ (∀ n c, Value.slice fa it.fields.length fc = .slice none n c → c = 0) ∧ ∀ W, Below w3.heap.size w3 W → W.cell? ⟨b, off + k * 3, none⟩ = some (.int .i64 it.kind) ∧ W.cell? ⟨b, off + k * 3 + 1, none⟩ = some (.string (B it.raw)) ∧ W.cell? ⟨b, off + k * 3 + 1 + 1, none⟩ = some (.slice fa it.fields.length fc)) := by
        intro k it hit
        obtain ⟨A', cap', e, _, hc⟩ := I1.out
        obtain ⟨b, off, fv, e2, hbb, c0, c1, c2, hf⟩ := hc k it hit
        obtain ⟨fa, fc, rfl, _, _⟩ := id hf
        cases e
        subst e2
        have hlt : k < l.length := by
          rcases Nat.lt_or_ge k l.length with q | q
          · exact q
          · rw [List.getElem?_eq_none q] at hit; cases hit
        have hbb3 : b < w3.heap.size := Nat.lt_of_lt_of_le hbb p3.size
        refine ⟨b, off, fa, fc, rfl, hbb3, hf.below p3 (Nat.le_refl _), fun n c e => NI1.out k b off _ _ n c rfl hlt (by rw [c2, e]), fun W hW => ⟨?_, ?_, ?_⟩⟩
        · exact (hW.cell (p := ⟨b, off + k * 3, none⟩) hbb3).trans ((p3.cell (p := ⟨b, off + k * 3, none⟩) hbb).trans c0)
        · exact (hW.cell (p := ⟨b, off + k * 3 + 1, none⟩) hbb3).trans ((p3.cell (p := ⟨b, off + k * 3 + 1, none⟩) hbb).trans c1)
        · exact (hW.cell (p := ⟨b, off + k * 3 + 1 + 1, none⟩) hbb3).trans ((p3.cell (p := ⟨b, off + k * 3 + 1 + 1, none⟩) hbb).trans c2)
      have MC : Hid (∀ (k : Nat) (it : It), m[k]? = some it → ∃ b off fa fc, Value.slice ma m.length mc = .slice (some ⟨b, off, none⟩) m.length mc ∧ b < w3.heap.size ∧ Flds w3 (.slice fa it.fields.length fc) it.fields ∧ (∀ n c, Value.slice fa it.fields.length fc = .slice none n c → c = 0) ∧ ∀ W, Below w3.heap.size w3 W → W.cell? ⟨b, off + k * 3, none⟩ = some (.int .i64 it.kind) ∧ W.cell? ⟨b, off + k * 3 + 1, none⟩ = some (.string (B it.raw)) ∧ W.cell? ⟨b, off + k * 3 + 1 + 1, none⟩ = some (.slice fa it.fields.length fc)) := by
        intro k it hit
        obtain ⟨A', cap', e, _, hc⟩ := I3.out
        obtain ⟨b, off, fv, e2, hbb, c0, c1, c2, hf⟩ := hc k it hit
        obtain ⟨fa, fc, rfl, _, _⟩ := id hf
        cases e
        subst e2
        have hlt : k < m.length := by
          rcases Nat.lt_or_ge k m.length with q | q
          · exact q
          · rw [List.getElem?_eq_none q] at hit; cases hit
        refine ⟨b, off, fa, fc, rfl, hbb, hf, fun n c e => n3 k b off _ _ n c rfl hlt (by rw [c2, e]), fun W hW => ⟨?_, ?_, ?_⟩⟩
        · exact (hW.cell (p := ⟨b, off + k * 3, none⟩) hbb).trans c0
        · exact (hW.cell (p := ⟨b, off + k * 3 + 1, none⟩) hbb).trans c1
        · exact (hW.cell (p := ⟨b, off + k * 3 + 1 + 1, none⟩) hbb).trans c2
      have acc0 : AccI w3 (w3.alloc (.cells #[] 43)) (.slice (some ⟨w3.heap.size, 0, none⟩) 0 0) [] [] :=
        ⟨World.ownsRow_lit w3 #[] 0 (Nat.le_refl _) (by decide) rfl, rfl, fun j it x h => by simp at h, (Below.refl _ _).alloc (Nat.le_refl _) _⟩
      obtain ⟨N, hN⟩ : ∃ N : Nat, max l.length m.length = N := ⟨_, rfl⟩
      have hNI : max (l.length : Int) (m.length : Int) = (N : Int) := by omega
      have hN1 : N ≤ 3000 := by omega
      have HN := Lib.hid hN
      clear hP i3 n3 PB p3 I1 I3 NI1 HP HQ hN
      go_wp2_with fail
      go_loopw [11, 49] (fun u i wr => ∃ (k : Nat) (gvs : List Value), k ≤ N ∧ i = .int .i64 k ∧ AccI w3 wr u gvs (mixTo turn l m k) ∧ NilF gvs) (fun _ i _ => N - (intOf i).toNat)
      case atStart => exact ⟨0, [], Nat.zero_le _, rfl, acc0, fun x h => by cases h⟩
      case round =>
        obtain ⟨k, gvs, hk, rfl, hacc, hnf⟩ := hrel
        by_cases hlt : k < N
        · have hb := hacc.below
          have hzr := hb.size
          have ml := mix_len turn l m k
          obtain ⟨ua, uc, hue, _⟩ := own_slice hacc.row
          subst hue
          have ACC := Lib.hid hacc
          have NF := Lib.hid hnf
          have hpl := pick_len l k
          clear hacc hnf acc0
          obtain ⟨p1, hp1⟩ : ∃ p1 : Bool, pk l k = p1 := ⟨_, rfl⟩
          have HP1 := Lib.hid hp1
          clear hp1
          go_upto_region 13 with fail
          go_cut [63] (fun c wx => c = .bool p1 ∧ wx = wr)
          case first =>
            by_cases hkl : k < l.length
            · obtain ⟨it, hit⟩ : ∃ it, l[k]? = some it := ⟨_, List.getElem?_eq_getElem hkl⟩
              obtain ⟨b, off, fa, fc, e, hbb, _, _, cc⟩ := LC.out k it hit
              cases e
              obtain ⟨c0, _, _⟩ := cc wr hb
              have hq := pk_at hit
              rw [HP1.out] at hq
              have HQ := Lib.hid hq
              have hbl := Nat.lt_of_lt_of_le hbb hb.size
              clear hit cc hq
              go_wp2_with fail
              go_meet
              exact ⟨by rw [HQ.out], rfl⟩
            · have hq := pk_none hkl
              rw [HP1.out] at hq
              have HQ := Lib.hid hq
              clear hq
              go_wp2_with fail
              go_meet
              exact ⟨by rw [HQ.out], rfl⟩
          case rest =>
            obtain ⟨rfl, rfl⟩ := hcut
            go_upto_if 63 with fail
            go_cut [11] (fun u wx => ∃ gvs1, AccI w3 wx u gvs1 (mixTo turn l m k ++ pickI l k) ∧ NilF gvs1)
            case first =>
              cases p1 with
              | true =>
                obtain ⟨it, hit, hpi⟩ := pk_true HP1.out
                obtain ⟨b, off, fa, fc, e, hbb, hfl, hfn, cc⟩ := LC.out k it hit
                cases e
                obtain ⟨c0, c1, c2⟩ := cc wc hb
                have hkl : k < l.length := by
                  rcases Nat.lt_or_ge k l.length with q | q
                  · exact q
                  · rw [List.getElem?_eq_none q] at hit; cases hit
                have HPI := Lib.hid hpi
                have HFL := Lib.hid hfl
                have HFN := Lib.hid hfn
                have hbl := Nat.lt_of_lt_of_le hbb hb.size
                have hrow := ACC.out.row
                have HV := Lib.hid (cells_new_add wc 43 [.int .i64 it.kind, .string (B it.raw), .slice fa it.fields.length fc])
                clear hit cc hpi hfl hfn LC MC
                generalize mixTo turn l m k = ap at *
                go_wp2_with (at_builtin; refine wpList_append_own _ rfl _ _ 23 rfl w3.heap.size 43 i0 _ 3 48 Tryd.underlying23 hi hz0 hz1 hz2 rfl (by decide) _ _ _ rfl (hrow.alloc _) ⟨wc.heap.size, 0, none⟩ 1 1 _ rfl rfl HV.out (by intro u hu; simp at hu; rcases hu with rfl | rfl | rfl <;> rfl) (by unfold maxLen; omega) (by omega) (by first | omega | (simp only [World.size_alloc]; omega)) ?_)
                intro v' w5 hown' hgrow _
                have hacc5 := ACC.out.snoc HFL.out hown' _ hgrow
                obtain ⟨g', cap5, rfl⟩ := ownsRow_succ hown'
                go_wp2_with fail
                go_meet
                exact ⟨_, by rw [HPI.out]; exact hacc5, NF.out.snoc HFN.out⟩
              | false =>
                have HPF := Lib.hid (pk_false HP1.out)
                go_wp2_with fail
                go_meet
                exact ⟨gvs, by rw [HPF.out, List.append_nil]; exact ACC.out, NF.out⟩
            case rest =>
              obtain ⟨gvs1, hacc1, hnf1⟩ := hcut
              have hb1 := hacc1.below
              have hzr1 := hb1.size
              have ml1 : (mixTo turn l m k ++ pickI l k).length ≤ 6001 := by rw [List.length_append]; omega
              have ACC1 := Lib.hid hacc1
              have NF1 := Lib.hid hnf1
              obtain ⟨ub, ud, hub, _⟩ := own_slice hacc1.row
              subst hub
              clear hacc1 hnf1 ACC NF HP1 hb hzr
              obtain ⟨p2, hp2⟩ : ∃ p2 : Bool, (pk m k && turn) = p2 := ⟨_, rfl⟩
              have HP2 := Lib.hid hp2
              clear hp2
              obtain ⟨wv, hwv⟩ : ∃ wv, wv = wc := ⟨wc, rfl⟩
              subst hwv
              go_upto_region 15 with fail
              go_cut [85] (fun c wx => c = .bool p2 ∧ wx = wv)
              case first =>
                by_cases hkm : k < m.length
                · obtain ⟨it, hit⟩ : ∃ it, m[k]? = some it := ⟨_, List.getElem?_eq_getElem hkm⟩
                  obtain ⟨b, off, fa, fc, e, hbb, _, _, cc⟩ := MC.out k it hit
                  cases e
                  obtain ⟨c0, _, _⟩ := cc wv hb1
                  have hq := HP2.out
                  rw [pk_at hit] at hq
                  have HQ := Lib.hid hq
                  have hbl := Nat.lt_of_lt_of_le hbb hb1.size
                  clear hit cc hq
                  cases hk1 : (it.kind != 1) with
                  | true =>
                    rw [hk1] at HQ
                    go_wp2_with fail
                    go_meet
                    exact ⟨by rw [← HQ.out]; rfl, rfl⟩
                  | false =>
                    rw [hk1] at HQ
                    go_wp2_with fail
                    go_meet
                    exact ⟨by rw [← HQ.out]; rfl, rfl⟩
                · have hq := HP2.out
                  rw [pk_none hkm] at hq
                  have HQ := Lib.hid hq
                  clear hq
                  go_wp2_with fail
                  go_meet
                  exact ⟨by rw [← HQ.out]; rfl, rfl⟩
              case rest =>
                obtain ⟨rfl, rfl⟩ := hcut
                cases p2 with
                | true =>
                  obtain ⟨hpt, htt⟩ := (Bool.and_eq_true _ _).mp HP2.out
                  obtain ⟨it, hit, hpi⟩ := pk_true hpt
                  obtain ⟨b, off, fa, fc, e, hbb, hfl, hfn, cc⟩ := MC.out k it hit
                  cases e
                  obtain ⟨c0, c1, c2⟩ := cc wc hb1
                  have hkm : k < m.length := by
                    rcases Nat.lt_or_ge k m.length with q | q
                    · exact q
                    · rw [List.getElem?_eq_none q] at hit; cases hit
                  have HPI := Lib.hid hpi
                  have HFL := Lib.hid hfl
                  have HFN := Lib.hid hfn
                  have HTT := Lib.hid htt
                  have hbl := Nat.lt_of_lt_of_le hbb hb1.size
                  have hrow := ACC1.out.row
                  have HV := Lib.hid (cells_new_add wc 43 [.int .i64 it.kind, .string (B it.raw), .slice fa it.fields.length fc])
                  clear hit cc hpi hfl hfn LC MC htt hpt HP2
                  generalize hap : mixTo turn l m k ++ pickI l k = ap at *
                  replace hap := Lib.hid hap
                  go_wp2_with (at_builtin; refine wpList_append_own _ rfl _ _ 23 rfl w3.heap.size 43 i0 _ 3 48 Tryd.underlying23 hi hz0 hz1 hz2 rfl (by decide) _ _ _ rfl (hrow.alloc _) ⟨wc.heap.size, 0, none⟩ 1 1 _ rfl rfl HV.out (by intro u hu; simp at hu; rcases hu with rfl | rfl | rfl <;> rfl) (by unfold maxLen; omega) (by omega) (by first | omega | (simp only [World.size_alloc]; omega)) ?_)
                  intro v' w5 hown' hgrow _
                  have hacc5 := ACC1.out.snoc HFL.out hown' _ hgrow
                  obtain ⟨g', cap5, rfl⟩ := ownsRow_succ hown'
                  go_wp2_with fail
                  go_roundw
                  case rel =>
                    refine ⟨k + 1, _, hlt, by go_num, ?_, NF1.out.snoc HFN.out⟩
                    show AccI w3 w5 _ _ ((mixTo turn l m k ++ pickI l k) ++ (if turn = true then pickI m k else []))
                    rw [if_pos HTT.out, HPI.out, hap.out]; exact hacc5
                  case measure => simp [intOf]; omega
                | false =>
                  have HPF : Hid ((if turn = true then pickI m k else []) = []) := by
                    show _ = _
                    by_cases htt : turn = true
                    · have hq := HP2.out
                      rw [htt, Bool.and_true] at hq
                      rw [if_pos htt]; exact pk_false hq
                    · rw [if_neg htt]
                  have HA2 : Hid (AccI w3 wc (.slice ub (mixTo turn l m k ++ pickI l k).length ud) gvs1 (mixTo turn l m (k + 1))) := by
                    show AccI w3 wc _ _ ((mixTo turn l m k ++ pickI l k) ++ (if turn = true then pickI m k else []))
                    rw [HPF.out, List.append_nil]; exact ACC1.out
                  clear HP2 LC MC HPF
                  go_wp2_with fail
                  go_roundw
                  case rel => exact ⟨k + 1, gvs1, hlt, by go_num, HA2.out, NF1.out⟩
                  case measure => simp [intOf]; omega
        · obtain rfl : k = N := by omega
          obtain ⟨wm, hwm⟩ : ∃ wm, wm = wr := ⟨wr, rfl⟩
          subst hwm
          obtain ⟨ua, uc, hue, hul⟩ := own_slice hacc.row
          subst hue
          have hbm := hb3.trans (hacc.below.mono hz3)
          have hzm := hbm.size
          by_cases h400 : 400 < (mixTo turn l m k).length
          · clear hacc hnf LC MC acc0
            go_wp2_with fail
            go_ret
            exact ⟨rfl, hbm⟩
          · obtain ⟨mp, mq⟩ := MP.out k (by omega)
            have AF : ∀ it ∈ mixTo turn l m k, it.kind ≠ 1 ∧ it.fields.length ≤ 40 ∧ it.raw.length ≤ 3000 := by
              intro it hi
              obtain ⟨q1, q2⟩ := mix_mem k hi
              rcases q1 with q1 | q1
              · exact ⟨q2, HL2.out it q1⟩
              · exact ⟨q2, HM2.out it q1⟩
            have SOL := Lib.hid (apart_solid false (mixTo turn l m k) (fun x hx => (AF x hx).1))
            have MPH := Lib.hid mp
            have ACC := Lib.hid hacc
            have RE := Lib.hid (render_any _ _ wm hacc.its (hacc.nilI hnf) (by omega) (fun it hi => by have := (AF it hi).2.1; omega) (fun it hi => by have := (AF it hi).2.2; omega))
            have AFA := Lib.hid (apart_fields (n := 1000000) (its := mixTo turn l m k) (fun it hi => by have := (AF it hi).2.1; omega))
            have PX := Lib.hid (fun W => parse_any (B ((apartL (mixTo turn l m k)).flatMap It.raw)) (by rw [B_size]; omega) W)
            rw [B_data] at PX
            have al := apart_len (mixTo turn l m k)
            clear hacc hnf LC MC acc0 AF mp mq MP HL2 HM2
            generalize mixTo turn l m k = all at *
            generalize B ((apartL all).flatMap It.raw) = X at *
            go_wp2_with fail
            refine RE.out.mono ?_
            rintro e w4 ⟨rfl, b4⟩
            have hb4 := hbm.trans (b4.mono hzm)
            have hz4 := hb4.size
            have hzm4 := b4.size
            have P4 := Lib.hid (PX.out w4)
            clear RE PX
            go_wp2_with fail
            refine P4.out.mono ?_
            rintro e w5 hP
            obtain ⟨p5, gv, rfl, i5, _⟩ := parseYes hP MPH.out
            have bm5 := b4.trans (p5.mono hzm4)
            have hb5 := hbm.trans (bm5.mono hzm)
            have hz5 := hb5.size
            have hzm5 := bm5.size
            have I5 := Lib.hid i5
            obtain ⟨ga, gc, hge, _, _⟩ := id i5
            subst hge
            have IA := Lib.hid (ACC.out.its.below bm5 (Nat.le_refl _))
            clear hP P4 p5 b4 i5 hb4
            go_wp2_with fail
            go_loopw [14, 107] (fun cn i wr => ∃ c : Nat, c ≤ (apartL all).length ∧ i = .int .i64 c ∧ cn = .int .i64 (((apartL all).take c).filter solid).length ∧ Below w5.heap.size w5 wr) (fun _ i _ => (apartL all).length - (intOf i).toNat)
            case atStart => exact ⟨0, Nat.zero_le _, rfl, rfl, Below.refl _ _⟩
            case round =>
              obtain ⟨c, hc, rfl, rfl, hb⟩ := hrel
              have hzr := hb.size
              by_cases hlt : c < (apartL all).length
              · obtain ⟨it, hit⟩ : ∃ it, (apartL all)[c]? = some it := ⟨_, List.getElem?_eq_getElem hlt⟩
                obtain ⟨b, off, cap', fa, fc, e, _, hbb, c0, c1, c2, hfl⟩ := (I5.out.below hb (Nat.le_refl _)).at_ hit
                cases e
                obtain ⟨A9, cap2, e2, _, hcells⟩ := I5.out.below hb (Nat.le_refl _)
                obtain ⟨b2, off2, fv2, e3, _, _, _, d2, hfl2⟩ := hcells c it hit
                have hfl' : Flds wr (.slice fa it.fields.length fc) it.fields := by
                  cases e2
                  cases e3
                  rw [c2] at d2
                  cases d2
                  exact hfl2
                clear hcells hfl2 d2 e2 e3
                have hba := (Below.refl wr.heap.size wr).alloc (Nat.le_refl _) (.cells #[.int .i64 it.kind, .string (B it.raw), .slice fa it.fields.length fc] 43)
                have hb5a := hb.trans (hba.mono hzr)
                have FS := filter_snoc solid (apartL all) c it hit
                by_cases hk1 : it.kind = 1
                · have hk2 : (it.kind == 1) = true := by simp [hk1]
                  have hso : solid it = false := by unfold solid; simp [hk1]
                  rw [hso] at FS
                  have FSH := Lib.hid FS
                  clear hit FS hk1 hso SOL
                  go_wp2_with fail
                  go_roundw
                  case rel => exact ⟨c + 1, hlt, by go_num, by rw [FSH.out]; rfl, hb5a⟩
                  case measure => simp [intOf]; omega
                · have hk2 : (it.kind == 1) = false := by simp [hk1]
                  have hso : solid it = true := by unfold solid; simp [hk1]
                  rw [hso] at FS
                  have FSH := Lib.hid FS
                  have hat := filter_at solid (apartL all) c it hit hso
                  rw [show (apartL all).filter solid = all from SOL.out] at hat
                  generalize (((apartL all).take c).filter solid).length = j at *
                  have hjl : j < all.length := by
                    rcases Nat.lt_or_ge j all.length with q | q
                    · exact q
                    · rw [List.getElem?_eq_none q] at hat; cases hat
                  obtain ⟨g, uc', hge2⟩ := Joins.ownsRow_form ACC.out.row (by omega)
                  cases hge2
                  have hjc : j + 1 ≤ uc := by omega
                  have hone : (all.drop j).take 1 = [it] := by
                    rw [List.drop_eq_getElem_cons hjl, List.take_succ_cons, List.take_zero]
                    rw [List.getElem?_eq_getElem hjl] at hat
                    rw [Option.some.inj hat]
                  have hdl : 1 ≤ (all.drop j).length := by rw [List.length_drop]; omega
                  have HP1 : Hid (Its wr (.slice (some ⟨g, 0 + j * 3, none⟩) 1 (uc - j)) [it]) := by
                    show Its _ _ _
                    have := ((IA.out.below hb (Nat.le_refl _)).rest j (by omega)).part 1 hdl
                    rw [hone] at this
                    exact this
                  rw [Nat.zero_add] at HP1
                  have HFL := Lib.hid hfl'
                  have hfn : it.fields.length ≤ 1000000 := AFA.out it (List.mem_of_getElem? hit)
                  have BX := Lib.hid (Cells.new wr 43 #[.int .i64 it.kind, .string (B it.raw), .slice fa it.fields.length fc])
                  have hjn : ¬ ((all.length : Int) ≤ (j : Int)) := by omega
                  clear hit FS hso SOL hat hone hdl hfl' hk1
                  go_upto_region 28 with fail
                  have hzwb : (wr.alloc (.cells #[.int .i64 it.kind, .string (B it.raw), .slice fa it.fields.length fc] 43)).heap.size = wr.heap.size + 1 := by simp
                  generalize wr.alloc (.cells #[.int .i64 it.kind, .string (B it.raw), .slice fa it.fields.length fc] 43) = wb at *
                  have hwy : Below wb.heap.size wb (wb.alloc (.cells #[.int .i64 it.kind, .string (B it.raw), .slice fa it.fields.length fc] 43)) := (Below.refl _ _).alloc (Nat.le_refl _) _
                  have ONE := Its.lone wb 43 it (.slice fa it.fields.length fc) (HFL.out.below hba (Nat.le_refl _))
                  rw [hzwb] at ONE
                  have PAR := (HP1.out.below hba (Nat.le_refl _)).below hwy (Nat.le_refl _)
                  have IQ : Hid (Calls Tryd.prog 14 #[.slice (some ⟨wr.heap.size + 1, 0, none⟩) 1 1, .slice (some ⟨g, j * 3, none⟩) 1 (uc - j)] (wb.alloc (.cells #[.int .i64 it.kind, .string (B it.raw), .slice fa it.fields.length fc] 43)).drew fun e w' => e = .returned (.bool true) ∧ Below wb.heap.size wb w') :=
                    (items_quiet [it] _ _ ((wb.alloc (.cells #[.int .i64 it.kind, .string (B it.raw), .slice fa it.fields.length fc] 43)).drewN 1) ONE PAR (by simp) (fun y hy => by rw [List.mem_singleton.1 hy]; exact hfn)).mono (fun e w' ⟨h1, m1, h2⟩ => ⟨h1, by rw [h2]; exact drewN_below (drewN_below hwy 1) m1⟩)
                  clear ONE PAR
                  have HH := Lib.hid (show ∀ W, Below wb.heap.size wb W → (Below wb.heap.size wb W ∧ W.cell? ⟨wr.heap.size, 0, none⟩ = some (.int .i64 it.kind) ∧ W.cell? ⟨wr.heap.size, 1, none⟩ = some (.string (B it.raw)) ∧ W.cell? ⟨wr.heap.size, 2, none⟩ = some (.slice fa it.fields.length fc)) from fun W hB =>
                    have hX := cells_kept BX.out hB (by omega)
                    ⟨hB, hX.cell 0, hX.cell 1, hX.cell 2⟩)
                  have k1 : (0 : Int) ≤ (j : Int) := by omega
                  have k2 : (j : Int) < (all.length : Int) := by omega
                  have k4 : IntKind.i64.wrap ((j : Int) + 1) = (j : Int) + 1 := IntWalk.i64_in _ (by omega)
                  have SL := fun W => sliceOne g all.length uc j hjc W
                  go_region_held3 (fun W => Below wb.heap.size wb W ∧ W.cell? ⟨wr.heap.size, 0, none⟩ = some (.int .i64 it.kind) ∧ W.cell? ⟨wr.heap.size, 1, none⟩ = some (.string (B it.raw)) ∧ W.cell? ⟨wr.heap.size, 2, none⟩ = some (.slice fa it.fields.length fc)) ((refine HH.out _ ?_; repeat (first | exact Below.refl _ _ | assumption | (refine Below.drew ?_) | (refine held_alloc ?_) | (refine held_call ?_ (by assumption))))) ((go_at_call 14; refine IQ.out.mono ?_; rintro e wp1 ⟨rfl, hbp1⟩))
                  all_goals go_wp2_with fail
                  all_goals
                    refine ⟨⟨c + 1, hlt, by go_num, by rw [FSH.out]; first | rfl | simp, hb5a.trans (Below.mono (B := wb.heap.size) ?_ (by have := hb5a.size; omega))⟩, by simp [intOf]; omega⟩
                    repeat (first | exact Below.refl _ _ | assumption | (refine Below.drew ?_) | (refine held_alloc ?_) | (refine held_call ?_ (by assumption)))
              · obtain rfl : c = (apartL all).length := by omega
                rw [List.take_length, show (apartL all).filter solid = all from SOL.out]
                go_wp2_with fail
                go_ret
                exact ⟨rfl, hb5.trans (hb.mono hz5)⟩
theorem mixesCall6 (s t : ByteArray) (turn : Bool) (w : World) (hs : s.size ≤ maxLen) (ht : t.size ≤ maxLen) :
    Calls Tryd.prog 8 #[.string s, .string t, .bool turn] w fun e w' => e = .returned (.bool true) ∧ Below w.heap.size w w' := mixesLaw6 s t turn hs ht w
end Go.Proofs.YtafgebodmhkghaaDoor
