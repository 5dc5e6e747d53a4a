/- What a file is behind so many units: after. -/
import Derived.Test.YtdfjkcdmbbmipaaVM
import Derived.Test.YtdfjkcdmbbmipaaVL
namespace Go.Proofs.Ytdfjkcdmbbmipaa
open Go.RowKit

/-- The bytes behind the first units of what waits. -/
def afterF : List ActA → Int → List UInt8 → List UInt8
  | [], _, s => s
  | a :: r, u, s => if u ≤ 0 then s else if a.kind = 3 then afterF r (u - 1) (s.take a.at_) else afterF r (u - (min u.toNat a.bytes.size : Nat)) (s ++ a.bytes.data.toList.take (min u.toNat a.bytes.size))
/-- Each cut is within what is there. -/
def fitsW : List ActA → Nat → Prop
  | [], _ => True
  | a :: r, n => if a.kind = 3 then a.at_ ≤ n ∧ fitsW r a.at_ else fitsW r (n + a.bytes.size)
def lenW (l : List ActA) : Nat := (l.map fun a => a.bytes.size).sum
theorem afterF_stop {l : List ActA} {u : Int} {s : List UInt8} (h : u ≤ 0) : afterF l u s = s := by
  cases l with
  | nil => rfl
  | cons a r => unfold afterF; rw [if_pos h]
theorem afterF_cut {a : ActA} {r : List ActA} {u : Int} {s : List UInt8} (h : ¬ u ≤ 0) (hk : a.kind = 3) : afterF (a :: r) u s = afterF r (u - 1) (s.take a.at_) := by
  conv => lhs; unfold afterF
  rw [if_neg h, if_pos hk]
theorem afterF_write {a : ActA} {r : List ActA} {u : Int} {s : List UInt8} (h : ¬ u ≤ 0) (hk : ¬ a.kind = 3) :
    afterF (a :: r) u s = afterF r (u - (min u.toNat a.bytes.size : Nat)) (s ++ a.bytes.data.toList.take (min u.toNat a.bytes.size)) := by
  conv => lhs; unfold afterF
  rw [if_neg h, if_neg hk]
theorem acts_at (l : List ActA) (k : Nat) (h : k < l.length) : (actsCells l)[k * 5]? = some (.int .i64 l[k].kind) ∧ (actsCells l)[k * 5 + 1]? = some (.string l[k].name) ∧ (actsCells l)[k * 5 + 2]? = some (.string l[k].other) ∧ (actsCells l)[k * 5 + 3]? = some (.string l[k].bytes) ∧ (actsCells l)[k * 5 + 4]? = some (.int .i64 l[k].at_) := by
  induction l generalizing k with
  | nil => simp at h
  | cons c cs ih =>
    have e : actsCells (c :: cs) = [.int .i64 c.kind, .string c.name, .string c.other, .string c.bytes, .int .i64 c.at_] ++ actsCells cs := rfl
    rw [e]
    cases k with
    | zero => exact ⟨rfl, rfl, rfl, rfl, rfl⟩
    | succ k =>
      have := ih k (by simpa using h)
      simp only [List.getElem_cons_succ]
      have sh : ∀ j, ([Value.int .i64 c.kind, .string c.name, .string c.other, .string c.bytes, .int .i64 c.at_] ++ actsCells cs)[(k + 1) * 5 + j]? = (actsCells cs)[k * 5 + j]? := by
        intro j
        rw [List.getElem?_append_right (by simp; omega)]
        congr 1
        simp; omega
      exact ⟨(sh 0).trans this.1, (sh 1).trans this.2.1, (sh 2).trans this.2.2.1, (sh 3).trans this.2.2.2.1, (sh 4).trans this.2.2.2.2⟩
theorem extract_take (s : ByteArray) (k : Nat) : (s.extract 0 k).data.toList = s.data.toList.take k := by
  rw [Lib.extract_data, List.drop_zero, Nat.sub_zero]
theorem infoByte : (Try.prog.info? 5).map (fun i => (i.zero, i.size, i.bytes)) = some (some (.int .u8 0), 1, 1) := by kernel_rfl

set_option maxRecDepth 100000 in
set_option maxHeartbeats 4000000 in
theorem after_some (gf o : Nat) (sure : ByteArray) (gw cap n : Nat) (l : List ActA) (u0 : Int) (w : World)
    (hs : w.cell? ⟨gf, o, none⟩ = some (.string sure)) (hv : w.cell? ⟨gf, o + 1, none⟩ = some (.slice (some ⟨gw, 0, none⟩) l.length cap)) (hgf : gf < w.heap.size) (hown : w.ownsRow 0 94 5 (.slice (some ⟨gw, 0, none⟩) l.length cap) l.length (actsCells l))
    (hf : fitsW l sure.size) (hlen : sure.size + lenW l ≤ 1000000) (hw : (Lit.int .i64 u0).wf = true) (hk : ∀ a ∈ l, a.kind ≤ 1000000) (hl : l.length ≤ 1000000) :
    Calls Try.prog 54 #[.pointer (some ⟨gf, o, none⟩), .int .i64 u0] w fun e w' => e = .returned (.string ⟨(afterF l u0 sure.data.toList).toArray⟩) ∧ Below w.heap.size w w' := by
  have hn : -9223372036854775808 ≤ u0 ∧ u0 ≤ 9223372036854775807 := by
    simpa [Lit.wf, IntKind.min, IntKind.max, IntKind.signed, IntKind.bits] using hw
  obtain ⟨i0, hi, hz0, hz1, hz2⟩ := info_parts infoByte
  have hcv := Lib.run_convert_string_bytes (P := Try.prog) w 9 146 5 sure Try.underlying9 Try.underlying146 Try.underlying5
  have hbr := BRow.made w 5 sure (by omega)
  have hon := bytesWorld_only (S := fun _ => False) w 5 sure
  generalize Lib.bytesWorld w 5 sure = W1 at *
  generalize grownCap w sure.size 0 5 = cap1 at *
  have hb1 : Below w.heap.size w W1 := hon.to_below (Nat.le_refl _) (fun _ _ h => h)
  have hv1 := (hb1.cell (p := ⟨gf, o + 1, none⟩) hgf).trans hv
  have hgw := (hown.lt gw rfl).2
  have BR := Lib.hid hbr
  have HB := Lib.hid hb1
  have HO := Lib.hid hown
  have HF := Lib.hid hf
  have HL := Lib.hid hlen
  have HK := Lib.hid hk
  have hsz : sure.size ≤ 1000000 := by omega
  have hst : sure.data.toList.length = sure.size := (Lib.size_eq sure).symm
  have HT := Lib.hid hst
  clear hbr hb1 hown hf hon hlen hw hk hst
  go_enter Try.func54, Try.ntmps54
  go_wp2
  go_loopw [1, 5, 19] (fun uv bv i wr => ∃ (k : Nat) (u : Int) (cur : List UInt8) (g cp : Nat), k ≤ l.length ∧ i = .int .i64 k ∧ uv = .int .i64 u ∧ -9223372036854775808 ≤ u ∧ u ≤ 9223372036854775807 ∧ BRow wr g cp bv cur ∧ w.heap.size ≤ g ∧ Below w.heap.size w wr ∧
      afterF (l.drop k) u cur = afterF l u0 sure.data.toList ∧ (0 < u → fitsW (l.drop k) cur.length) ∧ cur.length + lenW (l.drop k) ≤ 1000000) (fun _ _ i _ => l.length - (intOf i).toNat)
  case atStart => exact ⟨0, u0, sure.data.toList, w.heap.size, cap1, Nat.zero_le _, rfl, rfl, hn.1, hn.2, BR.out, Nat.le_refl _, HB.out, rfl, fun _ => by rw [HT.out]; exact HF.out, by rw [HT.out]; exact HL.out⟩
  case round =>
    obtain ⟨k, u, cur, g, cp, hk, rfl, rfl, hu1, hu2, hbr, hgl, hbel, hafter, hfit, hlen⟩ := hrel
    by_cases hlt : k < l.length
    · obtain ⟨q0, q1, q2, q3, q4⟩ := acts_at l k hlt
      have hr := row_below HO.out hbel (Nat.le_refl _)
      have r0 := row_at hr q0
      have r1 := row_at hr q1
      have r2 := row_at hr q2
      have r3 := row_at hr q3
      have r4 := row_at hr q4
      have hkd : l[k].kind ≤ 1000000 := HK.out _ (List.getElem_mem hlt)
      have hdrop : l.drop k = l[k] :: l.drop (k + 1) := (List.getElem_cons_drop hlt).symm
      rw [hdrop] at hafter hfit hlen
      have hgw2 : gw < wr.heap.size := Nat.lt_of_lt_of_le hgw hbel.size
      have hwl := hbel.size
      generalize l[k] = a at *
      obtain ⟨kind, name, other, bytes, at_⟩ := a
      dsimp only at r0 r1 r2 r3 r4 hkd
      have hlen2 : cur.length + (bytes.size + lenW (l.drop (k + 1))) ≤ 1000000 := by simpa [lenW] using hlen
      obtain ⟨A, hA⟩ : ∃ A, A = wr.alloc (.cells #[.int .i64 kind, .string name, .string other, .string bytes, .int .i64 at_] 94) := ⟨_, rfl⟩
      have hbrA : BRow A g cp _ cur := hbr.same (by rw [hA]; exact Below.heap_alloc _ _ _ hbr.lt)
      have hbelA : Below w.heap.size w A := by rw [hA]; exact hbel.alloc hwl _
      have hAs : A.heap.size = wr.heap.size + 1 := by rw [hA]; simp
      obtain rfl := hbr.val
      have hfits := hbr.fits
      by_cases hu : u ≤ 0
      · rw [afterF_stop hu] at hafter
        have hcv2 := hbrA.back 146 9 5 Try.underlying146 Try.underlying5 Try.underlying9
        rw [hA] at hcv2 hbelA
        have HBA := Lib.hid hbelA
        have HAft := Lib.hid hafter
        clear hdrop hafter hfit hlen hlen2 hbr hbrA hbel hbelA hr hA hAs q0 q1 q2 q3 q4
        go_wp2
        go_ret
        exact ⟨by rw [← HAft.out]; rfl, HBA.out⟩
      · have hfit := hfit (by omega)
        by_cases h3 : kind = 3
        · have e3 : ((kind : Int) == 3) = true := by subst h3; rfl
          rw [afterF_cut hu h3] at hafter
          unfold fitsW at hfit
          simp only [if_pos h3] at hfit
          obtain ⟨hat, hfit⟩ := hfit
          have hat2 : at_ ≤ cp := by omega
          have hcut := hbrA.cut at_ hat
          have hcl : (cur.take at_).length = at_ := by rw [List.length_take]; omega
          have P := Lib.hid (show (afterF (l.drop (k + 1)) (u - 1) (cur.take at_) = afterF l u0 sure.data.toList ∧ (0 < u - 1 → fitsW (l.drop (k + 1)) (cur.take at_).length) ∧ (cur.take at_).length + lenW (l.drop (k + 1)) ≤ 1000000) ∧ Below w.heap.size w A ∧ BRow A g cp (.slice (some ⟨g, 0, none⟩) at_ cp) (cur.take at_) from ⟨⟨hafter, fun _ => by rw [hcl]; exact hfit, by omega⟩, hbelA, hcut⟩)
          rw [hA] at P
          clear hdrop hafter hfit hlen hlen2 hbr hbrA hbel hbelA hr hA hAs q0 q1 q2 q3 q4 hcut hcl h3
          go_wp2
          go_roundw
          case rel => exact ⟨k + 1, u - 1, cur.take at_, g, cp, by omega, by go_num, rfl, by omega, by omega, P.out.2.2, hgl, P.out.2.1, P.out.1⟩
          case measure => simp [intOf]; omega
        · have e3 : ((kind : Int) == 3) = false := by rw [beq_eq_false_iff_ne]; omega
          rw [afterF_write hu h3] at hafter
          unfold fitsW at hfit
          simp only [if_neg h3] at hfit
          dsimp only at hafter hfit
          have hm : min u (bytes.size : Int) = ((min u.toNat bytes.size : Nat) : Int) := by omega
          have hle : min u.toNat bytes.size ≤ bytes.size := Nat.min_le_right _ _
          have hle2 : ((min u.toNat bytes.size : Nat) : Int) ≤ u := by omega
          have hcase : min u.toNat bytes.size = bytes.size ∨ u - ((min u.toNat bytes.size : Nat) : Int) ≤ 0 := by omega
          generalize min u.toNat bytes.size = m at *
          have hwl2 : (bytes.extract 0 m).size = m := by rw [Lib.size_eq, extract_take, List.length_take, ← Lib.size_eq]; omega
          have hwd : (bytes.extract 0 m).data.toList = bytes.data.toList.take m := extract_take bytes m
          have P := Lib.hid (show (afterF (l.drop (k + 1)) (u - (m : Nat)) (cur ++ (bytes.extract 0 m).data.toList) = afterF l u0 sure.data.toList ∧ (0 < u - (m : Nat) → fitsW (l.drop (k + 1)) (cur ++ (bytes.extract 0 m).data.toList).length) ∧ (cur ++ (bytes.extract 0 m).data.toList).length + lenW (l.drop (k + 1)) ≤ 1000000) ∧ Below w.heap.size w A ∧ BRow A g cp (.slice (some ⟨g, 0, none⟩) cur.length cp) cur from by
            have e : (cur ++ (bytes.extract 0 m).data.toList).length = cur.length + m := by rw [List.length_append, ← Lib.size_eq, hwl2]
            refine ⟨⟨by rw [hwd]; exact hafter, fun hp => ?_, by omega⟩, hbelA, hbrA⟩
            rw [e]
            rcases hcase with h | h
            · rw [h]; exact hfit
            · omega)
          have hsum : cur.length + (bytes.extract 0 m).size ≤ 1000000000 := by omega
          have HS := Lib.hid hAs
          rw [hA] at P HS
          clear hdrop hafter hfit hlen hlen2 hbr hbrA hbel hbelA hr hA hAs q0 q1 q2 q3 q4 h3 hwd hcase
          generalize hb' : bytes.extract 0 m = piece at *
          go_wp2_with (at_builtin; refine wpList_append_brow rfl _ _ 146 9 rfl g cp 5 i0 Try.underlying146 Try.underlying9 hi hz0 hz1 hz2 _ cur rfl P.out.2.2 piece rfl hsum ?_)
          intro v' w' g' cap' hbr' hon' hg'
          obtain rfl := hbr'.val
          have hbelw : Below w.heap.size w w' := P.out.2.1.trans (hon'.to_below (by rw [HS.out]; omega) (fun r hr e => by omega))
          have hgg : w.heap.size ≤ g' := by omega
          have HR := Lib.hid hbr'
          have HBW := Lib.hid hbelw
          clear hbr' hon' hg' hbelw hb' hm
          go_wp2
          go_roundw
          case rel => exact ⟨k + 1, u - (m : Nat), cur ++ piece.data.toList, g', cap', by omega, by go_num, by first | rfl | (rw [hwl2]), by omega, by omega, HR.out, hgg, HBW.out, P.out.1⟩
          case measure => simp [intOf]; omega
    · obtain rfl : k = l.length := by omega
      rw [List.drop_length] at hafter
      have hafter : cur = afterF l u0 sure.data.toList := hafter
      have hcv2 := hbr.back 146 9 5 Try.underlying146 Try.underlying5 Try.underlying9
      have HBA := Lib.hid hbel
      have HAft := Lib.hid hafter
      clear hafter hfit hlen hbr hbel
      go_wp2
      go_ret
      exact ⟨by rw [← HAft.out]; rfl, HBA.out⟩
end Go.Proofs.Ytdfjkcdmbbmipaa
