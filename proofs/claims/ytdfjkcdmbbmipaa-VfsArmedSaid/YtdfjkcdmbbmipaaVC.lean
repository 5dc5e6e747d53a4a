/- Which names are good. -/
import Derived.Test.YtdfjkcdmbbmipaaVB
import Derived.Test.YtdfjkcdmbbmipaaS
import Derived.Laws.RangeAny
import Derived.Laws.EntriesVeiled
namespace Go.Proofs.Ytdfjkcdmbbmipaa
open Go.RowKit

def goodC (c : UInt8) : Bool := (97 ≤ c.toNat && c.toNat ≤ 122) || (48 ≤ c.toNat && c.toNat ≤ 57) || c.toNat == 46
def goodB (s : ByteArray) : Bool := decide (1 ≤ s.size) && decide (s.size ≤ 20) && s.data.toList.all goodC
def wrongR (r : Nat) : Bool := (decide (r < 97) || decide (122 < r)) && (decide (r < 48) || decide (57 < r)) && r != 46
theorem wrongR_high (r : Nat) (h : 128 ≤ r) : wrongR r = true := by
  unfold wrongR; simp <;> omega
theorem wrongR_of (c : UInt8) : wrongR c.toNat = !goodC c := by
  unfold wrongR goodC
  rw [Bool.eq_iff_iff]
  simp <;> omega
theorem goodC_high (c : UInt8) (h : 128 ≤ c.toNat) : goodC c = false := by
  unfold goodC
  simp <;> omega
theorem idx_wrong (s : ByteArray) : ∀ (f pos : Nat), s.size ≤ pos + f → decide (0 ≤ Lib.idxFuncFrom wrongR true s f pos) = !(s.data.toList.drop pos).all goodC
  | 0, pos, h => by
    rw [List.drop_of_length_le (by rw [← Lib.size_eq]; omega)]
    simp [Lib.idxFuncFrom]
  | f + 1, pos, h => by
    unfold Lib.idxFuncFrom
    by_cases hp : pos < s.size
    · rw [if_pos hp]
      have hd : s.data.toList.drop pos = s[pos] :: s.data.toList.drop (pos + 1) := by
        rw [← List.getElem_cons_drop (by rw [← Lib.size_eq]; exact hp)]; rfl
      rw [hd, List.all_cons]
      by_cases ha : s[pos].toNat < 128
      · rw [decode_ascii s pos hp ha, wrongR_of]
        by_cases hg : goodC s[pos] = true
        · rw [hg]
          simp only [Bool.not_true, Bool.false_eq_true, if_false, Bool.true_and]
          exact idx_wrong s f (pos + 1) (by omega)
        · have hg' : goodC s[pos] = false := by simpa using hg
          rw [hg']
          simp
      · obtain ⟨h1, h2⟩ := decode_high s pos hp (by omega)
        rw [wrongR_high _ h1, if_pos rfl, goodC_high _ (by omega)]
        simp
    · rw [if_neg hp, List.drop_of_length_le (by rw [← Lib.size_eq]; omega)]
      simp

set_option maxHeartbeats 400000 in
theorem wrong_any (w : World) : PredAt Try.prog 78 #[] encR wrongR w := by
  intro W r _
  unfold FnGives encR
  by_cases h1 : r < 97
  all_goals by_cases h2 : 122 < r
  all_goals by_cases h3 : r < 48
  all_goals by_cases h4 : 57 < r
  all_goals try omega
  all_goals
    go_enter Try.func78, Try.ntmps78
    go_wp2
    go_ret
    refine ⟨congrArg (fun b => Ending.returned (Value.bool b)) (Bool.eq_iff_iff.2 ?_), 0, rfl⟩
    unfold wrongR
    simp <;> omega

set_option maxHeartbeats 400000 in
/-- What good's second closure says of a name: that it isn't good. -/
theorem bad_any (s : ByteArray) (B : Nat) (w : World) (hc : Cells w B 149 #[.func (.func 78) #[] #[]]) (hs : s.size ≤ 1000000) :
    Calls Try.prog 80 #[.string s, .pointer (some ⟨B, 0, none⟩)] w fun e w' => e = .returned (.bool (!goodB s)) ∧ Below w.heap.size w w' := by
  have c0 : w.cell? ⟨B, 0, none⟩ = some (.func (.func 78) #[] #[]) := by rw [hc.cell]; rfl
  have hsl : s.size = s.data.toList.length := Lib.size_eq s
  by_cases h0 : s.size = 0
  · have hg : goodB s = false := by unfold goodB; simp [h0]
    rw [hg]
    have hse : s.data.toList = [] := List.eq_nil_of_length_eq_zero (by omega)
    have he : s = ⟨#[]⟩ := by rw [← Lib.mk_data s, hse]
    clear hsl hse h0
    subst he
    go_enter Try.func80, Try.ntmps80
    go_wp2
    go_ret
    exact ⟨rfl, Below.refl _ _⟩
  · have hne : s.toList.isEmpty = false := by
      rw [Lib.toList_data]; cases hq : s.data.toList with
      | nil => exact absurd (by rw [hsl, hq]; rfl) h0
      | cons _ _ => rfl
    by_cases h1 : 20 < s.size
    · have hg : goodB s = false := by unfold goodB; simp [show ¬ s.size ≤ 20 by omega]
      rw [hg]
      clear hsl
      go_enter Try.func80, Try.ntmps80
      go_wp2
      go_ret
      exact ⟨rfl, Below.refl _ _⟩
    · have hg : goodB s = !(decide (0 ≤ Lib.idxFunc wrongR true s)) := by
        unfold Lib.idxFunc
        rw [idx_wrong s s.size 0 (by omega)]
        unfold goodB
        simp [show 1 ≤ s.size by omega, show s.size ≤ 20 by omega]
      rw [hg, Bool.not_not]
      have C := Try.strings_ContainsFunc 78 #[] (enters_of Try.func78 (by kernel_rfl) rfl) wrongR s w (wrong_any w)
      clear hsl hg
      have hd : decide ((20 : Int) < (s.size : Int)) = false := decide_eq_false (by omega)
      go_enter Try.func80, Try.ntmps80
      go_wp2_with (go_at_call 81; refine C.mono ?_; rintro e w' ⟨rfl, hb⟩)
      go_ret
      exact ⟨rfl, hb⟩

set_option maxHeartbeats 1000000 in
set_option maxRecDepth 100000 in
/-- slices.IndexFunc over names, with good's second closure. -/
theorem index_any (zs : List ByteArray) (b cap B : Nat) (w : World) (hcl : ∀ j (h : j < zs.length), w.cell? ⟨b, j, none⟩ = some (.string zs[j])) (hb : b < w.heap.size) (hc : Cells w B 149 #[.func (.func 78) #[] #[]])
    (hs : ∀ z ∈ zs, z.size ≤ 1000000) (hl : zs.length ≤ 1000) :
    Calls Try.prog 86 #[.slice (some ⟨b, 0, none⟩) zs.length cap, .func (.func 80) #[] #[.pointer (some ⟨B, 0, none⟩)]] w fun e w' =>
      (∃ r : Int, e = .returned (.int .i64 r) ∧ decide (0 ≤ r) = !zs.all goodB) ∧ Below w.heap.size w w' := by
  go_enter Try.func86, Try.ntmps86
  go_wp2
  go_loopw [8] (fun i wr => ∃ k : Nat, k ≤ zs.length ∧ i = .int .i64 k ∧ (zs.take k).all goodB = true ∧ Below w.heap.size w wr) (fun i _ => zs.length - (intOf i).toNat)
  case atStart => exact ⟨0, Nat.zero_le _, rfl, rfl, Below.refl _ _⟩
  case round =>
    obtain ⟨k, hk, rfl, hall, hbel⟩ := hrel
    by_cases hlt : k < zs.length
    · have hck := (hbel.cell (p := ⟨b, k, none⟩) hb).trans (hcl k hlt)
      have hcB := hc.below hbel hc.lt
      have hz : zs[k].size ≤ 1000000 := hs _ (List.getElem_mem hlt)
      have ht : zs.take (k + 1) = zs.take k ++ [zs[k]] := by rw [List.take_succ_eq_append_getElem hlt]
      have hm : zs[k] ∈ zs := List.getElem_mem hlt
      generalize hzk : zs[k] = z at *
      have C := bad_any z B wr hcB hz
      by_cases hg : goodB z = true
      · have HA : Hid ((zs.take (k + 1)).all goodB = true) := by show _ = _; rw [ht, List.all_append, hall]; simp [hg]
        rw [hg] at C
        have HZ := Lib.hid hzk
        have HL := Lib.hid hall
        clear ht hall hzk hg
        go_wp2_with (go_at_call 80; refine C.mono ?_; rintro e w' ⟨rfl, hb2⟩)
        go_roundw
        case rel => exact ⟨k + 1, by omega, by go_num, HA.out, hbel.trans (hb2.mono hbel.size)⟩
        case measure => simp [intOf]; omega
      · have hg' : goodB z = false := by simpa using hg
        have hA : zs.all goodB = false := by
          rw [List.all_eq_false]; exact ⟨z, hm, by rw [hg']; simp⟩
        rw [hg'] at C
        have HZ := Lib.hid hzk
        have HL := Lib.hid hall
        have HA := Lib.hid hA
        clear ht hall hzk hg hg' hA
        go_wp2_with (go_at_call 80; refine C.mono ?_; rintro e w' ⟨rfl, hb2⟩)
        go_ret
        refine ⟨⟨(k : Int), rfl, ?_⟩, hbel.trans (hb2.mono hbel.size)⟩
        rw [HA.out]; simp
    · have he : k = zs.length := by omega
      have HA : Hid (zs.all goodB = true) := by show _ = _; rw [he, List.take_length] at hall; exact hall
      clear hall
      go_wp2
      go_ret
      refine ⟨⟨-1, rfl, ?_⟩, hbel⟩
      rw [HA.out]; rfl

set_option maxHeartbeats 400000 in
theorem contains_any (zs : List ByteArray) (b cap B : Nat) (w : World) (hcl : ∀ j (h : j < zs.length), w.cell? ⟨b, j, none⟩ = some (.string zs[j])) (hb : b < w.heap.size) (hc : Cells w B 149 #[.func (.func 78) #[] #[]])
    (hs : ∀ z ∈ zs, z.size ≤ 1000000) (hl : zs.length ≤ 1000) :
    Calls Try.prog 79 #[.slice (some ⟨b, 0, none⟩) zs.length cap, .func (.func 80) #[] #[.pointer (some ⟨B, 0, none⟩)]] w fun e w' =>
      e = .returned (.bool (!zs.all goodB)) ∧ Below w.heap.size w w' := by
  have C := index_any zs b cap B w hcl hb hc hs hl
  clear hcl hs
  go_enter Try.func79, Try.ntmps79
  go_wp2_with (go_at_call 86; refine C.mono ?_; rintro e w' ⟨⟨r, rfl, hr⟩, hb2⟩; have HR := Lib.hid hr; clear hr)
  go_ret
  exact ⟨by rw [← HR.out]; rfl, hb2⟩

set_option maxHeartbeats 400000 in
theorem good_any (zs : List ByteArray) (b cap : Nat) (w : World) (hcl : ∀ j (h : j < zs.length), w.cell? ⟨b, j, none⟩ = some (.string zs[j])) (hb : b < w.heap.size)
    (hs : ∀ z ∈ zs, z.size ≤ 1000000) (hl : zs.length ≤ 1000) :
    Calls Try.prog 71 #[.slice (some ⟨b, 0, none⟩) zs.length cap] w fun e w' => e = .returned (.bool (zs.all goodB)) ∧ Below w.heap.size w w' := by
  have C := fun W (hbel : Below w.heap.size w W) (hc : Cells W w.heap.size 149 #[.func (.func 78) #[] #[]]) =>
    contains_any zs b cap w.heap.size W (fun j h => (hbel.cell (p := ⟨b, j, none⟩) hb).trans (hcl j h)) (Nat.lt_of_lt_of_le hb hbel.size) hc hs hl
  have HC := Lib.hid C
  clear hcl hs C
  have hcell : (w.alloc (.cells #[Value.nilFunc] 149)).cell? ⟨w.heap.size, 0, none⟩ = some .nilFunc := by rw [(Cells.new w 149 #[Value.nilFunc]).cell]; rfl
  have hfr : (w.alloc (.cells #[Value.nilFunc] 149)).frozen? ⟨w.heap.size, 0, none⟩ = false := (Cells.new w 149 #[Value.nilFunc]).frozen 0
  go_enter Try.func71, Try.ntmps71
  go_wp2_with fail
  refine (HC.out _ ((Below.refl _ w).alloc (Nat.le_refl _) _) (Cells.new w _ _)).mono ?_
  rintro e w' ⟨rfl, hb2⟩
  have hb3 : Below w.heap.size w w' := ((Below.refl _ w).alloc (Nat.le_refl _) _).trans (hb2.mono (by simp))
  clear hb2 HC hcell hfr
  go_wp2
  go_ret
  exact ⟨rfl, hb3⟩
end Go.Proofs.Ytdfjkcdmbbmipaa
