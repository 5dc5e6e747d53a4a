/- What refuses an act, and the file for which a name stands: ready, find. -/
import Derived.Test.YtdfjkcdmbbmipaaVC
import Derived.Test.YtdfjkcdmbbmipaaVE
import Derived.Deep.QuietTactic
import Derived.BigQuiet
namespace Go.Proofs.Ytdfjkcdmbbmipaa
open Go.RowKit

/-- An error by its number; 0: none. -/
def errV (n : Nat) : Value := if n = 0 then .nilIface else .iface 31 (.int .i64 (n : Int))
theorem errV_0 : errV 0 = .nilIface := rfl
theorem errV_1 : errV 1 = .iface 31 (.int .i64 1) := rfl
theorem errV_3 : errV 3 = .iface 31 (.int .i64 3) := rfl
theorem errV_4 : errV 4 = .iface 31 (.int .i64 4) := rfl
theorem errV_7 : errV 7 = .iface 31 (.int .i64 7) := rfl
theorem errV_12 : errV 12 = .iface 31 (.int .i64 12) := rfl
def readyE (gone : Bool) (zs : List ByteArray) : Nat := if zs.all goodB then (if gone then 3 else 0) else 1

set_option maxHeartbeats 400000 in
theorem ready_any (zs : List ByteArray) (b cap p : Nat) (units : Int) (armed : Bool) (left : Int) (gone : Bool) (room : Int) (v5 v6 v7 v8 v9 : Value) (w : World) (hd : Cells w p 76 (diskCells units armed left gone room v5 v6 v7 v8 v9)) (hcl : ∀ j (h : j < zs.length), w.cell? ⟨b, j, none⟩ = some (.string zs[j])) (hb : b < w.heap.size)
    (hs : ∀ z ∈ zs, z.size ≤ 1000000) (hl : zs.length ≤ 1000) :
    Calls Try.prog 46 #[.pointer (some ⟨p, 0, none⟩), .slice (some ⟨b, 0, none⟩) zs.length cap] w fun e w' => e = .returned (errV (readyE gone zs)) ∧ Below w.heap.size w w' := by
  have C := good_any zs b cap w hcl hb hs hl
  have G := fun w' (hb2 : Below w.heap.size w w') => ((hb2.cell (p := ⟨p, 3, none⟩) hd.lt).trans (hd.cell 3))
  unfold readyE
  clear hcl hs
  cases hg : zs.all goodB
  · rw [hg] at C
    clear hg G
    go_enter Try.func46, Try.ntmps46
    go_wp2_with (go_at_call 71; refine C.mono ?_; rintro e w' ⟨rfl, hb2⟩)
    go_ret
    exact ⟨rfl, hb2⟩
  · rw [hg] at C
    cases gone
    all_goals
      clear hg
      go_enter Try.func46, Try.ntmps46
      go_wp2_with (go_at_call 71; refine C.mono ?_; rintro e w' ⟨rfl, hb2⟩; have c3 := G w' hb2; simp only [diskCells] at c3; change w'.cell? ⟨p, 3, none⟩ = some _ at c3; clear G)
      go_ret
      exact ⟨rfl, hb2⟩

/-- What find answers: the file, the error's number. -/
def findR (r : Nat) (q : Option Nat) : Nat × Nat := if r = 0 then (match q with | some f => (f, 0) | none => (0, 7)) else (0, r)
theorem readyE_cases (gone : Bool) (zs : List ByteArray) : readyE gone zs = 0 ∨ readyE gone zs = 1 ∨ readyE gone zs = 3 := by unfold readyE; split; split; simp; simp; simp

attribute [local go_sem] errV_0 errV_1 errV_3 errV_7
set_option maxHeartbeats 1000000 in
theorem find_any (z : ByteArray) (zr : List ByteArray) (b cap p : Nat) (units : Int) (armed : Bool) (left : Int) (gone : Bool) (room : Int) (v5 v6 v7 v8 v9 : Value) (n : Nat) (l : Dir) (w : World) (hd : Cells w p 76 (diskCells units armed left gone room v5 v6 v7 v8 v9)) (hm : MapAt w n v6 l)
    (hcl : ∀ j (h : j < (z :: zr).length), w.cell? ⟨b, j, none⟩ = some (.string (z :: zr)[j])) (hb : b < w.heap.size)
    (hs : ∀ x ∈ z :: zr, x.size ≤ 1000000) (hl : (z :: zr).length ≤ 1000) :
    Calls Try.prog 50 #[.pointer (some ⟨p, 0, none⟩), .slice (some ⟨b, 0, none⟩) (z :: zr).length cap] w fun e w' =>
      e = .returned (.tuple #[.int .i64 (findR (readyE gone (z :: zr)) (dget l z.data.toList)).1, errV (findR (readyE gone (z :: zr)) (dget l z.data.toList)).2]) ∧ Below w.heap.size w w' := by
  have C := ready_any (z :: zr) b cap p units armed left gone room v5 v6 v7 v8 v9 w hd hcl hb hs hl
  have hz : z.size ≤ 1000000 := hs z (by simp)
  have h0 := hcl 0 (by simp)
  simp only [List.getElem_cons_zero] at h0
  have hlen : (0 : Int) < (((z :: zr).length : Nat) : Int) := by simp <;> omega
  have hlenN : 0 < (z :: zr).length := by simp
  clear hcl hs hl
  generalize (z :: zr).length = len at *
  have HN := readyE_cases gone (z :: zr)
  generalize readyE gone (z :: zr) = r at *
  have G := fun w' (hb2 : Below w.heap.size w w') => show _ ∧ _ ∧ _ from ⟨(hb2.cell (p := ⟨p, 6, none⟩) hd.lt).trans (hd.cell 6), (hb2.cell (p := ⟨b, 0, none⟩) hb).trans h0, fun k => ((hm.below hb2 (Nat.le_refl _)).drewN k).look z (by unfold maxLen; omega)⟩
  obtain ⟨q, hq⟩ : ∃ q, dget l z.data.toList = q := ⟨_, rfl⟩
  rw [hq] at G ⊢
  clear hm hd h0 hq hz
  rcases HN with rfl | rfl | rfl
  · cases q
    all_goals
      go_enter Try.func50, Try.ntmps50
      go_wp2_with (go_at_call 46; refine C.mono ?_; rintro e w' ⟨rfl, hb2⟩; obtain ⟨c6, ch, hlook⟩ := G w' hb2; simp only [diskCells] at c6; change w'.cell? ⟨p, 6, none⟩ = some v6 at c6; clear G C)
      go_quiet (fail)
      go_wp2
      go_ret2
      exact ⟨rfl, hb2.drewNN nq⟩
  · go_enter Try.func50, Try.ntmps50
    go_wp2_with (go_at_call 46; refine C.mono ?_; rintro e w' ⟨rfl, hb2⟩; clear G C)
    go_ret2
    exact ⟨rfl, hb2⟩
  · go_enter Try.func50, Try.ntmps50
    go_wp2_with (go_at_call 46; refine C.mono ?_; rintro e w' ⟨rfl, hb2⟩; clear G C)
    go_ret2
    exact ⟨rfl, hb2⟩
end Go.Proofs.Ytdfjkcdmbbmipaa
