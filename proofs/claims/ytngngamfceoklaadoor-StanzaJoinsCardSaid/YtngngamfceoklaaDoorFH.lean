/- Whether lines say a field, and what they say. -/
import Derived.Test.YtngngamfceoklaaDoorFG
import Derived.Laws.ResultCell
import Derived.Laws.Rows
namespace Go.Proofs.YtngngamfceoklaaDoor
open Go.RowKit Go.Shelf

def sayG (want : Nat) : List (List UInt8) → Bool
  | [] => true
  | a :: r => (kindL a == want) && sayG 3 r
theorem sayG_all : ∀ r : List (List UInt8), sayG 3 r = r.all (fun l => kindL l == 3)
  | [] => rfl
  | a :: r => by unfold sayG; rw [sayG_all r, List.all_cons]
theorem sayF_eq (ls : List (List UInt8)) : sayF ls = (decide (0 < ls.length) && sayG 4 ls) := by
  cases ls with
  | nil => rfl
  | cons a r => unfold sayF sayG; rw [sayG_all]; simp
theorem sayG_drop (ls : List (List UInt8)) (k want : Nat) (x : List UInt8) (h : ls[k]? = some x) : sayG want (ls.drop k) = ((kindL x == want) && sayG 3 (ls.drop (k + 1))) := by
  have hk : k < ls.length := by
    rcases Nat.lt_or_ge k ls.length with q | q
    · exact q
    · rw [List.getElem?_eq_none q] at h; cases h
  rw [List.drop_eq_getElem_cons hk]
  rw [List.getElem?_eq_getElem hk] at h
  rw [Option.some.inj h]; rfl
theorem kindL_le (l : List UInt8) : kindL l ≤ 5 := by
  unfold kindL
  split; · decide
  split; · decide
  split; · decide
  split; · decide
  split <;> decide
theorem cellB {w : World} {A : Option Addr} {ls : List (List UInt8)} (hc : ∀ (i : Nat) (s : ByteArray), (ls.map B)[i]? = some s → ∃ b off, A = some ⟨b, off, none⟩ ∧ b < w.heap.size ∧ w.cell? ⟨b, off + i, none⟩ = some (.string s)) :
    ∀ (i : Nat) (x : List UInt8), ls[i]? = some x → ∃ b off, A = some ⟨b, off, none⟩ ∧ b < w.heap.size ∧ w.cell? ⟨b, off + i, none⟩ = some (.string (B x)) :=
  fun i x hx => hc i (B x) (by rw [List.getElem?_map, hx]; rfl)

set_option maxHeartbeats 1000000 in
theorem say_any (ls : List (List UInt8)) (v : Value) (w : World) (hs : Strs w v (ls.map B)) (hl : ∀ l ∈ ls, l.length ≤ 100000) (hn : ls.length ≤ 100000) :
    Calls Tryd.prog 64 #[v] w fun e w' => e = .returned (.bool (sayF ls)) ∧ Below w.heap.size w w' := by
  obtain ⟨A, cap, rfl, hle, hc⟩ := hs
  have hcb := cellB hc
  have PC := Lib.hid hcb
  have HF := Lib.hid (sayF_eq ls)
  clear hc hcb
  rw [List.length_map]
  go_enter Tryd.func64, Tryd.ntmps64
  go_wp2_with fail
  go_loopw [3, 8] (fun v3 i wr => ∃ k want : Nat, k ≤ ls.length ∧ want ≤ 5 ∧ i = .int .i64 k ∧ v3 = .int .i64 want ∧ sayG 4 ls = sayG want (ls.drop k) ∧ Below w.heap.size w wr) (fun _ i _ => ls.length - (intOf i).toNat)
  case atStart => exact ⟨0, 4, Nat.zero_le _, by decide, rfl, rfl, rfl, Below.refl _ _⟩
  case round =>
    obtain ⟨k, want, hk, hwt, rfl, rfl, hG, hb⟩ := hrel
    by_cases hlt : k < ls.length
    · obtain ⟨x, hx⟩ : ∃ x, ls[k]? = some x := ⟨_, List.getElem?_eq_getElem hlt⟩
      obtain ⟨b, off, rfl, hbb, hcell⟩ := PC.out k x hx
      have hcx := (hb.cell (p := ⟨b, off + k, none⟩) hbb).trans hcell
      have hxl := hl x (List.mem_of_getElem? hx)
      have KX := fun w => kind_any (B x) (by rw [B_size]; unfold maxLen; omega) w
      rw [B_data] at KX
      rw [sayG_drop ls k want x hx] at hG
      have GH := Lib.hid hG
      have hk5 := kindL_le x
      clear hx hcell hG
      generalize kindL x = kx at *
      go_wp2_with fail
      refine (KX _).mono ?_
      rintro e w1 ⟨rfl, b1⟩
      by_cases hkx : kx = want
      · subst hkx
        go_wp2_with fail
        go_roundw
        case rel => exact ⟨k + 1, 3, hlt, by decide, by go_num, rfl, by rw [GH.out]; simp, hb.trans (b1.mono hb.size)⟩
        case measure => simp [intOf]; omega
      · have e1 : ((kx : Int) == (want : Int)) = false := by rw [beq_eq_false_iff_ne]; omega
        have e2 : ((kx : Int) != (want : Int)) = true := by rw [bne, e1]; rfl
        have e3 : (kx == want) = false := by rw [beq_eq_false_iff_ne]; exact hkx
        rw [e3] at GH
        clear hkx e3
        go_wp2_with fail
        go_ret
        exact ⟨by rw [HF.out, GH.out]; simp, hb.trans (b1.mono hb.size)⟩
    · obtain rfl : k = ls.length := by omega
      rw [List.drop_length] at hG
      have GH := Lib.hid hG
      clear hG
      go_wp2_with fail
      go_ret
      exact ⟨by rw [HF.out, GH.out]; simp [sayG], hb⟩
theorem trim_sp (l : List UInt8) (w : World) :
    Calls Tryd.prog 80 #[.string (B l), .string ⟨#[32]⟩] w fun e w' => e = .returned (.string (B (dropSp l))) ∧ w = w' := by
  refine (Tryd.strings_TrimPrefix (B l) ⟨#[32]⟩ _).mono ?_
  rintro e w' ⟨rfl, rfl⟩
  refine ⟨?_, rfl⟩
  rw [B_data, show (⟨#[32]⟩ : ByteArray).data.toList = [32] from rfl]
  unfold Lib.trimPrefix Lib.hasPrefix dropSp B
  cases l with
  | nil => rfl
  | cons a t =>
    by_cases h : a = 32
    · subst h; simp [List.isPrefixOf]
    · have h2 : ((32 : UInt8) == a) = false := by rw [beq_eq_false_iff_ne]; exact Ne.symm h
      simp [List.isPrefixOf, h2, h]
theorem trim_dot (l : List UInt8) (w : World) :
    Calls Tryd.prog 80 #[.string (B l), .string ⟨#[46]⟩] w fun e w' => e = .returned (.string (B (dropDot l))) ∧ w = w' := by
  refine (Tryd.strings_TrimPrefix (B l) ⟨#[46]⟩ _).mono ?_
  rintro e w' ⟨rfl, rfl⟩
  refine ⟨?_, rfl⟩
  rw [B_data, show (⟨#[46]⟩ : ByteArray).data.toList = [46] from rfl]
  unfold Lib.trimPrefix Lib.hasPrefix dropDot B
  cases l with
  | nil => rfl
  | cons a t =>
    by_cases h : a = 46
    · subst h; simp [List.isPrefixOf]
    · have h2 : ((46 : UInt8) == a) = false := by rw [beq_eq_false_iff_ne]; exact Ne.symm h
      simp [List.isPrefixOf, h2, h]
theorem joinNl_eq : ∀ ls : List (List UInt8), Lib.join ls [10] = joinNl ls
  | [] => rfl
  | [p] => by simp [Lib.join, List.intercalate, joinNl]
  | p :: q :: r => by
    have ih := joinNl_eq (q :: r)
    unfold Lib.join at ih ⊢
    show _ = p ++ 10 :: joinNl (q :: r)
    rw [← ih]
    simp [List.intercalate, List.intersperse]
theorem pre_B (a : List UInt8) : preS (B a) = B (before a) := by
  rw [← B_of (preS (B a)), preS_data, B_data]
theorem post_B (a : List UInt8) : postS (B a) = B (afterC a) := by
  rw [← B_of (postS (B a))]
  unfold postS afterC
  rw [Lib.extract_to_end, B_data]
theorem kind3 {x : List UInt8} (h : kindL x = 3) : ∃ c d t, x = c :: d :: t := by
  unfold kindL at h
  split at h; · cases h
  split at h; · cases h
  rename_i hb
  split at h; · cases h
  split at h
  · rename_i hg
    cases x with
    | nil => cases hg
    | cons c t =>
      cases t with
      | nil =>
        exfalso; apply hb
        have : blankB c = true := hg
        simp [blankAll, this]
      | cons d t => exact ⟨c, d, t, rfl⟩
  · split at h <;> cases h
theorem tail_B (c : UInt8) (t : List UInt8) : (B (c :: t)).extract 1 (B (c :: t)).size = B t := by
  rw [← B_of ((B (c :: t)).extract 1 _), Lib.extract_to_end, B_data]; rfl
end Go.Proofs.YtngngamfceoklaaDoor
