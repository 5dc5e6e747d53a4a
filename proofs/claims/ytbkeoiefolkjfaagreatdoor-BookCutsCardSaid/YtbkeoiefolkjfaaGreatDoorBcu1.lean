/- Texts put together: SA, SM. -/
import Derived.Test.YtbkeoiefolkjfaaGreatDoorBbk1
import Derived.Test.YtbkeoiefolkjfaaGreatDoorBbk2
import Derived.Test.YtbkeoiefolkjfaaGreatDoorBbk3
import Derived.Test.YtbkeoiefolkjfaaGreatDoorBbk4
import Derived.Test.YtbkeoiefolkjfaaGreatDoorBbk5
import Derived.Test.YtbkeoiefolkjfaaGreatDoorBbk6
import Derived.Test.YtbkeoiefolkjfaaGreatDoorBbk7
import Derived.Test.YtbkeoiefolkjfaaGreatDoorBbk8
import Derived.Test.YtbkeoiefolkjfaaGreatDoorBbk9
import Derived.Test.YtbkeoiefolkjfaaGreatDoorBbk10
import Derived.Test.YtbkeoiefolkjfaaGreatDoorBbk11
import Derived.Test.YtbkeoiefolkjfaaGreatDoorBbk12
import Derived.Test.YtbkeoiefolkjfaaGreatDoorBbk13
import Derived.Test.YtbkeoiefolkjfaaGreatDoorBbk14
import Derived.Test.YtbkeoiefolkjfaaGreatDoorBbk15
import Derived.Test.YtbkeoiefolkjfaaGreatDoorBbk16
import Derived.Test.YtbkeoiefolkjfaaGreatDoorBbk17
import Derived.Test.YtbkeoiefolkjfaaGreatDoorBbk18
import Derived.Test.YtbkeoiefolkjfaaGreatDoorBbk19
import Derived.Test.YtbkeoiefolkjfaaGreatDoorBbk20
import Derived.Test.YtbkeoiefolkjfaaGreatDoorBbk21
import Derived.Test.YtbkeoiefolkjfaaGreatDoorBbk22
import Derived.Test.YtbkeoiefolkjfaaGreatDoorBbk23
import Derived.Test.YtbkeoiefolkjfaaGreatDoorBbk25
import Derived.Test.YtbkeoiefolkjfaaGreatDoorBbk26
set_option linter.unusedVariables false
set_option maxRecDepth 100000
set_option maxHeartbeats 16000000
namespace Go.Proofs.YtbkeoiefolkjfaaGreatDoor.Bk
open Go.Lib Go.Proofs.YtbkeoiefolkjfaaGreatDoor.Fr Go.Proofs.YtbkeoiefolkjfaaGreatDoor.Hd
theorem beg_part (b : List UInt8) (k : Nat) : (fullR b).take k = [] \/ begL (head ((fullR b).take k)) = true := by
  have hf := figsB_ok b
  by_cases hk : k <= (headR b.length (figsB b)).length
  . rcases Nat.eq_zero_or_pos k with h0 | h0
    . left; rw [h0]; rfl
    right
    rw [full_form, List.take_append_of_le_length hk]
    have hm : ∀ c, c ∈ (headR b.length (figsB b)).take k -> c ∈ headR b.length (figsB b) := fun c hc => List.mem_of_mem_take hc
    have h10 : (10 : UInt8) ∉ (headR b.length (figsB b)).take k := fun h => (headR_no hf).1 (hm _ h)
    rw [head_none h10]
    obtain ⟨j, rfl⟩ : ∃ j, k = j + 1 := ⟨k - 1, by omega⟩
    exact kind_amd (r := ((headR b.length (figsB b)).tail).take j) rfl h10 (fun h => (headR_no hf).2 (hm _ h))
  right
  have e : (fullR b).take k = headR b.length (figsB b) ++ 10 :: ((b ++ footR b.length).take (k - (headR b.length (figsB b)).length - 1)) := by
    rw [full_form, List.take_append, List.take_of_length_le (by omega)]
    obtain ⟨j, hj⟩ : ∃ j, k - (headR b.length (figsB b)).length = j + 1 := ⟨k - (headR b.length (figsB b)).length - 1, by omega⟩
    rw [hj]
    rfl
  rw [e, head_app (headR_no hf).1]
  exact kind_amd (r := (headR b.length (figsB b)).tail) rfl (headR_no hf).1 (headR_no hf).2
end Go.Proofs.YtbkeoiefolkjfaaGreatDoor.Bk
namespace Go.Proofs.YtbkeoiefolkjfaaGreatDoor.Bk
open Go.RowKit Go.Shelf
attribute [local go_sem] Oper.semAt_some
theorem cutIn (cut : Int) (L : Nat) (h : 0 < L) (hL : L <= 1000000) : ∃ k : Nat, k < L /\ wrap64 ((IntKind.u64.wrap cut).tmod (L : Int)) = (k : Int) := by
  obtain ⟨m, hm⟩ : ∃ m : Nat, IntKind.u64.wrap cut = (m : Int) := ⟨(IntKind.u64.wrap cut).toNat, by rw [IntKind.wrap_u64]; omega⟩
  rw [hm]
  have h1 := Nat.mod_lt m h
  exact ⟨m % L, h1, by rw [show (m : Int).tmod (L : Int) = ((m % L : Nat) : Int) from rfl]; exact IntWalk.wrap64_in _ (by omega)⟩
theorem Sound.same {t base base' tail tail' : List UInt8} {n n' : Nat} {bds bds' : List (List UInt8)} (h : Sound Dc t n base bds tail) (h' : Sound Dc t n' base' bds' tail') : n = n' /\ base = base' /\ bds = bds' /\ tail = tail' := by
  have e1 := Hd.gen_one h.gen h'.gen
  subst e1
  have e2 : base = base' := by rw [<- h.isB, h'.isB]
  subst e2
  obtain ⟨e3, e4⟩ := recd_one h.recd h'.recd (.inl h.fin) (.inl h'.fin)
  exact ⟨rfl, rfl, e3, e4⟩
theorem cut_sound {t base tail b : List UInt8} {n k : Nat} {bds : List (List UInt8)} (h : Sound Dc t n base bds tail) (hg : Fr.goodR b = true) (hk : k < (Fr.fullR b).length) : Sound Dc (t.take (wholeN n base bds) ++ (Fr.fullR b).take k) n base bds ((Fr.fullR b).take k) := by
  have := h.again (beg_part b k) (more := []) (tail' := (Fr.fullR b).take k) ⟨rfl, fun b h => by cases h⟩ (Fr.full_begins hg hk)
  rwa [List.append_nil] at this
theorem full_sound {t base tail b : List UInt8} {n : Nat} {bds : List (List UInt8)} (h : Sound Dc t n base bds tail) (hg : Fr.goodR b = true) (hd : Dc b = true) : Sound Dc (t.take (wholeN n base bds) ++ Fr.fullR b) n base (bds ++ [b]) [] := by
  refine h.again (.inr ?_) ⟨by simp, fun c hc => ?_⟩ part_nil
  . have := beg_full b []
    rwa [List.append_nil] at this
  rw [List.mem_singleton.1 hc]; exact ⟨hg, hd⟩
theorem whole_more (n : Nat) (base b : List UInt8) (bds : List (List UInt8)) : wholeN n base (bds ++ [b]) = wholeN n base bds + (Fr.fullR b).length := by
  unfold wholeN
  rw [List.flatMap_append, List.length_append, List.flatMap_cons, List.flatMap_nil, List.append_nil]; omega
theorem fines_dec {b : List UInt8} {eds : List Ed} (h : decL b = some eds) : eds.length <= 40 /\ Fines eds := by
  obtain ⟨_, h0, _, _⟩ := decL_iff.1 h
  obtain ⟨⟨_, h1⟩, h2⟩ := chkB_good h0
  refine ⟨h1, fun ed hm => ?_⟩
  have g := goodE_F (h2 ed hm)
  exact ⟨by have := g.len; omega, fun f hf => by have := g.each f hf; have := goodKey_len this.1; omega⟩
theorem bats_alike {w : World} {lo lo' : Nat} {bv bv' : Value} {bds bds' : List (List UInt8)} {us us' : List Value} {i : Nat} {b : List UInt8} {u u' : Value} (h : BatR lo w bv bds us) (h' : BatR lo' w bv' bds' us') (hb : bds[i]? = some b) (hb' : bds'[i]? = some b) (hu : us[i]? = some u) (hu' : us'[i]? = some u') (hd : Dc b = true) :
    Calls Tryz.prog 23 #[u, u'] w fun e w' => e = .returned (.bool true) /\ Below w.heap.size w w' := by
  obtain ⟨fvs, ho⟩ := h.each i b u hb hu
  obtain ⟨fvs', ho'⟩ := h'.each i b u' hb' hu'
  obtain ⟨eds, hdec⟩ : ∃ eds, decL b = some eds := by
    unfold Dc at hd
    cases he : decL b with
    | none => rw [he] at hd; cases hd
    | some eds => exact ⟨eds, rfl⟩
  have e : edsOf b = eds := by unfold edsOf; rw [hdec]; rfl
  rw [e] at ho ho'
  obtain ⟨h1, h2⟩ := fines_dec hdec
  exact (edits_quiet eds _ _ w ho.edv ho'.edv (by omega) h2).mono fun e w' ⟨he, m, hm⟩ => ⟨he, by rw [hm]; exact drewN_below (Below.refl _ _) m⟩
end Go.Proofs.YtbkeoiefolkjfaaGreatDoor.Bk
