/- Of a batch's text that is cut, what can be decoded; lines.Whole stays within the text. -/
import Derived.Test.YtkcklnnmcmjnjaaGreatDoorBam0
import Derived.Lib.LastIndexByte
set_option linter.unusedVariables false
namespace Go.Proofs.YtkcklnnmcmjnjaaGreatDoor
open Go.RowKit Go.Shelf

theorem textL_pre : ∀ (a b : List (List UInt8)) (r : List UInt8), (∀ l ∈ a, (10 : UInt8) ∉ l) → (∀ l ∈ b, (10 : UInt8) ∉ l) → textL a ++ r = textL b → ∃ x, a ++ x = b
  | [], b, _, _, _, _ => ⟨b, rfl⟩
  | l :: a, [], r, _, _, h => by
    rw [textL_cons] at h
    simp [textL] at h
  | l :: a, m :: b, r, ha, hb, h => by
    rw [textL_cons, textL_cons, List.append_assoc, List.cons_append] at h
    have h1 := congrArg (List.takeWhile (· != 10)) h
    rw [takeW 10 _ _ (ha l List.mem_cons_self), takeW 10 _ _ (hb m List.mem_cons_self)] at h1
    subst h1
    have h2 := List.append_cancel_left h
    injection h2 with _ h2
    obtain ⟨x, hx⟩ := textL_pre a b r (fun l hl => ha l (List.mem_cons_of_mem _ hl)) (fun l hl => hb l (List.mem_cons_of_mem _ hl)) h2
    exact ⟨x, by rw [List.cons_append, hx]⟩
/-- What is decoded of a part of a batch's text. -/
theorem cut_decode {eds l : List Ed} {c : Nat} (hg : (chkB eds).2 = 0) (hi : ∀ ed ∈ eds, I64 ed.id) (hd : decL ((batchT eds).take c) = some l) :
    ∃ a e g r, l = a ++ [e] ∧ eds = a ++ g :: r ∧ e.kind = g.kind ∧ e.id = g.id ∧ Cut e.fields g.fields := by
  obtain ⟨_, hl, hli, ht⟩ := decL_iff.1 hd
  obtain ⟨⟨n1, _⟩, g1⟩ := chkB_good hl
  obtain ⟨_, g2⟩ := chkB_good hg
  have hp : textL (batchLs l) ++ (batchT eds).drop c = textL (batchLs eds) := by
    show batchT l ++ _ = batchT eds
    rw [ht, List.take_append_drop]
  obtain ⟨x, hx⟩ := textL_pre _ _ _ (batchLs_clean g1) (batchLs_clean g2) hp
  exact cut_batch l eds x (fun ed hm => ⟨g1 ed hm, hli ed hm⟩) (fun ed hm => ⟨g2 ed hm, hi ed hm⟩) (by rintro rfl; simp at n1) hx
theorem Cut.len : ∀ {a b : List Fld}, Cut a b → a.length ≤ b.length
  | [], _, _ => Nat.zero_le _
  | _ :: _, [], h => h.elim
  | f :: a, g :: b, h => by have := Cut.len h.2.2; rw [List.length_cons, List.length_cons]; omega
theorem Cut.at : ∀ {a b : List Fld} {k : Nat} {f g : Fld}, Cut a b → a[k]? = some f → b[k]? = some g → f.1 = g.1 ∧ ∃ z, g.2 = f.2 ++ z
  | [], _, _, _, _, _, h, _ => by simp at h
  | _ :: _, [], _, _, _, h, _, _ => h.elim
  | f :: a, g :: b, 0, _, _, h, h1, h2 => by
    simp only [List.getElem?_cons_zero] at h1 h2
    cases h1; cases h2
    exact ⟨h.1, h.2.1⟩
  | f :: a, g :: b, k + 1, _, _, h, h1, h2 => by
    simp only [List.getElem?_cons_succ] at h1 h2
    exact Cut.at h.2.2 h1 h2
theorem lastA_le (s : ByteArray) (c : Int) : ∀ k : Nat, -1 ≤ Lib.lastIdx s c k ∧ Lib.lastIdx s c k < k
  | 0 => ⟨Int.le_refl _, by show (-1 : Int) < 0; omega⟩
  | k + 1 => by
    unfold Lib.lastIdx
    have := lastA_le s c k
    split <;> omega
set_option maxRecDepth 100000 in
set_option maxHeartbeats 1000000 in
theorem wholeA_any (s : ByteArray) (n : Int) (w : World) (hs : s.size ≤ 4294967295) (hn : 0 ≤ n ∧ n < s.size) :
    Calls Tryz.prog 39 #[.string s, .int .i64 n] w fun e w' => ∃ c : Nat, e = .returned (.int .i64 (c : Nat)) ∧ (c : Int) ≤ n ∧ w = w' := by
  obtain ⟨m, hmn⟩ := Int.eq_ofNat_of_zero_le hn.1
  have hms : m < s.size := by omega
  have hz : (s.extract 0 m).size = m := by
    rw [Lib.size_eq, Lib.extract_data, List.drop_zero, Nat.sub_zero, List.length_take, ← Lib.size_eq]; omega
  have L : ∀ w, Calls Tryz.prog 84 #[.string (s.extract 0 m), .string ⟨#[10]⟩] w fun e w' => e = .returned (.int .i64 (Lib.lastIdx (s.extract 0 m) 10 m)) ∧ w' = w := fun w => by
    have := Tryz.strings_LastIndex_one (s.extract 0 m) ⟨#[10]⟩ rfl (by omega) w
    unfold Lib.lastIndexByte at this
    rw [hz] at this
    exact this
  have hq := lastA_le (s.extract 0 m) 10 m
  have hm : (min (max n 0) (s.size : Int)) = (m : Int) := by omega
  generalize Lib.lastIdx (s.extract 0 m) 10 m = q at *
  obtain ⟨q1, q2⟩ := hq
  obtain ⟨c, hc⟩ : ∃ c : Nat, q + 1 = c := ⟨(q + 1).toNat, by omega⟩
  have HN := Lib.hid hmn
  have HC := Lib.hid hc
  clear hz hc hmn hn
  go_enter Tryz.func39, Tryz.ntmps39
  go_wp2_with fail
  refine (L _).mono ?_
  rintro e w1 ⟨rfl, rfl⟩
  go_wp2
  go_ret
  exact ⟨c, by rw [← HC.out]; rfl, by rw [HN.out, ← HC.out]; omega, rfl⟩
end Go.Proofs.YtkcklnnmcmjnjaaGreatDoor
