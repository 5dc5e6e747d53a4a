/- The law of keys. -/
import Derived.Test.YtifdcnkfanenjaaDoorWK
namespace Go.Proofs.YtifdcnkfanenjaaDoor
open Go.RowKit Go.Shelf

def lineS (k r : ByteArray) : ByteArray := (k ++ ⟨#[58]⟩) ++ r
theorem lineS_data (k r : ByteArray) : (lineS k r).data.toList = k.data.toList ++ 58 :: r.data.toList := by
  unfold lineS
  rw [ByteArray.data_append, ByteArray.data_append, Array.toList_append, Array.toList_append, List.append_assoc]; rfl
theorem hasB_append (a b : List UInt8) (c : UInt8) : hasB (a ++ b) c = (hasB a c || hasB b c) := by
  unfold hasB; rw [Bool.eq_iff_iff]; simp
theorem before_append (a b : List UInt8) (h : hasB a 58 = false) : before (a ++ 58 :: b) = a := by
  unfold before
  have h' : ∀ x ∈ a, (x != 58) = true := by
    intro x hx; unfold hasB at h
    have : (58 : UInt8) ∉ a := by simpa using h
    simp; rintro rfl; exact this hx
  rw [List.takeWhile_append_of_pos h', List.takeWhile_cons, if_neg (by simp), List.append_nil]
theorem good_parts {k : List UInt8} (h : goodKey k = true) : 1 ≤ k.length ∧ beginsB k = false ∧ hashB k = false ∧ hasB k 58 = false ∧ hasB k 10 = false := by
  unfold goodKey at h
  simp only [Bool.and_eq_true, decide_eq_true_eq, Bool.not_eq_true'] at h
  exact ⟨h.1.1.1.1.1, h.1.1.1.2, h.1.1.2, h.1.2, h.2⟩
theorem kind_good {k r : List UInt8} (h : goodKey k = true) (hr : hasB r 10 = false) : kindL (k ++ 58 :: r) = 4 := by
  obtain ⟨a1, a2, a3, a4, a5⟩ := good_parts h
  have b1 : hasB (k ++ 58 :: r) 10 = false := by
    rw [hasB_append, a5, Bool.false_or]
    unfold hasB at hr ⊢
    rw [List.contains_cons, hr]; rfl
  have b2 : hasB (k ++ 58 :: r) 58 = true := by
    rw [hasB_append]; unfold hasB; simp
  have b3 := before_append k r a4
  cases k with
  | nil => simp at a1
  | cons c t =>
    have b4 : beginsB (c :: t ++ 58 :: r) = false := a2
    have b5 : hashB (c :: t ++ 58 :: r) = false := a3
    have b6 : blankAll (c :: t ++ 58 :: r) = false := by
      have : blankB c = false := a2
      unfold blankAll
      rw [List.cons_append, List.all_cons, this]; rfl
    unfold kindL
    rw [b1, if_neg (by decide), b6, if_neg (by decide), b5, if_neg (by decide), b4, if_neg (by decide), b2, b3, h]; rfl
theorem kind_nl {l : List UInt8} (h : hasB l 10 = true) : kindL l ≠ 4 := by unfold kindL; rw [if_pos h]; decide
theorem drop_line (b : List UInt8) : ∀ a : List UInt8, (a ++ 58 :: b).drop (a.length + 1) = b
  | [] => rfl
  | _ :: a => drop_line b a
theorem pre_line (k r : ByteArray) (h : hasB k.data.toList 58 = false) : preS (lineS k r) = k ∧ postS (lineS k r) = r := by
  have e1 : (preS (lineS k r)).data.toList = k.data.toList := by rw [preS_data, lineS_data, before_append _ _ h]
  refine ⟨by rw [← Lib.mk_data (preS _), e1, Lib.mk_data], ?_⟩
  have e2 : (postS (lineS k r)).data.toList = r.data.toList := by
    unfold postS
    rw [Lib.extract_to_end, lineS_data, before_append _ _ h, drop_line]
  rw [← Lib.mk_data (postS _), e2, Lib.mk_data]

set_option maxHeartbeats 2000000 in
theorem keysLaw (k r : ByteArray) (w : World) (hk : k.size ≤ maxLen) (hr : r.size ≤ maxLen) :
    Calls Tryd.prog 5 #[.string k, .string r] w fun e w' => e = .returned (.bool true) ∧ Below w.heap.size w w' := by
  have hk' := hk
  unfold maxLen at hk hr
  by_cases h1 : 300 < k.size
  · go_enter Tryd.func5, Tryd.ntmps5
    go_wp2_with (first | (go_at_call 8; refine (alive_any _).mono ?_; rintro e w1 ⟨rfl, b1⟩))
    go_ret
    exact ⟨rfl, b1⟩
  by_cases h2 : 300 < r.size
  · go_enter Tryd.func5, Tryd.ntmps5
    go_wp2_with (first | (go_at_call 8; refine (alive_any _).mono ?_; rintro e w1 ⟨rfl, b1⟩))
    go_ret
    exact ⟨rfl, b1⟩
  have h3 : k.size ≤ 300 := by omega
  have h4 : r.size ≤ 300 := by omega
  have hT : (lineS k r).size ≤ maxLen := by unfold lineS maxLen; rw [ByteArray.size_append, ByteArray.size_append]; show k.size + 1 + r.size ≤ _; omega
  have KA := fun w => key_any k hk' w
  have KB := fun w => refKey_any k (by omega) w
  have n5 := Lib.size_eq r
  have N5 := Lib.hid n5
  clear n5 hk' h1 h2
  generalize hg : goodKey k.data.toList = g at *
  have HG := Lib.hid hg
  clear hg
  by_cases hp : kindL (lineS k r).data.toList = 4
  · -- the line is a Pair
    have CA := fun w => cut_pair (lineS k r) hT hp w
    have hno : hasB r.data.toList 10 = false := by
      cases a : hasB r.data.toList 10 with
      | false => rfl
      | true =>
        exfalso
        refine kind_nl ?_ hp
        rw [lineS_data, hasB_append]
        unfold hasB at a ⊢
        rw [List.contains_cons, a]; simp
    have HN := Lib.hid hno
    have fin : (g = true → preS (lineS k r) = k ∧ postS (lineS k r) = r) ∧ (g = false → preS (lineS k r) ≠ k) := by
      constructor
      · rintro rfl; exact pre_line k r (good_parts HG.out).2.2.2.1
      · rintro rfl e
        have := (kind4 hp).2.2
        rw [← preS_data, e, HG.out] at this; cases this
    unfold lineS at CA fin
    clear hno hp hT
    cases g with
    | true =>
      obtain ⟨f1, f2⟩ := fin.1 rfl
      rw [f1, f2] at CA
      clear fin f1 f2
      go_enter Tryd.func5, Tryd.ntmps5
      go_wp2_with fail
      refine (alive_any _).mono ?_
      rintro e w1 ⟨rfl, b1⟩
      go_wp2_with fail
      refine (KB _).mono ?_
      rintro e w2 ⟨rfl, rfl⟩
      go_wp2_with fail
      refine (KA _).mono ?_
      rintro e w2 ⟨rfl, rfl⟩
      go_wp2_with fail
      refine (CA _).mono ?_
      rintro e w2 ⟨rfl, b2⟩
      go_wp2_with fail
      go_loop [37] (fun i => ∃ m : Nat, m ≤ r.size ∧ i = .int .i64 m) (fun i => r.size - (intOf i).toNat)
      case atStart => exact ⟨0, Nat.zero_le _, rfl⟩
      case round =>
        obtain ⟨m, hm, rfl⟩ := hrel
        by_cases hlt : m < r.size
        · have q2 := byte_eq (c := r[m]) (d := 10) 10 rfl
          have h5 : (r[m] == 10) = false := by
            cases h5 : (r[m] == 10) with
            | false => rfl
            | true =>
              exfalso
              have := has_yes r.data.toList 10 m (by rw [List.getElem?_eq_getElem (by rw [← Lib.size_eq]; exact hlt)]; exact congrArg some (eq_of_beq h5))
              rw [HN.out] at this; cases this
          rw [h5] at q2
          clear h5
          go_wp2
          go_round
          case rel => exact ⟨m + 1, hlt, by go_num⟩
          case measure => simp [intOf]; omega
        · go_wp2
          go_ret
          exact ⟨rfl, b1.trans (b2.mono b1.size)⟩
    | false =>
      have f1 := fin.2 rfl
      have f2 : ((preS ((k ++ ⟨#[58]⟩) ++ r)).toList == k.toList) = false := by
        rw [Lib.toList_data, Lib.toList_data, beq_eq_false_iff_ne]
        intro e; apply f1
        rw [← Lib.mk_data (preS _), e, Lib.mk_data]
      have f3 : ((preS ((k ++ ⟨#[58]⟩) ++ r)).toList != k.toList) = true := by rw [bne, f2]; rfl
      generalize preS ((k ++ ⟨#[58]⟩) ++ r) = pk at *
      generalize postS ((k ++ ⟨#[58]⟩) ++ r) = pr at *
      clear fin f1
      go_enter Tryd.func5, Tryd.ntmps5
      go_wp2_with fail
      refine (alive_any _).mono ?_
      rintro e w1 ⟨rfl, b1⟩
      go_wp2_with fail
      refine (KB _).mono ?_
      rintro e w2 ⟨rfl, rfl⟩
      go_wp2_with fail
      refine (KA _).mono ?_
      rintro e w2 ⟨rfl, rfl⟩
      go_wp2_with fail
      refine (CA _).mono ?_
      rintro e w2 ⟨rfl, b2⟩
      go_wp2_with fail
      go_loop [37] (fun i => ∃ m : Nat, m ≤ r.size ∧ i = .int .i64 m) (fun i => r.size - (intOf i).toNat)
      case atStart => exact ⟨0, Nat.zero_le _, rfl⟩
      case round =>
        obtain ⟨m, hm, rfl⟩ := hrel
        by_cases hlt : m < r.size
        · have q2 := byte_eq (c := r[m]) (d := 10) 10 rfl
          have h5 : (r[m] == 10) = false := by
            cases h5 : (r[m] == 10) with
            | false => rfl
            | true =>
              exfalso
              have := has_yes r.data.toList 10 m (by rw [List.getElem?_eq_getElem (by rw [← Lib.size_eq]; exact hlt)]; exact congrArg some (eq_of_beq h5))
              rw [HN.out] at this; cases this
          rw [h5] at q2
          clear h5
          go_wp2
          go_round
          case rel => exact ⟨m + 1, hlt, by go_num⟩
          case measure => simp [intOf]; omega
        · go_wp2
          go_ret
          exact ⟨rfl, b1.trans (b2.mono b1.size)⟩
  · -- it is none
    have CA := fun w => cut_else (lineS k r) hT hp w
    have fin : hasB r.data.toList 10 = true ∨ g = false := by
      cases a : hasB r.data.toList 10 with
      | true => exact .inl rfl
      | false =>
        cases g with
        | false => exact .inr rfl
        | true => exfalso; apply hp; rw [lineS_data]; exact kind_good HG.out a
    have FIN := Lib.hid fin
    unfold lineS at CA
    clear hp hT fin
    go_enter Tryd.func5, Tryd.ntmps5
    go_wp2_with fail
    refine (alive_any _).mono ?_
    rintro e w1 ⟨rfl, b1⟩
    go_wp2_with fail
    refine (KB _).mono ?_
    rintro e w2 ⟨rfl, rfl⟩
    go_wp2_with fail
    refine (KA _).mono ?_
    rintro e w2 ⟨rfl, rfl⟩
    cases g
    all_goals
      go_wp2_with fail
      refine (CA _).mono ?_
      rintro e w2 ⟨rfl, b2⟩
      go_wp2_with fail
      go_loop [37] (fun i => ∃ m : Nat, m ≤ r.size ∧ i = .int .i64 m ∧ ∀ j, j < m → r.data.toList[j]? ≠ some 10) (fun i => r.size - (intOf i).toNat)
      case atStart => exact ⟨0, Nat.zero_le _, rfl, fun j hj => absurd hj (Nat.not_lt_zero j)⟩
      case round =>
        obtain ⟨m, hm, rfl, hno⟩ := hrel
        by_cases hlt : m < r.size
        · have e : r.data.toList[m]? = some r[m] := by
            rw [List.getElem?_eq_getElem (by rw [← Lib.size_eq]; exact hlt)]; rfl
          have E := Lib.hid e
          have NO := Lib.hid hno
          clear e hno
          have q2 := byte_eq (c := r[m]) (d := 10) 10 rfl
          cases h5 : (r[m] == 10) with
          | true =>
            rw [h5] at q2
            go_wp2
            go_ret
            exact ⟨rfl, b1.trans (b2.mono b1.size)⟩
          | false =>
            rw [h5] at q2
            go_wp2
            go_round
            case rel =>
              refine ⟨m + 1, hlt, by go_num, fun j hj => ?_⟩
              by_cases hjk : j = m
              · subst hjk; rw [E.out]; simpa using h5
              · exact NO.out j (by omega)
            case measure => simp [intOf]; omega
        · have h10 := has_no r.data.toList 10 m hno (by rw [← N5.out]; omega)
          have hf := FIN.out
          rw [h10] at hf
          clear hno h10
          first
          | (exfalso; rcases hf with h | h <;> cases h; done)
          | (clear hf; go_wp2; go_ret; exact ⟨rfl, b1.trans (b2.mono b1.size)⟩)
end Go.Proofs.YtifdcnkfanenjaaDoor
