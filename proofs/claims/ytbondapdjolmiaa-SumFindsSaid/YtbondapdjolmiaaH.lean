import Derived.Test.YtbondapdjolmiaaG
namespace Go.Proofs.Ytbondapdjolmiaa
open Go.RowKit
/-- what the reference's inner loop has found of a byte behind k figures -/
def nIn (c k : Nat) : Nat := match val c with | some d => if d < k then d else 16 | none => 16
theorem dg_val : ∀ (c : Fin 256) (k : Fin 16), ((dg k.val).toNat = c.val) ↔ (val c.val = some k.val) := by decide +kernel
theorem hit_of {b c : UInt8} {q : Nat} (hb : b = dg q) (h : ((b.toNat : Int) == (c.toNat : Int)) = true) (hq : q < 16) : val c.toNat = some q := by
  subst hb
  exact (dg_val ⟨c.toNat, c.toNat_lt⟩ ⟨q, hq⟩).1 (by have := beq_iff_eq.1 h; show (dg q).toNat = c.toNat; omega)
theorem miss_of {b c : UInt8} {q : Nat} (hb : b = dg q) (h : ((b.toNat : Int) == (c.toNat : Int)) = false) (hq : q < 16) : val c.toNat ≠ some q := by
  subst hb
  intro e
  have := (dg_val ⟨c.toNat, c.toNat_lt⟩ ⟨q, hq⟩).2 e
  have h' := beq_eq_false_iff_ne.1 h
  simp only at this
  omega
theorem drewN_below {B : Nat} {w w' : World} (h : Below B w w') (n : Nat) : Below B w (w'.drewN n) := ⟨h.os, h.tape, h.output, h.size, h.block⟩
theorem nIn_hit {c k : Nat} (hk : k < 16) (h : val c = some k) : nIn c (k + 1) = k := by unfold nIn; rw [h]; simp
theorem nIn_miss {c k : Nat} (h : val c ≠ some k) : nIn c (k + 1) = nIn c k := by
  unfold nIn
  cases hv : val c with
  | none => rfl
  | some d =>
    have : d ≠ k := fun e => h (by rw [hv, e])
    simp only
    by_cases a : d < k
    · rw [if_pos a, if_pos (by omega)]
    · rw [if_neg a, if_neg (by omega)]
theorem nIn_end {c : Nat} : nIn c 16 = match val c with | some d => d | none => 16 := by
  unfold nIn
  cases hv : val c with
  | none => rfl
  | some d => simp [val_lt hv]
set_option maxHeartbeats 400000 in
theorem refTake_any (s : ByteArray) (w : World) (hs : s.size ≤ maxLen) :
    Calls Try.prog 16 #[.string s] w fun e w' => e = .returned (takeV s.data.toList) ∧ Below w.heap.size w w' := by
  unfold maxLen at hs
  by_cases h8 : s.size = 8
  · have hb : (!((s.size : Int) == 8)) = false := by simp [h8]
    have hb2 : ((s.size : Int) != 8) = false := by simp [h8]
    have H8 := Lib.hid h8
    have hle : s.size ≤ 8 := by omega
    have hge : 8 ≤ s.size := by omega
    clear h8
    go_enter Try.func16, Try.ntmps16
    go_wp2_with fail
    go_loopw [4, 5] (fun r i wr => ∃ k x : Nat, k ≤ 8 ∧ x < 4294967296 ∧ i = .int .i64 k ∧ r = .int .u32 (x : Nat) ∧ tk 0 s.data.toList = tk x (s.data.toList.drop k) ∧ Below w.heap.size w wr) (fun _ i _ => 8 - (intOf i).toNat)
    case atStart => exact ⟨0, 0, by omega, by omega, rfl, rfl, rfl, Below.refl _ _⟩
    case round =>
      obtain ⟨k, x, hk, hx, rfl, rfl, htk, hb0⟩ := hrel
      have HT := Lib.hid htk
      clear htk
      by_cases hlt : k < 8
      · have hlt' : k < s.size := by omega
        have hsplit : s.data.toList.drop k = s[k] :: s.data.toList.drop (k + 1) := by
          rw [List.drop_eq_getElem_cons (by simpa using hlt')]; rfl
        have HP := Lib.hid hsplit
        clear hsplit
        go_wp2_with fail
        obtain ⟨wo, rfl⟩ : ∃ wo : World, wo = wr := ⟨_, rfl⟩
        go_loopw [6, 7] (fun n j wr => ∃ q : Nat, q ≤ 16 ∧ j = .int .i64 q ∧ n = .int .u32 (nIn s[k].toNat q : Nat) ∧ Below w.heap.size w wr) (fun _ j _ => 16 - (intOf j).toNat)
        case atStart => exact ⟨0, by omega, rfl, by unfold nIn; cases val s[k].toNat <;> simp, hb0⟩
        case round =>
          obtain ⟨q, hq, rfl, rfl, hb1⟩ := hrel
          by_cases hql : q < 16
          · go_wp2_with fail
            go_quiet (fail)
            go_wp2_with fail
            · have ht : (((⟨#[48, 49, 50, 51, 52, 53, 54, 55, 56, 57, 97, 98, 99, 100, 101, 102]⟩ : ByteArray)[q].toNat : Int) == (s[k].toNat : Int)) = true := by assumption
              have hv := hit_of (digit_get q hql _) ht hql
              go_roundw
              case rel => exact ⟨q + 1, by omega, by go_num, by rw [nIn_hit hql hv], drewN_below hb1 _⟩
              case measure => simp [intOf]; omega
            · have ht : (((⟨#[48, 49, 50, 51, 52, 53, 54, 55, 56, 57, 97, 98, 99, 100, 101, 102]⟩ : ByteArray)[q].toNat : Int) == (s[k].toNat : Int)) = false := by assumption
              have hv := miss_of (digit_get q hql _) ht hql
              go_roundw
              case rel => exact ⟨q + 1, by omega, by go_num, by rw [nIn_miss hv], drewN_below hb1 _⟩
              case measure => simp [intOf]; omega
          · obtain rfl : q = 16 := by omega
            have hend : nIn s[k].toNat 16 = match val s[k].toNat with | some d => d | none => 16 := nIn_end
            cases hv : val s[k].toNat with
            | none =>
              have HN : Hid (tk 0 s.data.toList = none) := by
                show _ = _
                rw [HT.out, HP.out, tk, hv]
              rw [hv] at hend
              simp only at hend
              rw [hend]
              clear hend hv
              go_wp2_with fail
              go_ret2
              exact ⟨by rw [takeV_none (by simpa using H8.out) HN.out]; rfl, hb1⟩
            | some d =>
              have hd := val_lt hv
              have HN : Hid (tk 0 s.data.toList = tk (x * 16 % 4294967296 + d) (s.data.toList.drop (k + 1))) := by
                show _ = _
                rw [HT.out, HP.out, tk, hv]
              rw [hv] at hend
              simp only at hend
              rw [hend]
              clear hend hv
              have hd' : ((d : Int) == 16) = false := by simp; omega
              go_wp2_with fail
              go_roundw
              case rel => exact ⟨k + 1, x * 16 % 4294967296 + d, by omega, by omega, by go_num, by go_num, HN.out, hb1⟩
              case measure => simp [intOf]; omega
      · have HN : Hid (tk 0 s.data.toList = some x) := by
          show _ = _
          rw [HT.out, List.drop_of_length_le (by simp; omega)]; rfl
        go_wp2_with fail
        go_ret2
        exact ⟨by rw [takeV_some (by simpa using H8.out) HN.out]; rfl, hb0⟩
  · have hb : (!((s.size : Int) == 8)) = true := by simp; omega
    have hb2 : ((s.size : Int) != 8) = true := by simp; omega
    go_enter Try.func16, Try.ntmps16
    go_wp2_with fail
    go_ret2
    exact ⟨by rw [takeV_len (by simpa using h8)]; rfl, Below.refl _ _⟩
end Go.Proofs.Ytbondapdjolmiaa
