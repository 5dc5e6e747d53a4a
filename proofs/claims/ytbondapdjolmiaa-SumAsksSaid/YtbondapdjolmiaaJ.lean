import Derived.Test.YtbondapdjolmiaaI
namespace Go.Proofs.Ytbondapdjolmiaa
open Go.RowKit
set_option maxHeartbeats 1000000 in
theorem asks_any (f a b : ByteArray) (ha : a.size ≤ maxLen) (hb : b.size ≤ maxLen) (w : World) :
    Calls Try.prog 7 #[.string f, .string a, .string b] w fun e w' => e = .returned (.bool true) ∧ Below w.heap.size w w' := by
  by_cases h1 : 3000 < a.size
  · go_enter Try.func7, Try.ntmps7
    go_wp2_with fail
    refine (alive_any _).mono ?_
    rintro e w1 ⟨rfl, hb1⟩
    go_wp2_with fail
    go_ret
    exact ⟨rfl, hb1⟩
  · by_cases h2 : 3000 < b.size
    · go_enter Try.func7, Try.ntmps7
      go_wp2_with fail
      refine (alive_any _).mono ?_
      rintro e w1 ⟨rfl, hb1⟩
      go_wp2_with fail
      go_ret
      exact ⟨rfl, hb1⟩
    · have hab : (a ++ b).size ≤ maxLen := by rw [concat_size]; unfold maxLen; omega
      go_enter Try.func7, Try.ntmps7
      go_wp2_with fail
      refine (alive_any _).mono ?_
      rintro e w1 ⟨rfl, hb1⟩
      go_wp2_with fail
      refine (refSum_any _ _ hab).mono ?_
      rintro e w2 ⟨rfl, rfl⟩
      rw [concat_list]
      go_wp2_with fail
      refine (refFigures_any _ (M.crc_lt _) _).mono ?_
      rintro e w2 ⟨rfl, rfl⟩
      go_wp2_with fail
      refine (is2_any f a b ha hb _).mono ?_
      rintro e w2 ⟨rfl, hb2⟩
      go_wp2_with fail
      refine (is2_any _ a b ha hb _).mono ?_
      rintro e w3 ⟨rfl, hb3⟩
      go_wp2_with fail
      go_ret
      exact ⟨by simp, below2 hb1 (below2 hb2 hb3)⟩
theorem val_dg {n : Nat} (h : n < 16) : val (dg n).toNat = some n := by
  exact (dg_val ⟨(dg n).toNat, (dg n).toNat_lt⟩ ⟨n, h⟩).1 rfl
theorem dg_of_val {c : UInt8} {n : Nat} (h : val c.toNat = some n) : c = dg n := by
  have := (dg_val ⟨c.toNat, c.toNat_lt⟩ ⟨n, val_lt h⟩).2 h
  exact UInt8.toNat_inj.1 this.symm
theorem tk_dg (acc n : Nat) (l : List UInt8) (h : n < 16) : tk acc (dg n :: l) = tk (acc * 16 % 4294967296 + n) l := by
  rw [tk, val_dg h]
theorem takes_figs (x : Nat) (hx : x < 4294967296) : takes (figs x).data.toList = some x := by
  unfold takes
  rw [if_pos (show (figs x).data.toList.length = 8 from rfl)]
  have e : (figs x).data.toList = [dg (x / 268435456 % 16), dg (x / 16777216 % 16), dg (x / 1048576 % 16), dg (x / 65536 % 16), dg (x / 4096 % 16), dg (x / 256 % 16), dg (x / 16 % 16), dg (x % 16)] := rfl
  rw [e, tk_dg _ _ _ (by omega), tk_dg _ _ _ (by omega), tk_dg _ _ _ (by omega), tk_dg _ _ _ (by omega), tk_dg _ _ _ (by omega), tk_dg _ _ _ (by omega), tk_dg _ _ _ (by omega), tk_dg _ _ _ (by omega)]
  rw [show 0 * 16 % 4294967296 + x / 268435456 % 16 = x / 268435456 by omega, show x / 268435456 * 16 % 4294967296 + x / 16777216 % 16 = x / 16777216 by omega,
    show x / 16777216 * 16 % 4294967296 + x / 1048576 % 16 = x / 1048576 by omega, show x / 1048576 * 16 % 4294967296 + x / 65536 % 16 = x / 65536 by omega,
    show x / 65536 * 16 % 4294967296 + x / 4096 % 16 = x / 4096 by omega, show x / 4096 * 16 % 4294967296 + x / 256 % 16 = x / 256 by omega,
    show x / 256 * 16 % 4294967296 + x / 16 % 16 = x / 16 by omega, show x / 16 * 16 % 4294967296 + x % 16 = x by omega]
  rfl
theorem tk_some {acc : Nat} {c : UInt8} {l : List UInt8} {n : Nat} (h : tk acc (c :: l) = some n) : ∃ d, d < 16 ∧ c = dg d ∧ tk (acc * 16 % 4294967296 + d) l = some n := by
  rw [tk] at h
  cases hv : val c.toNat with
  | none => rw [hv] at h; cases h
  | some d => rw [hv] at h; exact ⟨d, val_lt hv, dg_of_val hv, h⟩
theorem figs_takes {l : List UInt8} {n : Nat} (h : takes l = some n) : (figs n).data.toList = l ∧ n < 4294967296 := by
  unfold takes at h
  split at h
  · rename_i hl
    match l, hl with
    | [c0, c1, c2, c3, c4, c5, c6, c7], _ =>
      obtain ⟨d0, h0, rfl, t0⟩ := tk_some h
      obtain ⟨d1, h1, rfl, t1⟩ := tk_some t0
      obtain ⟨d2, h2, rfl, t2⟩ := tk_some t1
      obtain ⟨d3, h3, rfl, t3⟩ := tk_some t2
      obtain ⟨d4, h4, rfl, t4⟩ := tk_some t3
      obtain ⟨d5, h5, rfl, t5⟩ := tk_some t4
      obtain ⟨d6, h6, rfl, t6⟩ := tk_some t5
      obtain ⟨d7, h7, rfl, t7⟩ := tk_some t6
      rw [tk] at t7
      injection t7 with t8
      have e : n = d0 * 268435456 + d1 * 16777216 + d2 * 1048576 + d3 * 65536 + d4 * 4096 + d5 * 256 + d6 * 16 + d7 := by
        rw [← t8]
        rw [show 0 * 16 % 4294967296 + d0 = d0 by omega, show d0 * 16 % 4294967296 = d0 * 16 by omega, show (d0 * 16 + d1) * 16 % 4294967296 = (d0 * 16 + d1) * 16 by omega,
          show ((d0 * 16 + d1) * 16 + d2) * 16 % 4294967296 = ((d0 * 16 + d1) * 16 + d2) * 16 by omega]
        omega
      refine ⟨?_, by omega⟩
      show [dg (n / 268435456 % 16), dg (n / 16777216 % 16), dg (n / 1048576 % 16), dg (n / 65536 % 16), dg (n / 4096 % 16), dg (n / 256 % 16), dg (n / 16 % 16), dg (n % 16)] = _
      rw [show n / 268435456 % 16 = d0 by omega, show n / 16777216 % 16 = d1 by omega, show n / 1048576 % 16 = d2 by omega, show n / 65536 % 16 = d3 by omega,
        show n / 4096 % 16 = d4 by omega, show n / 256 % 16 = d5 by omega, show n / 16 % 16 = d6 by omega, show n % 16 = d7 by omega]
  · cases h
theorem figs_inj {a b : Nat} (ha : a < 4294967296) (hb : b < 4294967296) (h : (figs a).data.toList = (figs b).data.toList) : a = b := by
  have h1 := takes_figs a ha
  rw [h, takes_figs b hb] at h1
  injection h1 with h1
  exact h1.symm
end Go.Proofs.Ytbondapdjolmiaa
