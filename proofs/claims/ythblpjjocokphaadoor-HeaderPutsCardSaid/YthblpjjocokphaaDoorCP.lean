/- A check sum, its figures, the sum of figures: plainly. -/
import Derived.Test.YthblpjjocokphaaDoorCA
namespace Go.Proofs.YthblpjjocokphaaDoor.Sm
def cat (ss : List ByteArray) : List UInt8 := ss.flatMap (·.data.toList)
theorem cat_snoc (ss : List ByteArray) (k : Nat) (s : ByteArray) (h : ss[k]? = some s) : cat (ss.take (k + 1)) = cat (ss.take k) ++ s.data.toList := by
  have hk : k < ss.length := by
    rcases Nat.lt_or_ge k ss.length with h' | h'
    · exact h'
    · rw [List.getElem?_eq_none h'] at h; cases h
  rw [List.take_succ_eq_append_getElem hk, cat, List.flatMap_append]
  have : ss[k] = s := by rw [List.getElem?_eq_getElem hk] at h; injection h
  rw [this]
  simp [cat]
def M.add (x : Nat) (l : List UInt8) : Nat := 4294967295 - M.feed (4294967295 - x) l
def M.crc (l : List UInt8) : Nat := 4294967295 - M.feed 4294967295 l
theorem M.add_lt (x : Nat) (l : List UInt8) : M.add x l < 4294967296 := by unfold M.add; omega
theorem M.crc_lt (l : List UInt8) : M.crc l < 4294967296 := by unfold M.crc; omega
theorem M.add_zero (l : List UInt8) : M.add 0 l = M.crc l := rfl
theorem M.add_crc (l r : List UInt8) : M.add (M.crc l) r = M.crc (l ++ r) := by
  have := M.feed_lt l 4294967295 (by decide)
  unfold M.add M.crc
  rw [M.feed_append, show 4294967295 - (4294967295 - M.feed 4294967295 l) = M.feed 4294967295 l by omega]
theorem M.crc_feed (l : List UInt8) : M.feed 4294967295 l = 4294967295 - M.crc l := by
  have := M.feed_lt l 4294967295 (by decide)
  unfold M.crc; omega
def dg (n : Nat) : UInt8 := if n < 10 then UInt8.ofNat (48 + n) else UInt8.ofNat (87 + n)
def figs (x : Nat) : ByteArray := ⟨#[dg (x / 268435456 % 16), dg (x / 16777216 % 16), dg (x / 1048576 % 16), dg (x / 65536 % 16), dg (x / 4096 % 16), dg (x / 256 % 16), dg (x / 16 % 16), dg (x % 16)]⟩
theorem figs_get (x k : Nat) (hk : k < 8) : (figs x).data.toList[k]? = some (dg (x / 16 ^ (7 - k) % 16)) := by
  match k, hk with
  | 0, _ | 1, _ | 2, _ | 3, _ | 4, _ | 5, _ | 6, _ | 7, _ => simp [figs]
  | n + 8, h => omega
theorem figs_step (x k : Nat) (hk : k < 8) : (figs x).data.toList.drop (8 - (k + 1)) = dg (x / 16 ^ k % 16) :: (figs x).data.toList.drop (8 - k) := by
  match k, hk with
  | 0, _ | 1, _ | 2, _ | 3, _ | 4, _ | 5, _ | 6, _ | 7, _ => simp [figs]
  | n + 8, h => omega
def val (c : Nat) : Option Nat := if 48 ≤ c ∧ c ≤ 57 then some (c - 48) else if 97 ≤ c ∧ c ≤ 102 then some (c - 87) else none
def DIG : List UInt8 := [48, 49, 50, 51, 52, 53, 54, 55, 56, 57, 97, 98, 99, 100, 101, 102]
def ix (c : Nat) : Int := match val c with | some d => d | none => -1
theorem val_lt {c d : Nat} (h : val c = some d) : d < 16 := by
  unfold val at h
  split at h
  · injection h; omega
  · split at h
    · injection h; omega
    · cases h
def tk (acc : Nat) : List UInt8 → Option Nat
  | [] => some acc
  | c :: l => match val c.toNat with
    | none => none
    | some d => tk (acc * 16 % 4294967296 + d) l
def takes (l : List UInt8) : Option Nat := if l.length = 8 then tk 0 l else none
theorem dg_val : ∀ (c : Fin 256) (k : Fin 16), ((dg k.val).toNat = c.val) ↔ (val c.val = some k.val) := by decide +kernel

theorem val_dg {n : Nat} (h : n < 16) : val (dg n).toNat = some n := by
  exact (dg_val ⟨(dg n).toNat, (dg n).toNat_lt⟩ ⟨n, h⟩).1 rfl
theorem dg_of_val {c : UInt8} {n : Nat} (h : val c.toNat = some n) : c = dg n := by
  have := (dg_val ⟨c.toNat, c.toNat_lt⟩ ⟨n, val_lt h⟩).2 h
  exact UInt8.toNat_inj.1 this.symm
theorem tk_dg (acc n : Nat) (l : List UInt8) (h : n < 16) : tk acc (dg n :: l) = tk (acc * 16 % 4294967296 + n) l := by
  rw [tk, val_dg h]
theorem takes_figs (x : Nat) (hx : x < 4294967296) : takes (figs x).data.toList = some x := by
  unfold takes
  rw [if_pos (show (figs x).data.toList.length = 8 from rfl)]
  have e : (figs x).data.toList = [dg (x / 268435456 % 16), dg (x / 16777216 % 16), dg (x / 1048576 % 16), dg (x / 65536 % 16), dg (x / 4096 % 16), dg (x / 256 % 16), dg (x / 16 % 16), dg (x % 16)] := rfl
  rw [e, tk_dg _ _ _ (by omega), tk_dg _ _ _ (by omega), tk_dg _ _ _ (by omega), tk_dg _ _ _ (by omega), tk_dg _ _ _ (by omega), tk_dg _ _ _ (by omega), tk_dg _ _ _ (by omega), tk_dg _ _ _ (by omega)]
  rw [show 0 * 16 % 4294967296 + x / 268435456 % 16 = x / 268435456 by omega, show x / 268435456 * 16 % 4294967296 + x / 16777216 % 16 = x / 16777216 by omega,
    show x / 16777216 * 16 % 4294967296 + x / 1048576 % 16 = x / 1048576 by omega, show x / 1048576 * 16 % 4294967296 + x / 65536 % 16 = x / 65536 by omega,
    show x / 65536 * 16 % 4294967296 + x / 4096 % 16 = x / 4096 by omega, show x / 4096 * 16 % 4294967296 + x / 256 % 16 = x / 256 by omega,
    show x / 256 * 16 % 4294967296 + x / 16 % 16 = x / 16 by omega, show x / 16 * 16 % 4294967296 + x % 16 = x by omega]
  rfl
theorem tk_some {acc : Nat} {c : UInt8} {l : List UInt8} {n : Nat} (h : tk acc (c :: l) = some n) : ∃ d, d < 16 ∧ c = dg d ∧ tk (acc * 16 % 4294967296 + d) l = some n := by
  rw [tk] at h
  cases hv : val c.toNat with
  | none => rw [hv] at h; cases h
  | some d => rw [hv] at h; exact ⟨d, val_lt hv, dg_of_val hv, h⟩
theorem figs_takes {l : List UInt8} {n : Nat} (h : takes l = some n) : (figs n).data.toList = l ∧ n < 4294967296 := by
  unfold takes at h
  split at h
  · rename_i hl
    match l, hl with
    | [c0, c1, c2, c3, c4, c5, c6, c7], _ =>
      obtain ⟨d0, h0, rfl, t0⟩ := tk_some h
      obtain ⟨d1, h1, rfl, t1⟩ := tk_some t0
      obtain ⟨d2, h2, rfl, t2⟩ := tk_some t1
      obtain ⟨d3, h3, rfl, t3⟩ := tk_some t2
      obtain ⟨d4, h4, rfl, t4⟩ := tk_some t3
      obtain ⟨d5, h5, rfl, t5⟩ := tk_some t4
      obtain ⟨d6, h6, rfl, t6⟩ := tk_some t5
      obtain ⟨d7, h7, rfl, t7⟩ := tk_some t6
      rw [tk] at t7
      injection t7 with t8
      have e : n = d0 * 268435456 + d1 * 16777216 + d2 * 1048576 + d3 * 65536 + d4 * 4096 + d5 * 256 + d6 * 16 + d7 := by
        rw [← t8]
        rw [show 0 * 16 % 4294967296 + d0 = d0 by omega, show d0 * 16 % 4294967296 = d0 * 16 by omega, show (d0 * 16 + d1) * 16 % 4294967296 = (d0 * 16 + d1) * 16 by omega,
          show ((d0 * 16 + d1) * 16 + d2) * 16 % 4294967296 = ((d0 * 16 + d1) * 16 + d2) * 16 by omega]
        omega
      refine ⟨?_, by omega⟩
      show [dg (n / 268435456 % 16), dg (n / 16777216 % 16), dg (n / 1048576 % 16), dg (n / 65536 % 16), dg (n / 4096 % 16), dg (n / 256 % 16), dg (n / 16 % 16), dg (n % 16)] = _
      rw [show n / 268435456 % 16 = d0 by omega, show n / 16777216 % 16 = d1 by omega, show n / 1048576 % 16 = d2 by omega, show n / 65536 % 16 = d3 by omega,
        show n / 4096 % 16 = d4 by omega, show n / 256 % 16 = d5 by omega, show n / 16 % 16 = d6 by omega, show n % 16 = d7 by omega]
  · cases h
theorem figs_inj {a b : Nat} (ha : a < 4294967296) (hb : b < 4294967296) (h : (figs a).data.toList = (figs b).data.toList) : a = b := by
  have h1 := takes_figs a ha
  rw [h, takes_figs b hb] at h1
  injection h1 with h1
  exact h1.symm

theorem toList_of {a b : ByteArray} (h : a.data.toList = b.data.toList) : a = b := by
  apply ByteArray.ext
  exact Array.toList_inj.1 h
end Go.Proofs.YthblpjjocokphaaDoor.Sm
