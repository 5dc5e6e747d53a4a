import Derived.Test.YtbondapdjolmiaaF
import Derived.Test.YtbondapdjolmiaaS
import Derived.Deep.QuietTactic
import Derived.BigQuiet
namespace Go.Proofs.Ytbondapdjolmiaa
open Go.RowKit
def val (c : Nat) : Option Nat := if 48 ≤ c ∧ c ≤ 57 then some (c - 48) else if 97 ≤ c ∧ c ≤ 102 then some (c - 87) else none
def DIG : List UInt8 := [48, 49, 50, 51, 52, 53, 54, 55, 56, 57, 97, 98, 99, 100, 101, 102]
def ix (c : Nat) : Int := match val c with | some d => d | none => -1
theorem val_lt {c d : Nat} (h : val c = some d) : d < 16 := by
  unfold val at h
  split at h
  · injection h; omega
  · split at h
    · injection h; omega
    · cases h
theorem idx_fin : ∀ c : Fin 256, Lib.indexByte DIG (UInt8.ofNat c.val) = ix c.val := by decide +kernel
theorem idx (c : UInt8) : Lib.indexByte DIG c = ix c.toNat := by
  have := idx_fin ⟨c.toNat, c.toNat_lt⟩
  simpa using this
def tk (acc : Nat) : List UInt8 → Option Nat
  | [] => some acc
  | c :: l => match val c.toNat with
    | none => none
    | some d => tk (acc * 16 % 4294967296 + d) l
def takes (l : List UInt8) : Option Nat := if l.length = 8 then tk 0 l else none
def takeV (l : List UInt8) : Value := match takes l with
  | some n => .tuple #[.int .u32 (n : Nat), .bool true]
  | none => .tuple #[.int .u32 0, .bool false]
theorem takeV_len {l : List UInt8} (h : l.length ≠ 8) : takeV l = .tuple #[.int .u32 0, .bool false] := by
  unfold takeV takes; rw [if_neg h]
theorem takeV_some {l : List UInt8} {n : Nat} (hl : l.length = 8) (h : tk 0 l = some n) : takeV l = .tuple #[.int .u32 (n : Nat), .bool true] := by
  unfold takeV takes; rw [if_pos hl, h]
theorem takeV_none {l : List UInt8} (hl : l.length = 8) (h : tk 0 l = none) : takeV l = .tuple #[.int .u32 0, .bool false] := by
  unfold takeV takes; rw [if_pos hl, h]
theorem or4 (x d : Nat) (hx : x < 4294967296) (hd : d < 16) : bits .or .u32 ((x : Int) * 16 % 4294967296) (d : Int) = ((x * 16 % 4294967296 + d : Nat) : Int) := by
  have e : ((x : Int) * 16 % 4294967296) = ((x * 16 % 4294967296 : Nat) : Int) := by omega
  rw [e, u32_or_nat _ _ (Nat.mod_lt _ (by decide)) (by omega), nat_join 4 _ _ (by omega) (by omega)]
theorem index_any (c : UInt8) (w : World) :
    Calls Try.prog 20 #[.string ⟨#[48, 49, 50, 51, 52, 53, 54, 55, 56, 57, 97, 98, 99, 100, 101, 102]⟩, .int .u8 (c.toNat : Int)] w fun e w' => e = .returned (.int .i64 (ix c.toNat)) ∧ w = w' :=
  (strings_IndexByte _ _ w).mono fun _ _ ⟨he, hw⟩ => ⟨by rw [he]; exact ret_int (by rw [← idx c]; simp [DIG]), hw.symm⟩
theorem index_none (c : UInt8) (h : val c.toNat = none) (w : World) :
    Calls Try.prog 20 #[.string ⟨#[48, 49, 50, 51, 52, 53, 54, 55, 56, 57, 97, 98, 99, 100, 101, 102]⟩, .int .u8 (c.toNat : Int)] w fun e w' => e = .returned (.int .i64 (-1)) ∧ w = w' :=
  (index_any c w).mono fun _ _ ⟨he, hw⟩ => ⟨by rw [he, ix, h], hw⟩
theorem index_some (c : UInt8) (d : Nat) (h : val c.toNat = some d) (w : World) :
    Calls Try.prog 20 #[.string ⟨#[48, 49, 50, 51, 52, 53, 54, 55, 56, 57, 97, 98, 99, 100, 101, 102]⟩, .int .u8 (c.toNat : Int)] w fun e w' => e = .returned (.int .i64 (d : Int)) ∧ w = w' :=
  (index_any c w).mono fun _ _ ⟨he, hw⟩ => ⟨by rw [he, ix, h], hw⟩
set_option maxHeartbeats 400000 in
theorem take_any (s : ByteArray) (w : World) (hs : s.size ≤ maxLen) :
    Calls Try.prog 15 #[.string s] w fun e w' => e = .returned (takeV s.data.toList) ∧ w = w' := by
  unfold maxLen at hs
  by_cases h8 : s.size = 8
  · have hb : (!((s.size : Int) == 8)) = false := by simp [h8]
    have hb2 : ((s.size : Int) != 8) = false := by simp [h8]
    have H8 := Lib.hid h8
    have hle : s.size ≤ 8 := by omega
    clear h8
    go_enter Try.func15, Try.ntmps15
    go_wp2_with fail
    go_loop [4, 12] (fun r i => ∃ k x : Nat, k ≤ s.size ∧ x < 4294967296 ∧ i = .int .i64 k ∧ r = .int .u32 (x : Nat) ∧ tk 0 s.data.toList = tk x (s.data.toList.drop k)) (fun _ i => s.size - (intOf i).toNat)
    case atStart => exact ⟨0, 0, by omega, by omega, rfl, rfl, rfl⟩
    case round =>
      obtain ⟨k, x, hk, hx, rfl, rfl, htk⟩ := hrel
      have HT := Lib.hid htk
      clear htk
      by_cases hlt : k < s.size
      · have hsplit : s.data.toList.drop k = s[k] :: s.data.toList.drop (k + 1) := by
          rw [List.drop_eq_getElem_cons (by simpa using hlt)]; rfl
        cases hv : val s[k].toNat with
        | none =>
          have HN : Hid (tk 0 s.data.toList = none) := by
            show _ = _
            rw [HT.out, hsplit, tk, hv]
          clear hsplit
          go_wp2_with fail
          refine (index_none _ hv _).mono ?_
          clear hv
          rintro e w1 ⟨rfl, rfl⟩
          go_wp2_with fail
          go_ret2
          exact ⟨by rw [takeV_none (by simpa using H8.out) HN.out]; rfl, rfl⟩
        | some d =>
          have hd := val_lt hv
          have HN : Hid (tk 0 s.data.toList = tk (x * 16 % 4294967296 + d) (s.data.toList.drop (k + 1))) := by
            show _ = _
            rw [HT.out, hsplit, tk, hv]
          clear hsplit
          have ho := or4 x d hx hd
          go_wp2_with fail
          refine (index_some _ _ hv _).mono ?_
          clear hv
          rintro e w1 ⟨rfl, rfl⟩
          go_wp2_with fail
          go_round
          case rel => exact ⟨k + 1, x * 16 % 4294967296 + d, by omega, by omega, by go_num, rfl, HN.out⟩
          case measure => simp [intOf]; omega
      · have HN : Hid (tk 0 s.data.toList = some x) := by
          show _ = _
          rw [HT.out, List.drop_of_length_le (by simp; omega)]; rfl
        go_wp2
        go_ret2
        exact ⟨by rw [takeV_some (by simpa using H8.out) HN.out]; rfl, rfl⟩
  · have hb : (!((s.size : Int) == 8)) = true := by simp; omega
    have hb2 : ((s.size : Int) != 8) = true := by simp; omega
    go_enter Try.func15, Try.ntmps15
    go_wp2_with fail
    go_ret2
    exact ⟨by rw [takeV_len (by simpa using h8)]; rfl, rfl⟩
end Go.Proofs.Ytbondapdjolmiaa
