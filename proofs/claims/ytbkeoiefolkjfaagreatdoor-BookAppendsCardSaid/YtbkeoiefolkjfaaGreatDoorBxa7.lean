/- Texts put together: DK, DL, WE, WF, FA, FB, FC, FD. -/
import Derived.Shelf.Strings.SlTrimAscii
import Derived.Test.YtbkeoiefolkjfaaGreatDoorBxa1
import Derived.Test.YtbkeoiefolkjfaaGreatDoorBxa5
import Derived.Test.YtbkeoiefolkjfaaGreatDoorBxa6
set_option linter.unusedVariables false
set_option maxRecDepth 100000
set_option maxHeartbeats 16000000
namespace Go.Proofs.YtbkeoiefolkjfaaGreatDoor.Fr
open Go.RowKit Go.Shelf
attribute [local go_sem] Oper.semAt_some
theorem byteT {c : UInt8} (d : UInt8) (n : Int) (hn : (d.toNat : Int) = n) : ((c.toNat : Int) == n) = (c == d) := by
 by_cases h : c = d
 ·subst h; simp [hn]
 have : (c.toNat : Int) ≠ n := by intro e; apply h; apply UInt8.toNat_inj.1; omega
 rw [beq_eq_false_iff_ne.2 this]; simp [h]
theorem fresh_take {s : ByteArray} {m : Nat} (h : m < s.size) : fresh true (s.data.toList.take (m + 1)) = (s[m] == 10) := by
 rw [Sm.take_snoc s m h]
 unfold fresh
 simp
theorem sp_take {s : ByteArray} {k : Nat} (h : k < s.size) : sp true (s.data.toList.take (k + 1)) = (sp true (s.data.toList.take k) && (!fresh true (s.data.toList.take k) || s[k] == 32)) := by
 rw [Sm.take_snoc s k h, sp_append]
 simp [sp]
theorem sp_no {s : ByteArray} {k : Nat} (h : sp true (s.data.toList.take k) = false) : sp true s.data.toList = false := by
 rw [<- List.take_append_drop k s.data.toList, sp_append, h]; rfl
theorem reflines_any (s : ByteArray) (hs : s.size <= 1000000) (w : World) :
  Calls Tryz.prog 74 #[.string s] w fun e w' => e = .returned (.bool (sp true s.data.toList)) /\ w' = w := by
 go_enter Tryz.func74, Tryz.ntmps74
 go_wp2_with fail
 go_loop [3] (fun i => ∃ k : Nat, k <= s.size /\ i = .int .i64 k /\ sp true (s.data.toList.take k) = true) (fun i => s.size - (intOf i).toNat)
 case atStart => exact ⟨0, Nat.zero_le _, rfl, rfl⟩
 case round =>
 obtain ⟨k, hk, rfl, hsp⟩ := hrel
 by_cases hlt : k < s.size
 ·have hst := sp_take hlt
  rw [hsp, Bool.true_and] at hst
  have c2 := byteT (c := s[k]) 32 32 rfl
  by_cases hk0 : k = 0
  ·subst hk0
   have hf : fresh true (s.data.toList.take 0) = true := rfl
   rw [hf] at hst
   have HST := Lib.hid hst
   clear hst hf hsp
   cases hc : (s[0] == 32) with
   | true =>
    rw [hc] at c2
    go_wp2_with fail
    go_round
    case rel => exact ⟨1, by omega, by go_num, by rw [HST.out, hc]; rfl⟩
    case measure => simp [intOf]; omega
   | false =>
   rw [hc] at c2
   have HN := Lib.hid (sp_no (s := s) (k := 1) (by rw [HST.out, hc]; rfl))
   go_wp2_with fail
   go_ret
   exact ⟨by rw [HN.out]; rfl, rfl⟩
  obtain ⟨m, rfl⟩ : ∃ m, k = m + 1 := ⟨k - 1, by omega⟩
  have hm : m < s.size := by omega
  rw [fresh_take hm] at hst
  have c1 := byteT (c := s[m]) 10 10 rfl
  have HST := Lib.hid hst
  clear hst hsp
  have wm : IntKind.i64.wrap (m : Int) = m := IntWalk.i64_in _ (by omega)
  have m0 : (0 : Int) <= m := by omega
  have q0 : (((m : Int) + 1) == 0) = false := by rw [beq_eq_false_iff_ne]; omega
  cases hd : (s[m] == 10) with
  | false =>
   rw [hd] at c1
   have HN : Hid (sp true (s.data.toList.take (m + 1 + 1)) = true) := by show _ = _; rw [HST.out, hd]; rfl
   clear hd
   go_wp2_with fail
   go_round
   case rel => exact ⟨m + 1 + 1, by omega, by go_num, HN.out⟩
   case measure => simp [intOf]; omega
  | true =>
  rw [hd] at c1
  cases hc : (s[m + 1] == 32) with
  | true =>
   rw [hc] at c2
   have HN : Hid (sp true (s.data.toList.take (m + 1 + 1)) = true) := by show _ = _; rw [HST.out, hd, hc]; rfl
   clear hd hc
   go_wp2_with fail
   go_round
   case rel => exact ⟨m + 1 + 1, by omega, by go_num, HN.out⟩
   case measure => simp [intOf]; omega
  | false =>
  rw [hc] at c2
  have HN := Lib.hid (sp_no (s := s) (k := m + 1 + 1) (by rw [HST.out, hd, hc]; rfl))
  clear hd hc
  go_wp2_with fail
  go_ret
  exact ⟨by rw [HN.out]; rfl, rfl⟩
 have : k = s.size := by omega
 subst this
 have HE : Hid (sp true s.data.toList = true) := by
  show _ = _
  rw [List.take_of_length_le (by simp)] at hsp
  exact hsp
 go_wp2_with fail
 go_ret
 exact ⟨by rw [HE.out]; rfl, rfl⟩
theorem begins11_any (l p : List UInt8) (hl : l.length <= 1000000) (hp : p.length <= 1000) (w : World) :
  Calls Tryz.prog 71 #[.string (B l), .string (B p)] w fun e w' => e = .returned (.bool (Lib.hasPrefix l p)) /\ w' = w := by
 have bl := B_size l
 have bp := B_size p
 have hx : (B l).extract 0 (B p).size = B (l.take p.length) := by
  apply ByteArray.ext
  apply Array.toList_inj.1
  rw [Lib.extract_data, List.drop_zero, Nat.sub_zero, B_data, B_data, bp]
 by_cases hle : p.length <= l.length
 ·have q0 : decide (((B p).size : Int) <= ((B l).size : Int)) = true := by simp; omega
  have hb : ((B (l.take p.length)).toList == (B p).toList) = Lib.hasPrefix l p := by
   rw [Bool.eq_iff_iff]
   unfold Lib.hasPrefix
   rw [List.isPrefixOf_iff_prefix, List.prefix_iff_eq_take, beq_iff_eq, Lib.toList_data, Lib.toList_data, B_data, B_data]
   exact eq_comm
  generalize Lib.hasPrefix l p = q at *
  generalize B (l.take p.length) = V at *
  generalize B l = X at *
  generalize B p = Y at *
  go_enter Tryz.func71, Tryz.ntmps71
  go_wp2_with fail
  go_ret
  exact ⟨by rw [<- hb, <- hx, bp]; rfl, rfl⟩
 have q0 : decide (((B p).size : Int) <= ((B l).size : Int)) = false := by simp; omega
 have hb : Lib.hasPrefix l p = false := by
  cases q : Lib.hasPrefix l p with
  | false => rfl
  | true =>
  unfold Lib.hasPrefix at q
  have := (List.isPrefixOf_iff_prefix.1 q).length_le
  omega
 rw [hb]
 generalize B l = X at *
 generalize B p = Y at *
 go_enter Tryz.func71, Tryz.ntmps71
 go_wp2_with fail
 go_ret
 exact ⟨rfl, rfl⟩
theorem begins_iff {l p : List UInt8} : Lib.hasPrefix l p = true ↔ ∃ q, l = p ++ q := by
 unfold Lib.hasPrefix
 rw [List.isPrefixOf_iff_prefix]
 exact ⟨fun ⟨q, h⟩ => ⟨q, h.symm⟩, fun ⟨q, h⟩ => ⟨q, h.symm⟩⟩
theorem beginning_any (l p : List UInt8) (hl : l.length <= 1000) (hp : p.length <= 1000) (w : World) :
  Calls Tryz.prog 70 #[.string (B l), .string (B p)] w fun e w' => e = .returned (.bool (Lib.hasPrefix p l)) /\ w' = w := by
 have B1 := Lib.hid (begins11_any p l (by omega) hl w)
 go_enter Tryz.func70, Tryz.ntmps70
 go_wp2_with fail
 refine B1.out.mono ?_
 rintro e w1 ⟨rfl, rfl⟩
 go_wp2_with fail
 go_ret
 exact ⟨rfl, rfl⟩
theorem refGood_any (s : ByteArray) (hs : s.size <= 1000000) (w : World) :
  Calls Tryz.prog 75 #[.string s] w fun e w' => e = .returned (.bool (goodR s.data.toList)) /\ w' = w := by
 have hg : goodR s.data.toList = (decide (2 <= s.size) && decide (s.size <= 50000) && lastNl s.data.toList && sp true s.data.toList) := by unfold goodR; rw [<- Lib.size_eq]
 have L1 := Lib.hid (reflines_any s hs)
 rw [hg]
 clear hg
 by_cases h2 : 2 <= s.size
 ·have q2 : (2 : Int) <= s.size := by omega
  by_cases h5 : s.size <= 50000
  ·have q5 : (s.size : Int) <= 50000 := by omega
   have e2 : decide (2 <= s.size) = true := by simpa using h2
   have e5 : decide (s.size <= 50000) = true := by simpa using h5
   have wm : IntKind.i64.wrap ((s.size : Int) - 1) = ((s.size - 1 : Nat) : Int) := by rw [show (s.size : Int) - 1 = ((s.size - 1 : Nat) : Int) by omega]; exact IntWalk.i64_in _ (by omega)
   have hl : lastNl s.data.toList = (s[s.size - 1] == 10) := by
    unfold lastNl
    rw [List.getLast?_eq_getElem?, <- Lib.size_eq, List.getElem?_eq_getElem (by rw [<- Lib.size_eq]; omega)]
    simp
    rfl
   have c1 := byteT (c := s[s.size - 1]) 10 10 rfl
   rw [e2, e5, hl]
   generalize sp true s.data.toList = z at *
   clear hl e2 e5
   have hs1 : s.size - 1 < s.size := by omega
   obtain ⟨m, hm⟩ : ∃ m, s.size - 1 = m := ⟨_, rfl⟩
   have key : ∀ (m : Nat) (h : m < s.size), s.size - 1 = m -> (s[s.size - 1] = s[m]) := fun m h e => by subst e; rfl
   rw [hm] at wm hs1
   have hk := key m hs1 hm
   rw [hk] at c1 ⊢
   clear key hk
   have hmz : (m : Int) < s.size := by omega
   clear hm
   cases hc : (s[m] == 10) with
   | true =>
    rw [hc] at c1
    clear hc
    go_enter Tryz.func75, Tryz.ntmps75
    go_wp2_with fail
    refine (L1.out _).mono ?_
    rintro e w1 ⟨rfl, rfl⟩
    go_wp2_with fail
    go_ret
    exact ⟨by simp, rfl⟩
   | false =>
   rw [hc] at c1
   clear hc
   go_enter Tryz.func75, Tryz.ntmps75
   go_wp2_with fail
   go_ret
   exact ⟨by simp, rfl⟩
  have q5 : ¬ (s.size : Int) <= 50000 := by omega
  have e5 : decide (s.size <= 50000) = false := by simpa using h5
  rw [e5]
  go_enter Tryz.func75, Tryz.ntmps75
  go_wp2_with fail
  go_ret
  exact ⟨by simp, rfl⟩
 have q2 : ¬ (2 : Int) <= s.size := by omega
 have e2 : decide (2 <= s.size) = false := by simpa using h2
 rw [e2]
 go_enter Tryz.func75, Tryz.ntmps75
 go_wp2_with fail
 go_ret
 exact ⟨by simp, rfl⟩
theorem refFigures_nat (n : Nat) (hn : n <= 9223372036854775807) (w : World) : Calls Tryz.prog 82 #[.int .i64 (n : Int)] w fun e w' => e = .returned (.string (B (Lib.decDigits n))) /\ w' = w := by
 have := figures_any (n : Int) (by unfold I64; omega) w
 rwa [Lib.itoa_nonneg] at this
theorem around_any (n : Nat) (hn : n <= 50000) (f : List UInt8) (hf : f.length <= 1000000) (w : World) :
  Calls Tryz.prog 76 #[.int .i64 (n : Int), .string (B f)] w fun e w' => e = .returned (.tuple #[.string (B (headR n f ++ [10])), .string (B (footR n))]) /\ w' = w := by
 have IT := Lib.hid (fun w => refFigures_nat n (by omega) w)
 have E1 : Hid ((⟨#[37, 97, 109, 101, 110, 100, 32]⟩ : ByteArray) ++ B (Lib.decDigits n) ++ ⟨#[32]⟩ ++ B f ++ ⟨#[10]⟩ = B (headR n f ++ [10])) := by
  show _ = _
  rw [show (⟨#[37, 97, 109, 101, 110, 100, 32]⟩ : ByteArray) = B AMD from rfl, show (⟨#[32]⟩ : ByteArray) = B [32] from rfl, show (⟨#[10]⟩ : ByteArray) = B [10] from rfl, B_append, B_append, B_append, B_append]
  unfold headR; simp
 have E2 : Hid ((⟨#[37, 101, 110, 100, 32]⟩ : ByteArray) ++ B (Lib.decDigits n) ++ ⟨#[10]⟩ = B (footR n)) := by
  show _ = _
  rw [show (⟨#[37, 101, 110, 100, 32]⟩ : ByteArray) = B END from rfl, show (⟨#[10]⟩ : ByteArray) = B [10] from rfl, B_append, B_append]
  unfold footR; simp
 have hs := dec_size n (by omega)
 have hfs : (B f).size <= 1000000 := by rw [B_size]; exact hf
 generalize B (Lib.decDigits n) = d at *
 generalize B f = g at *
 have s1 : ((⟨#[37, 97, 109, 101, 110, 100, 32]⟩ : ByteArray) ++ d).size <= 27 := by rw [ByteArray.size_append]; show 7 + _ <= _; omega
 have s2 : ((⟨#[37, 97, 109, 101, 110, 100, 32]⟩ : ByteArray) ++ d ++ ⟨#[32]⟩).size <= 28 := by rw [ByteArray.size_append]; show _ + 1 <= _; omega
 have s3 : ((⟨#[37, 97, 109, 101, 110, 100, 32]⟩ : ByteArray) ++ d ++ ⟨#[32]⟩ ++ g).size <= 1000028 := by rw [ByteArray.size_append]; omega
 have s4 : ((⟨#[37, 101, 110, 100, 32]⟩ : ByteArray) ++ d).size <= 25 := by rw [ByteArray.size_append]; show 5 + _ <= _; omega
 go_enter Tryz.func76, Tryz.ntmps76
 go_wp2_with fail
 refine (IT.out _).mono ?_
 rintro e w1 ⟨rfl, rfl⟩
 go_wp2_with fail
 refine (IT.out _).mono ?_
 rintro e w1 ⟨rfl, rfl⟩
 go_wp2_with fail
 go_ret2
 exact ⟨by rw [<- E1.out, <- E2.out]; rfl, rfl⟩
theorem refRecord_any (l : List UInt8) (hl : l.length <= 50000) (w : World) :
  Calls Tryz.prog 48 #[.string (B l)] w fun e w' => e = .returned (.string (B (fullR l))) /\ Below w.heap.size w w' := by
 have bl := B_size l
 have S1 := Lib.hid (fun w => Sm.refSum_any (B l) w (by rw [bl]; unfold maxLen; omega))
 simp only [B_data] at S1
 have F1 := Lib.hid (fun w => Sm.refFigures_any (Sm.M.crc l) (Sm.M.crc_lt l) w)
 have eF : Sm.figs (Sm.M.crc l) = B (figsB l) := (B_of _).symm
 simp only [eF] at F1
 have A1 := Lib.hid (fun w => around_any l.length hl (figsB l) (by rw [fig_len (figsB_ok l)]; omega) w)
 have hh : (headR l.length (figsB l)).length <= 30 := by
  have := fig_len (figsB_ok l)
  have := dec_len5 (show l.length <= 99999 by omega)
  unfold headR AMD; simp; omega
 have E1 : Hid (B (headR l.length (figsB l) ++ [10]) ++ B l ++ B (footR l.length) = B (fullR l)) := by
  show _ = _
  rw [B_append, B_append]
  congr 1
  unfold fullR; rw [rec_def]; simp
 have s1 : (B (headR l.length (figsB l) ++ [10])).size <= 31 := by rw [B_size]; simp; omega
 have s0 : (B l).size <= 50000 := by omega
 have s3 : (B (headR l.length (figsB l) ++ [10]) ++ B l).size <= 60000 := by rw [ByteArray.size_append]; omega
 have s4 : (B (footR l.length)).size <= 30 := by
  have := dec_len5 (show l.length <= 99999 by omega)
  rw [B_size]; unfold footR END; simp; omega
 generalize B (headR l.length (figsB l) ++ [10]) = X at *
 generalize B (footR l.length) = Y at *
 generalize B (figsB l) = Z at *
 rw [<- bl] at A1
 generalize hL : B l = L at *
 clear hL bl hh
 go_enter Tryz.func48, Tryz.ntmps48
 go_wp2_with fail
 refine (S1.out _).mono ?_
 rintro e w2 ⟨rfl, rfl⟩
 go_wp2_with fail
 refine (F1.out _).mono ?_
 rintro e w3 ⟨rfl, rfl⟩
 go_wp2_with fail
 refine (A1.out _).mono ?_
 rintro e w4 ⟨rfl, rfl⟩
 go_wp2_with fail
 go_ret
 exact ⟨by rw [<- E1.out]; rfl, Below.refl _ _⟩
theorem refLength_any (n : Int) (w : World) :
  Calls Tryz.prog 47 #[.int .i64 n] w fun e w' => e = .returned (.int .i64 (lenR n)) /\ w' = w := by
 by_cases h2 : 2 <= n
 ·have q2 : ¬ n < 2 := by omega
  by_cases h5 : n <= 50000
  ·have q5 : ¬ 50000 < n := by omega
   obtain ⟨k, rfl⟩ : ∃ k : Nat, n = k := ⟨n.toNat, by omega⟩
   have e0 : lenR k = ((headR k zeros ++ [10]).length : Int) + k + ((footR k).length : Int) := by unfold lenR; rw [if_pos ⟨h2, h5⟩]; simp
   rw [e0]
   have A1 := Lib.hid (fun w => around_any k (by omega) zeros (by decide) w)
   have hl5 := dec_len5 (show k <= 99999 by omega)
   have hh2 : (B (headR k zeros ++ [10])).size <= 31 := by rw [B_size]; unfold headR AMD zeros; simp; omega
   have hf2 : (B (footR k)).size <= 30 := by rw [B_size]; unfold footR END; simp; omega
   rw [<- B_size, <- B_size]
   have zs : (⟨#[48, 48, 48, 48, 48, 48, 48, 48]⟩ : ByteArray) = B zeros := rfl
   generalize B (headR k zeros ++ [10]) = X at *
   generalize B (footR k) = Y at *
   clear e0 hl5
   have w1 : IntKind.i64.wrap ((X.size : Int) + k) = (X.size : Int) + k := IntWalk.i64_in _ (by omega)
   have w2 : IntKind.i64.wrap ((X.size : Int) + k + (Y.size : Int)) = (X.size : Int) + k + (Y.size : Int) := IntWalk.i64_in _ (by omega)
   go_enter Tryz.func47, Tryz.ntmps47
   rw [zs]
   go_wp2_with fail
   refine (A1.out _).mono ?_
   rintro e w1 ⟨rfl, rfl⟩
   go_wp2_with fail
   go_ret
   exact ⟨rfl, rfl⟩
  have q5 : 50000 < n := by omega
  have e0 : lenR n = 0 := by unfold lenR; rw [if_neg (by omega)]
  rw [e0]
  go_enter Tryz.func47, Tryz.ntmps47
  go_wp2_with fail
  go_ret
  exact ⟨rfl, rfl⟩
 have q2 : n < 2 := by omega
 have e0 : lenR n = 0 := by unfold lenR; rw [if_neg (by omega)]
 rw [e0]
 go_enter Tryz.func47, Tryz.ntmps47
 go_wp2_with fail
 go_ret
 exact ⟨rfl, rfl⟩
end Go.Proofs.YtbkeoiefolkjfaaGreatDoor.Fr
namespace Go.Proofs.YtbkeoiefolkjfaaGreatDoor.Fr
open Go.RowKit Go.Shelf
attribute [local go_sem] Oper.semAt_some
def b3 : List UInt8 := [32, 97, 10]
theorem len_full {b : List UInt8} (hg : goodR b = true) : lenR (b.length : Int) = ((fullR b).length : Int) := by
 obtain ⟨h2, h5, _, _⟩ := good_iff.1 hg
 have := fig_len (figsB_ok b)
 unfold lenR
 rw [if_pos (by omega)]
 unfold fullR; rw [rec_def]
 have z8 : zeros.length = 8 := rfl
 unfold headR
 simp only [List.length_append, List.length_cons, Int.toNat_natCast, z8, this]
 omega
end Go.Proofs.YtbkeoiefolkjfaaGreatDoor.Fr
namespace Go.Proofs.YtbkeoiefolkjfaaGreatDoor
open Go.RowKit Go.Shelf
theorem ne_of_cons {s : ByteArray} {c : UInt8} {t : List UInt8} (h : s.data.toList = c :: t) : s.toList.isEmpty = false /\ ¬ s.toList = [] /\ 1 <= s.size := by
 rw [Lib.toList_data, h]
 exact ⟨rfl, by simp, by rw [Lib.size_eq, h]; simp⟩
theorem empty_of {s : ByteArray} (h : s.data.toList = []) : s = ⟨#[]⟩ := by
 rw [<- Lib.mk_data s, h]
theorem ind_blank (c : UInt8) : decide (0 <= Lib.indexByte [32, 9] c) = blankB c := by
 unfold blankB
 by_cases h1 : c = 32
 ·subst h1; decide
 by_cases h2 : c = 9
 ·subst h2; decide
 have a : ((32 : UInt8) == c) = false := by simp [Ne.symm h1]
 have b : ((9 : UInt8) == c) = false := by simp [Ne.symm h2]
 simp [Lib.indexByte, a, b, h1, h2]
theorem ind_has (l : List UInt8) (c : UInt8) : decide (0 <= Lib.indexByte l c) = l.contains c := by
 rcases indexByte_cases l c with ⟨h1, h2⟩ | ⟨h1, h2⟩
 ·rw [h1]; simp [h2]
 rw [h1]; simp [h2]
theorem pre_hash (l : List UInt8) : Lib.hasPrefix l [35] = hashB l := by
 unfold Lib.hasPrefix hashB
 cases l with
 | nil => rfl
 | cons a t => simp [List.isPrefixOf, Bool.beq_comm]
theorem begins_no (w : World) :
  Calls Tryz.prog 136 #[.string ⟨#[]⟩] w fun e w' => e = .returned (.bool false) /\ w = w' := by
 go_enter Tryz.func136, Tryz.ntmps136
 go_wp2
 go_ret
 exact ⟨rfl, rfl⟩
theorem begins_yes (s : ByteArray) (c : UInt8) (t : List UInt8) (h : s.data.toList = c :: t) (hs : s.size <= maxLen) (w : World) :
  Calls Tryz.prog 136 #[.string s] w fun e w' => e = .returned (.bool (blankB c)) /\ w = w' := by
 have hz : 1 <= s.size := by rw [Lib.size_eq, h]; simp
 have e1 : s.extract 0 1 = ⟨#[c]⟩ := by
  have := Lib.extract_data s 0 1
  rw [h] at this
  rw [<- Lib.mk_data (s.extract 0 1), this]; rfl
 obtain ⟨n1, n2, n3⟩ := ne_of_cons h
 clear h
 unfold maxLen at hs
 go_enter Tryz.func136, Tryz.ntmps136
 go_wp2_with fail
 refine (Tryz.strings_Contains_one ⟨#[32, 9]⟩ c _).mono ?_
 rw [show (⟨#[32, 9]⟩ : ByteArray).data.toList = [32, 9] from rfl, ind_blank]
 rintro e w' ⟨rfl, rfl⟩
 go_wp2
 go_ret
 exact ⟨rfl, rfl⟩
theorem begins_any (s : ByteArray) (hs : s.size <= maxLen) (w : World) :
  Calls Tryz.prog 136 #[.string s] w fun e w' => e = .returned (.bool (beginsB s.data.toList)) /\ w = w' := by
 cases h : s.data.toList with
 | nil => rw [empty_of h]; exact begins_no w
 | cons c t => exact begins_yes s c t h hs w
theorem has_any (s : ByteArray) (c : UInt8) (w : World) :
  Calls Tryz.prog 134 #[.string s, .string ⟨#[c]⟩] w fun e w' => e = .returned (.bool (hasB s.data.toList c)) /\ w = w' := by
 refine (Tryz.strings_Contains_one s c _).mono ?_
 rw [ind_has]
 rintro e w' ⟨rfl, rfl⟩
 exact ⟨rfl, rfl⟩
theorem hash_any (s : ByteArray) (w : World) :
  Calls Tryz.prog 61 #[.string s, .string ⟨#[35]⟩] w fun e w' => e = .returned (.bool (hashB s.data.toList)) /\ w = w' := by
 refine (Tryz.strings_HasPrefix s ⟨#[35]⟩ _).mono ?_
 rw [show (⟨#[35]⟩ : ByteArray).data.toList = [35] from rfl, pre_hash]
 rintro e w' ⟨rfl, rfl⟩
 exact ⟨rfl, rfl⟩
theorem trim_any (s : ByteArray) (hs : s.size <= 9223372036854775807) (w : World) :
  Calls Tryz.prog 135 #[.string s, .string ⟨#[32, 9]⟩] w fun e w' => e = .returned (.string ⟨(Lib.trimS s.data.toList [32, 9]).toArray⟩) /\ Below w.heap.size w w' :=
 Any.strings_Trim_laid Tryz.lays160 (by kernel_rfl) s ⟨#[32, 9]⟩ w hs (by decide) (ascii_of_all (by decide))
theorem key_any (s : ByteArray) (hs : s.size <= maxLen) (w : World) :
  Calls Tryz.prog 137 #[.string s] w fun e w' => e = .returned (.bool (goodKey s.data.toList)) /\ w = w' := by
 cases h : s.data.toList with
 | nil =>
  rw [empty_of h]
  go_enter Tryz.func137, Tryz.ntmps137
  go_wp2
  go_ret
  exact ⟨rfl, rfl⟩
 | cons c t =>
 rw [<- h]
 obtain ⟨n1, n2, n3⟩ := ne_of_cons h
 clear h
 have n4 : 1 <= s.data.toList.length := by rw [<- Lib.size_eq]; exact n3
 have n5 := Lib.size_eq s
 have g1 := begins_any s hs
 unfold maxLen at hs
 by_cases h1 : s.size <= 32
 ·rw [n5] at h1
  have e1 : goodKey s.data.toList = (!beginsB s.data.toList && !hashB s.data.toList && !hasB s.data.toList 58 && !hasB s.data.toList 10) := by
   unfold goodKey; rw [decide_eq_true n4, decide_eq_true h1]; simp
  rw [e1]
  rw [<- n5] at h1
  clear n5 n4 e1
  cases h2 : beginsB s.data.toList with
  | true =>
   go_enter Tryz.func137, Tryz.ntmps137
   go_wp2_with (go_at_call 136; refine (g1 _).mono ?_; rw [h2]; rintro e w1 ⟨rfl, rfl⟩)
   go_ret
   exact ⟨rfl, rfl⟩
  | false =>
  cases h3 : hashB s.data.toList with
  | true =>
   go_enter Tryz.func137, Tryz.ntmps137
   go_wp2_with (first | (go_at_call 136; refine (g1 _).mono ?_; rw [h2]; rintro e w1 ⟨rfl, rfl⟩) | (go_at_call 61; refine (hash_any _ _).mono ?_; rw [h3]; rintro e w1 ⟨rfl, rfl⟩))
   go_ret
   exact ⟨rfl, rfl⟩
  | false =>
  cases h4 : hasB s.data.toList 58 with
  | true =>
   go_enter Tryz.func137, Tryz.ntmps137
   go_wp2_with (first | (go_at_call 136; refine (g1 _).mono ?_; rw [h2]; rintro e w1 ⟨rfl, rfl⟩) | (go_at_call 61; refine (hash_any _ _).mono ?_; rw [h3]; rintro e w1 ⟨rfl, rfl⟩) | (go_at_call 134; refine (has_any _ _ _).mono ?_; rw [h4]; rintro e w1 ⟨rfl, rfl⟩))
   go_ret
   exact ⟨rfl, rfl⟩
  | false =>
  cases h5 : hasB s.data.toList 10
  all_goals
   go_enter Tryz.func137, Tryz.ntmps137
   go_wp2_with (first | (go_at_call 136; refine (g1 _).mono ?_; rw [h2]; rintro e w1 ⟨rfl, rfl⟩) | (go_at_call 61; refine (hash_any _ _).mono ?_; rw [h3]; rintro e w1 ⟨rfl, rfl⟩) | (go_at_call 134; refine (has_any _ _ _).mono ?_; (first | rw [h4] | rw [h5]); rintro e w1 ⟨rfl, rfl⟩))
   go_ret
   exact ⟨rfl, rfl⟩
 have e1 : goodKey s.data.toList = false := by
  unfold goodKey; rw [<- n5, decide_eq_false h1]; simp
 rw [e1]
 have h1' : 32 < s.size := by omega
 clear n5 n4 e1
 go_enter Tryz.func137, Tryz.ntmps137
 go_wp2
 go_ret
 exact ⟨rfl, rfl⟩
end Go.Proofs.YtbkeoiefolkjfaaGreatDoor
namespace Go.Proofs.YtbkeoiefolkjfaaGreatDoor
open Go.RowKit Go.Shelf
theorem Below.drewN {B : Nat} {a w : World} (h : Below B a w) (n : Nat) : Below B a (w.drewN n) := ⟨h.os, h.tape, h.output, h.size, h.block⟩
def trimmed (s : ByteArray) : ByteArray := ⟨(Lib.trimS s.data.toList [32, 9]).toArray⟩
def preS (s : ByteArray) : ByteArray := s.extract 0 (before s.data.toList).length
def postS (s : ByteArray) : ByteArray := s.extract ((before s.data.toList).length + 1) s.size
theorem blank_contains (c : UInt8) : ([32, 9] : List UInt8).contains c = blankB c := by
 unfold blankB
 by_cases h1 : c = 32
 ·subst h1; rfl
 by_cases h2 : c = 9
 ·subst h2; rfl
 simp [h1, h2]
theorem dropWhile_nil {p : UInt8 -> Bool} : ∀ {l : List UInt8}, l.dropWhile p = [] ↔ l.all p = true
 | [] => by simp
 | a :: l => by
  rw [List.dropWhile_cons]
  cases h : p a <;> simp [h, dropWhile_nil]
theorem trim_nil (l : List UInt8) : Lib.trimS l [32, 9] = [] ↔ blankAll l = true := by
 have e : (fun c => ([32, 9] : List UInt8).contains c) = blankB := funext blank_contains
 unfold Lib.trimS Lib.trimLeftS Lib.trimRightS blankAll
 rw [e, dropWhile_nil, List.all_reverse]
 constructor
 ·intro h
  have h2 : (l.reverse.takeWhile blankB ++ l.reverse.dropWhile blankB).all blankB = true := by rw [List.all_append, h, List.all_takeWhile]; rfl
  rw [List.takeWhile_append_dropWhile, List.all_reverse] at h2
  exact h2
 intro h
 have : l.reverse.dropWhile blankB = [] := dropWhile_nil.2 (by rw [List.all_reverse]; exact h)
 rw [this]; rfl
theorem trim_yes (s : ByteArray) (hs : s.size <= 9223372036854775807) (h : blankAll s.data.toList = true) (w : World) :
  Calls Tryz.prog 135 #[.string s, .string ⟨#[32, 9]⟩] w fun e w' => e = .returned (.string ⟨#[]⟩) /\ Below w.heap.size w w' := by
 have := trim_any s hs w
 rwa [(trim_nil _).2 h] at this
theorem trim_no (s : ByteArray) (hs : s.size <= 9223372036854775807) (w : World) :
  Calls Tryz.prog 135 #[.string s, .string ⟨#[32, 9]⟩] w fun e w' => e = .returned (.string (trimmed s)) /\ Below w.heap.size w w' := trim_any s hs w
theorem trimmed_ne (s : ByteArray) (h : blankAll s.data.toList = false) : (trimmed s).toList.isEmpty = false /\ ¬ (trimmed s).toList = [] := by
 have : Lib.trimS s.data.toList [32, 9] ≠ [] := fun e => by rw [(trim_nil _).1 e] at h; cases h
 have e : (trimmed s).toList = Lib.trimS s.data.toList [32, 9] := by rw [Lib.toList_data]; rfl
 rw [e]
 exact ⟨by simpa using this, this⟩
theorem preS_data (s : ByteArray) : (preS s).data.toList = before s.data.toList := by
 unfold preS
 rw [Lib.extract_data, List.drop_zero, Nat.sub_zero]
 exact (List.prefix_iff_eq_take.1 (List.takeWhile_prefix _)).symm
theorem preS_size (s : ByteArray) : (preS s).size <= s.size := by
 rw [Lib.size_eq, preS_data, Lib.size_eq]
 exact (List.takeWhile_prefix _).length_le
theorem colon_yes (s : ByteArray) (w : World) (hs : s.size <= maxLen) (h : hasB s.data.toList 58 = true) :
  Calls Tryz.prog 56 #[.string s, .string ⟨#[58]⟩] w fun e w' => e = .returned (.tuple #[.string (preS s), .string (postS s), .bool true]) /\ ∃ n, w' = w.drewN n :=
 cut_yes s 58 w hs (by unfold hasB at h; simpa using h)
theorem colon_no (s : ByteArray) (w : World) (h : hasB s.data.toList 58 = false) :
  Calls Tryz.prog 56 #[.string s, .string ⟨#[58]⟩] w fun e w' => e = .returned (.tuple #[.string s, .string ⟨#[]⟩, .bool false]) /\ ∃ n, w' = w.drewN n :=
 cut_no s 58 w (by unfold hasB at h; simpa using h)
theorem keyPre_any (s : ByteArray) (hs : s.size <= maxLen) (w : World) :
  Calls Tryz.prog 137 #[.string (preS s)] w fun e w' => e = .returned (.bool (goodKey (before s.data.toList))) /\ w = w' := by
 have := key_any (preS s) (Nat.le_trans (preS_size s) hs) w
 rwa [preS_data] at this
theorem kind_any (s : ByteArray) (hs : s.size <= maxLen) (w : World) :
  Calls Tryz.prog 100 #[.string s] w fun e w' => e = .returned (.int .i64 (kindL s.data.toList : Nat)) /\ Below w.heap.size w w' := by
 have hs2 : s.size <= 9223372036854775807 := by unfold maxLen at hs; omega
 cases h1 : hasB s.data.toList 10 with
 | true =>
  have hk : kindL s.data.toList = 5 := by unfold kindL; rw [if_pos h1]
  rw [hk]; clear hk
  go_enter Tryz.func100, Tryz.ntmps100
  go_wp2_with (first | (go_at_call 134; refine (has_any _ _ _).mono ?_; rw [h1]; rintro e w1 ⟨rfl, rfl⟩))
  go_ret
  exact ⟨rfl, Below.refl _ _⟩
 | false =>
 cases h2 : blankAll s.data.toList with
 | true =>
  have hk : kindL s.data.toList = 1 := by unfold kindL; rw [h1, if_neg (by decide), if_pos h2]
  rw [hk]; clear hk
  go_enter Tryz.func100, Tryz.ntmps100
  go_wp2_with (first | (go_at_call 134; refine (has_any _ _ _).mono ?_; rw [h1]; rintro e w1 ⟨rfl, rfl⟩) | (go_at_call 135; refine (trim_yes s hs2 h2 _).mono ?_; rintro e w1 ⟨rfl, b1⟩))
  go_ret
  exact ⟨rfl, b1⟩
 | false =>
 obtain ⟨t1, t2⟩ := trimmed_ne s h2
 have B1 := begins_any s hs
 cases h3 : hashB s.data.toList with
 | true =>
  have hk : kindL s.data.toList = 2 := by unfold kindL; rw [h1, if_neg (by decide), h2, if_neg (by decide), if_pos h3]
  rw [hk]; clear hk
  go_enter Tryz.func100, Tryz.ntmps100
  go_wp2_with (first | (go_at_call 134; refine (has_any _ _ _).mono ?_; rw [h1]; rintro e w1 ⟨rfl, rfl⟩) | (go_at_call 135; refine (trim_no s hs2 _).mono ?_; rintro e w1 ⟨rfl, b1⟩) | (go_at_call 61; refine (hash_any _ _).mono ?_; rw [h3]; rintro e w2 ⟨rfl, rfl⟩))
  go_ret
  exact ⟨rfl, b1⟩
 | false =>
 cases h4 : beginsB s.data.toList with
 | true =>
  have hk : kindL s.data.toList = 3 := by unfold kindL; rw [h1, if_neg (by decide), h2, if_neg (by decide), h3, if_neg (by decide), if_pos h4]
  rw [hk]; clear hk
  go_enter Tryz.func100, Tryz.ntmps100
  go_wp2_with (first | (go_at_call 134; refine (has_any _ _ _).mono ?_; rw [h1]; rintro e w1 ⟨rfl, rfl⟩) | (go_at_call 135; refine (trim_no s hs2 _).mono ?_; rintro e w1 ⟨rfl, b1⟩) | (go_at_call 61; refine (hash_any _ _).mono ?_; rw [h3]; rintro e w2 ⟨rfl, rfl⟩) | (go_at_call 136; refine (B1 _).mono ?_; rw [h4]; rintro e w2 ⟨rfl, rfl⟩))
  go_ret
  exact ⟨rfl, b1⟩
 | false =>
 cases h5 : hasB s.data.toList 58 with
 | false =>
  have hk : kindL s.data.toList = 5 := by unfold kindL; rw [h1, if_neg (by decide), h2, if_neg (by decide), h3, if_neg (by decide), h4, if_neg (by decide), if_neg (by rw [h5]; simp)]
  rw [hk]; clear hk
  have C := fun w => colon_no s w h5
  go_enter Tryz.func100, Tryz.ntmps100
  go_wp2_with (first | (go_at_call 134; refine (has_any _ _ _).mono ?_; rw [h1]; rintro e w1 ⟨rfl, rfl⟩) | (go_at_call 135; refine (trim_no s hs2 _).mono ?_; rintro e w1 ⟨rfl, b1⟩) | (go_at_call 61; refine (hash_any _ _).mono ?_; rw [h3]; rintro e w2 ⟨rfl, rfl⟩) | (go_at_call 136; refine (B1 _).mono ?_; rw [h4]; rintro e w2 ⟨rfl, rfl⟩) | (go_at_call 56; refine (C _).mono ?_; rintro e w2 ⟨rfl, n, rfl⟩))
  go_ret
  exact ⟨rfl, Below.drewN b1 n⟩
 | true =>
 have C := fun w => colon_yes s w hs h5
 have K := keyPre_any s hs
 have hk : kindL s.data.toList = if goodKey (before s.data.toList) = true then 4 else 5 := by
  unfold kindL; rw [h1, if_neg (by decide), h2, if_neg (by decide), h3, if_neg (by decide), h4, if_neg (by decide), h5]; simp
 cases h6 : goodKey (before s.data.toList)
 all_goals
  rw [h6] at hk
  rw [hk]; clear hk
  go_enter Tryz.func100, Tryz.ntmps100
  go_wp2_with (first | (go_at_call 134; refine (has_any _ _ _).mono ?_; rw [h1]; rintro e w1 ⟨rfl, rfl⟩) | (go_at_call 135; refine (trim_no s hs2 _).mono ?_; rintro e w1 ⟨rfl, b1⟩) | (go_at_call 61; refine (hash_any _ _).mono ?_; rw [h3]; rintro e w2 ⟨rfl, rfl⟩) | (go_at_call 136; refine (B1 _).mono ?_; rw [h4]; rintro e w2 ⟨rfl, rfl⟩) | (go_at_call 56; refine (C _).mono ?_; rintro e w2 ⟨rfl, n, rfl⟩) | (go_at_call 137; refine (K _).mono ?_; rw [h6]; rintro e w3 ⟨rfl, rfl⟩))
  go_ret
  exact ⟨rfl, Below.drewN b1 n⟩
end Go.Proofs.YtbkeoiefolkjfaaGreatDoor
namespace Go.Proofs.YtbkeoiefolkjfaaGreatDoor
open Go.RowKit Go.Shelf
theorem cut_pair (s : ByteArray) (hs : s.size <= maxLen) (h : kindL s.data.toList = 4) (w : World) :
  Calls Tryz.prog 171 #[.string s] w fun e w' => e = .returned (.tuple #[.string (preS s), .string (postS s), .bool true]) /\ Below w.heap.size w w' := by
 have h5 : hasB s.data.toList 58 = true := by
  unfold kindL at h
  split at h; · cases h
  split at h; · cases h
  split at h; · cases h
  split at h; · cases h
  split at h
  ·rename_i q; exact q.1
  cases h
 have C := fun w => colon_yes s w hs h5
 have K := kind_any s hs
 rw [h] at K
 go_enter Tryz.func171, Tryz.ntmps171
 go_wp2_with (first | (go_at_call 100; refine (K _).mono ?_; rintro e w1 ⟨rfl, b1⟩) | (go_at_call 56; refine (C _).mono ?_; rintro e w2 ⟨rfl, n, rfl⟩))
 go_ret3
 exact ⟨rfl, Below.drewN b1 n⟩
end Go.Proofs.YtbkeoiefolkjfaaGreatDoor
namespace Go.Proofs.YtbkeoiefolkjfaaGreatDoor
open Go.RowKit Go.Shelf
theorem refBlank_any (c : UInt8) (w : World) :
  Calls Tryz.prog 113 #[.int .u8 (c.toNat : Nat)] w fun e w' => e = .returned (.bool (blankB c)) /\ w = w' := by
 have hb := c.toNat_lt
 by_cases h1 : c = 32
 ·subst h1
  go_enter Tryz.func113, Tryz.ntmps113
  go_wp2
  go_ret
  exact ⟨rfl, rfl⟩
 have e1 : ((c.toNat : Int) == 32) = false := by
  rw [beq_eq_false_iff_ne]; intro e; apply h1; apply UInt8.toNat_inj.1; have : (32 : UInt8).toNat = 32 := rfl; omega
 have e3 : blankB c = ((c.toNat : Int) == 9) := by
  unfold blankB
  by_cases h2 : c = 9
  ·subst h2; rfl
  have : ((c.toNat : Int) == 9) = false := by
   rw [beq_eq_false_iff_ne]; intro e; apply h2; apply UInt8.toNat_inj.1; have : (9 : UInt8).toNat = 9 := rfl; omega
  rw [this]; simp [h1, h2]
 rw [e3]
 clear e3
 go_enter Tryz.func113, Tryz.ntmps113
 go_wp2
 go_ret
 exact ⟨rfl, rfl⟩
theorem byte_eq {c d : UInt8} (n : Int) (hn : (d.toNat : Int) = n) : ((c.toNat : Int) == n) = (c == d) := by
 by_cases h : c = d
 ·subst h; simp [hn]
 have : (c.toNat : Int) ≠ n := by intro e; apply h; apply UInt8.toNat_inj.1; omega
 rw [beq_eq_false_iff_ne.2 this]; simp [h]
theorem has_no (l : List UInt8) (c : UInt8) (k : Nat) (h : ∀ i, i < k -> l[i]? ≠ some c) (hk : l.length <= k) : hasB l c = false := by
 unfold hasB
 cases hc : l.contains c with
 | false => rfl
 | true =>
 exfalso
 have hm : c ∈ l := by simpa using hc
 obtain ⟨i, hi, e⟩ := List.mem_iff_getElem.1 hm
 exact h i (by omega) (by rw [List.getElem?_eq_getElem hi, e])
theorem has_yes (l : List UInt8) (c : UInt8) (i : Nat) (h : l[i]? = some c) : hasB l c = true := by
 unfold hasB
 have : c ∈ l := List.mem_of_getElem? h
 simpa using this
theorem refKey_any (s : ByteArray) (hs : s.size <= 4294967295) (w : World) :
  Calls Tryz.prog 148 #[.string s] w fun e w' => e = .returned (.bool (goodKey s.data.toList)) /\ w = w' := by
 cases h : s.data.toList with
 | nil =>
  rw [empty_of h]
  go_enter Tryz.func148, Tryz.ntmps148
  go_wp2
  go_ret
  exact ⟨rfl, rfl⟩
 | cons c t =>
 have n3 : 1 <= s.size := by rw [Lib.size_eq, h]; simp
 have g0 : s[0] = c := by
  have : s.data.toList[0]? = some c := by rw [h]; rfl
  rw [List.getElem?_eq_getElem (by rw [<- Lib.size_eq]; omega)] at this
  exact Option.some.inj this
 have eb : beginsB s.data.toList = blankB c := by rw [h]; rfl
 have eh : hashB s.data.toList = (c == 35) := by rw [h]; rfl
 rw [<- h]
 clear h
 have n4 : 1 <= s.data.toList.length := by rw [<- Lib.size_eq]; exact n3
 have n5 := Lib.size_eq s
 by_cases h1 : s.size <= 32
 ·have h1' := h1
  rw [n5] at h1'
  have e1 : goodKey s.data.toList = (!blankB c && !(c == 35) && !hasB s.data.toList 58 && !hasB s.data.toList 10) := by
   unfold goodKey; rw [decide_eq_true n4, decide_eq_true h1', eb, eh]; simp
  rw [e1]
  clear e1 eb eh h1' n4
  cases h2 : blankB c with
  | true =>
   clear n5
   go_enter Tryz.func148, Tryz.ntmps148
   go_wp2_with (first | (go_at_call 113; refine (refBlank_any _ _).mono ?_; rw [h2]; rintro e w1 ⟨rfl, rfl⟩))
   go_ret
   exact ⟨rfl, rfl⟩
  | false =>
  have hq := byte_eq (c := c) (d := 35) 35 rfl
  cases h3 : (c == 35) with
  | true =>
   rw [h3] at hq
   clear n5
   go_enter Tryz.func148, Tryz.ntmps148
   go_wp2_with (first | (go_at_call 113; refine (refBlank_any _ _).mono ?_; rw [h2]; rintro e w1 ⟨rfl, rfl⟩))
   go_ret
   exact ⟨rfl, rfl⟩
  | false =>
  rw [h3] at hq
  have N5 := Lib.hid n5
  clear n5
  go_enter Tryz.func148, Tryz.ntmps148
  go_wp2_with (first | (go_at_call 113; refine (refBlank_any _ _).mono ?_; rw [h2]; rintro e w1 ⟨rfl, rfl⟩))
  clear hq g0
  go_loop [3] (fun i => ∃ k : Nat, k <= s.size /\ i = .int .i64 k /\ ∀ j, j < k -> s.data.toList[j]? ≠ some 58 /\ s.data.toList[j]? ≠ some 10) (fun i => s.size - (intOf i).toNat)
  case atStart => exact ⟨0, Nat.zero_le _, rfl, fun j hj => absurd hj (Nat.not_lt_zero j)⟩
  case round =>
  obtain ⟨k, hk, rfl, hno⟩ := hrel
  by_cases hlt : k < s.size
  ·have e : s.data.toList[k]? = some s[k] := by
    rw [List.getElem?_eq_getElem (by rw [<- Lib.size_eq]; exact hlt)]; rfl
   have E := Lib.hid e
   have NO := Lib.hid hno
   clear e hno
   have q1 := byte_eq (c := s[k]) (d := 58) 58 rfl
   have q2 := byte_eq (c := s[k]) (d := 10) 10 rfl
   cases h4 : (s[k] == 58) with
   | true =>
    rw [h4] at q1
    have h5 : hasB s.data.toList 58 = true := has_yes _ _ k (by rw [E.out]; simpa using h4)
    have H5 := Lib.hid h5
    clear q2 h5
    go_wp2
    go_ret
    exact ⟨by rw [H5.out]; rfl, rfl⟩
   | false =>
   rw [h4] at q1
   cases h5 : (s[k] == 10) with
   | true =>
    rw [h5] at q2
    have h6 : hasB s.data.toList 10 = true := has_yes _ _ k (by rw [E.out]; simpa using h5)
    have H7 := Lib.hid h6
    clear h6
    go_wp2
    go_ret
    exact ⟨by rw [H7.out, Bool.not_true, Bool.and_false]; rfl, rfl⟩
   | false =>
   rw [h5] at q2
   go_wp2
   go_round
   case rel =>
    refine ⟨k + 1, hlt, by go_num, fun j hj => ?_⟩
    by_cases hjk : j = k
    ·subst hjk; rw [E.out]; exact ⟨by simpa using h4, by simpa using h5⟩
    exact NO.out j (by omega)
   case measure => simp [intOf]; omega
  have h58 := has_no s.data.toList 58 k (fun i hi => (hno i hi).1) (by rw [<- N5.out]; omega)
  have h10 := has_no s.data.toList 10 k (fun i hi => (hno i hi).2) (by rw [<- N5.out]; omega)
  have H58 := Lib.hid h58
  have H10 := Lib.hid h10
  clear hno h58 h10
  go_wp2
  go_ret
  exact ⟨by rw [H58.out, H10.out]; rfl, rfl⟩
 have e1 : goodKey s.data.toList = false := by
  unfold goodKey; rw [<- n5, decide_eq_false h1]; simp
 rw [e1]
 have h1' : 32 < s.size := by omega
 clear n5 n4 e1 eb eh
 go_enter Tryz.func148, Tryz.ntmps148
 go_wp2
 go_ret
 exact ⟨rfl, rfl⟩
end Go.Proofs.YtbkeoiefolkjfaaGreatDoor
namespace Go.Proofs.YtbkeoiefolkjfaaGreatDoor
open Go.RowKit Go.Shelf
theorem before_take (l : List UInt8) : ∀ (k : Nat), l[k]? = some 58 -> (∀ j, j < k -> l[j]? ≠ some 58) -> (before l).length = k := by
 induction l with
 | nil => intro k h; simp at h
 | cons a t ih =>
 intro k h hn
 unfold before at ih ⊢
 cases k with
 | zero =>
  have : a = 58 := by simpa using h
  subst this; rfl
 | succ k =>
 have ha : a ≠ 58 := fun e => hn 0 (by omega) (by rw [e]; rfl)
 rw [List.takeWhile_cons, if_pos (by simpa using ha), List.length_cons, ih k (by simpa using h) (fun j hj => by have := hn (j + 1) (by omega); simpa using this)]
theorem refCut_no (s : ByteArray) (hs : s.size <= 4294967295) (w : World) (h : hasB s.data.toList 10 = true \/ hasB s.data.toList 58 = false \/ goodKey (before s.data.toList) = false) :
  Calls Tryz.prog 114 #[.string s] w fun e w' => e = .returned (.tuple #[.string ⟨#[]⟩, .string ⟨#[]⟩, .bool false]) /\ Below w.heap.size w w' := by
 have n5 := Lib.size_eq s
 have N5 := Lib.hid n5
 clear n5
 have HH := Lib.hid h
 clear h
 go_enter Tryz.func114, Tryz.ntmps114
 go_wp2_with fail
 go_loop [5] (fun i => ∃ k : Nat, k <= s.size /\ i = .int .i64 k /\ ∀ j, j < k -> s.data.toList[j]? ≠ some 10) (fun i => s.size - (intOf i).toNat)
 case atStart => exact ⟨0, Nat.zero_le _, rfl, fun j hj => absurd hj (Nat.not_lt_zero j)⟩
 case round =>
 obtain ⟨k, hk, rfl, hno⟩ := hrel
 by_cases hlt : k < s.size
 ·have e : s.data.toList[k]? = some s[k] := by
   rw [List.getElem?_eq_getElem (by rw [<- Lib.size_eq]; exact hlt)]; rfl
  have E := Lib.hid e
  have NO := Lib.hid hno
  clear e hno
  have q2 := byte_eq (c := s[k]) (d := 10) 10 rfl
  cases h5 : (s[k] == 10) with
  | true =>
   rw [h5] at q2
   go_wp2
   go_ret3
   exact ⟨rfl, Below.refl _ _⟩
  | false =>
  rw [h5] at q2
  go_wp2
  go_round
  case rel =>
   refine ⟨k + 1, hlt, by go_num, fun j hj => ?_⟩
   by_cases hjk : j = k
   ·subst hjk; rw [E.out]; simpa using h5
   exact NO.out j (by omega)
  case measure => simp [intOf]; omega
 have h10 := has_no s.data.toList 10 k hno (by rw [<- N5.out]; omega)
 have h2 : hasB s.data.toList 58 = false \/ goodKey (before s.data.toList) = false := by
  rcases HH.out with h | h
  ·rw [h10] at h; cases h
  exact h
 have H2 := Lib.hid h2
 clear hno h10 h2 HH
 go_wp2_with fail
 go_loop [6] (fun i => ∃ k : Nat, k <= s.size /\ i = .int .i64 k /\ ∀ j, j < k -> s.data.toList[j]? ≠ some 58) (fun i => s.size - (intOf i).toNat)
 case atStart => exact ⟨0, Nat.zero_le _, rfl, fun j hj => absurd hj (Nat.not_lt_zero j)⟩
 case round =>
 obtain ⟨m, hm, rfl, hno⟩ := hrel
 by_cases hlt2 : m < s.size
 ·have e : s.data.toList[m]? = some s[m] := by
   rw [List.getElem?_eq_getElem (by rw [<- Lib.size_eq]; exact hlt2)]; rfl
  have q2 := byte_eq (c := s[m]) (d := 58) 58 rfl
  cases h5 : (s[m] == 58) with
  | true =>
   rw [h5] at q2
   have e58 : s.data.toList[m]? = some 58 := by rw [e]; simpa using h5
   have hb := before_take s.data.toList m e58 hno
   have hg : goodKey (before s.data.toList) = false := by
    rcases H2.out with h | h
    ·rw [has_yes _ _ m e58] at h; cases h
    exact h
   have K := fun w => refKey_any (preS s) (Nat.le_trans (preS_size s) hs) w
   rw [preS_data, hg] at K
   unfold preS at K
   rw [hb] at K
   clear e hno e58 hb hg
   go_wp2_with (first | (go_at_call 148; refine (K _).mono ?_; rintro e w1 ⟨rfl, rfl⟩))
   go_ret3
   exact ⟨rfl, Below.refl _ _⟩
  | false =>
  rw [h5] at q2
  have E := Lib.hid e
  have NO := Lib.hid hno
  clear e hno
  go_wp2
  go_round
  case rel =>
   refine ⟨m + 1, hlt2, by go_num, fun j hj => ?_⟩
   by_cases hjk : j = m
   ·subst hjk; rw [E.out]; simpa using h5
   exact NO.out j (by omega)
  case measure => simp [intOf]; omega
 clear hno
 go_wp2
 go_ret3
 exact ⟨rfl, Below.refl _ _⟩
theorem before_lt (l : List UInt8) (h : hasB l 58 = true) : l[(before l).length]? = some 58 /\ ∀ j, j < (before l).length -> l[j]? ≠ some 58 := by
 unfold hasB at h
 have hm : (58 : UInt8) ∈ l := by simpa using h
 clear h
 unfold before
 induction l with
 | nil => cases hm
 | cons a t ih =>
 by_cases ha : a = 58
 ·subst ha
  refine ⟨rfl, fun j hj => ?_⟩
  simp at hj
 have hm' : (58 : UInt8) ∈ t := by
  rcases List.mem_cons.1 hm with h | h
  ·exact absurd h.symm ha
  exact h
 obtain ⟨h1, h2⟩ := ih hm'
 rw [List.takeWhile_cons, if_pos (by simpa using ha), List.length_cons]
 refine ⟨by simpa using h1, fun j hj => ?_⟩
 cases j with
 | zero => simpa using ha
 | succ j => have := h2 j (by omega); simpa using this
theorem refCut_yes (s : ByteArray) (hs : s.size <= 4294967295) (w : World) (h1 : hasB s.data.toList 10 = false) (h2 : hasB s.data.toList 58 = true) (h3 : goodKey (before s.data.toList) = true) :
  Calls Tryz.prog 114 #[.string s] w fun e w' => e = .returned (.tuple #[.string (preS s), .string (postS s), .bool true]) /\ Below w.heap.size w w' := by
 have n5 := Lib.size_eq s
 have N5 := Lib.hid n5
 clear n5
 have H1 := Lib.hid h1
 obtain ⟨b1, b2⟩ := before_lt _ h2
 have hbl : (before s.data.toList).length < s.size := by
  rcases Nat.lt_or_ge (before s.data.toList).length s.size with h | h
  ·exact h
  rw [List.getElem?_eq_none (by rw [<- Lib.size_eq]; exact h)] at b1; cases b1
 have B1 := Lib.hid b1
 have B2 := Lib.hid b2
 have K := fun w => refKey_any (preS s) (Nat.le_trans (preS_size s) hs) w
 rw [preS_data, h3] at K
 have HP : Hid (preS s = s.extract 0 (before s.data.toList).length) := rfl
 have HQ : Hid (postS s = s.extract ((before s.data.toList).length + 1) s.size) := rfl
 unfold preS at K
 clear h1 h2 h3 b1 b2
 generalize (before s.data.toList).length = n at *
 go_enter Tryz.func114, Tryz.ntmps114
 go_wp2_with fail
 go_loop [5] (fun i => ∃ k : Nat, k <= s.size /\ i = .int .i64 k) (fun i => s.size - (intOf i).toNat)
 case atStart => exact ⟨0, Nat.zero_le _, rfl⟩
 case round =>
 obtain ⟨k, hk, rfl⟩ := hrel
 by_cases hlt : k < s.size
 ·have q2 := byte_eq (c := s[k]) (d := 10) 10 rfl
  have h5 : (s[k] == 10) = false := by
   cases h5 : (s[k] == 10) with
   | false => rfl
   | true =>
   exfalso
   have := has_yes s.data.toList 10 k (by rw [List.getElem?_eq_getElem (by rw [<- Lib.size_eq]; exact hlt)]; exact congrArg some (eq_of_beq h5))
   rw [H1.out] at this; cases this
  rw [h5] at q2
  clear h5
  go_wp2
  go_round
  case rel => exact ⟨k + 1, hlt, by go_num⟩
  case measure => simp [intOf]; omega
 go_wp2_with fail
 go_loop [6] (fun i => ∃ k : Nat, k <= n /\ i = .int .i64 k) (fun i => s.size - (intOf i).toNat)
 case atStart => exact ⟨0, Nat.zero_le _, rfl⟩
 case round =>
 obtain ⟨m, hm, rfl⟩ := hrel
 have hlt2 : m < s.size := by omega
 have e : s.data.toList[m]? = some s[m] := by
  rw [List.getElem?_eq_getElem (by rw [<- Lib.size_eq]; exact hlt2)]; rfl
 have q2 := byte_eq (c := s[m]) (d := 58) 58 rfl
 by_cases hmn : m < n
 ·have h5 : (s[m] == 58) = false := by
   have := B2.out m hmn
   rw [e] at this
   simpa using this
  rw [h5] at q2
  clear e h5
  go_wp2
  go_round
  case rel => exact ⟨m + 1, by omega, by go_num⟩
  case measure => simp [intOf]; omega
 obtain rfl : m = n := by omega
 have h5 : (s[m] == 58) = true := by
  have := B1.out
  rw [e] at this
  simpa using this
 rw [h5] at q2
 clear e h5
 have h6 : IntKind.i64.wrap ((m : Int) + 1) = (m : Int) + 1 := IntWalk.i64_in _ (by omega)
 go_wp2_with (first | (go_at_call 148; refine (K _).mono ?_; rintro e w1 ⟨rfl, rfl⟩))
 go_quiet (fail)
 go_wp2
 go_ret3
 exact ⟨by rw [HP.out, HQ.out]; rfl, Below.drewN (Below.refl _ _) _⟩
theorem blankTo_snoc (s : ByteArray) (k : Nat) (h : k < s.size) : blankAll (s.data.toList.take (k + 1)) = (blankAll (s.data.toList.take k) && blankB s[k]) := by
 unfold blankAll
 rw [List.take_succ_eq_append_getElem (by simpa using h), List.all_append]
 simp; rfl
theorem refKind_nl (s : ByteArray) (hs : s.size <= 4294967295) (w : World) (h1 : hasB s.data.toList 10 = true) :
  Calls Tryz.prog 66 #[.string s] w fun e w' => e = .returned (.int .i64 5) /\ Below w.heap.size w w' := by
 have n5 := Lib.size_eq s
 have N5 := Lib.hid n5
 clear n5
 have H1 := Lib.hid h1
 clear h1
 go_enter Tryz.func66, Tryz.ntmps66
 go_wp2_with fail
 go_loop [3, 4] (fun b i => ∃ (k : Nat) (x : Bool), k <= s.size /\ i = .int .i64 k /\ b = .bool x /\ ∀ j, j < k -> s.data.toList[j]? ≠ some 10) (fun _ i => s.size - (intOf i).toNat)
 case atStart => exact ⟨0, true, Nat.zero_le _, rfl, rfl, fun j hj => absurd hj (Nat.not_lt_zero j)⟩
 case round =>
 obtain ⟨k, x, hk, rfl, rfl, hno⟩ := hrel
 by_cases hlt : k < s.size
 ·have e : s.data.toList[k]? = some s[k] := by
   rw [List.getElem?_eq_getElem (by rw [<- Lib.size_eq]; exact hlt)]; rfl
  have E := Lib.hid e
  have NO := Lib.hid hno
  clear e hno
  have q2 := byte_eq (c := s[k]) (d := 10) 10 rfl
  cases h5 : (s[k] == 10) with
  | true =>
   rw [h5] at q2
   go_wp2
   go_ret
   exact ⟨rfl, Below.refl _ _⟩
  | false =>
  rw [h5] at q2
  have h6 : ∀ j, j < k + 1 -> s.data.toList[j]? ≠ some 10 := fun j hj => by
   by_cases hjk : j = k
   ·subst hjk; rw [E.out]; simpa using h5
   exact NO.out j (by omega)
  have H6 := Lib.hid h6
  clear h6
  cases x
  all_goals
   go_wp2_with (first | (go_at_call 113; refine (refBlank_any _ _).mono ?_; rintro e w1 ⟨rfl, rfl⟩))
   go_round
   case rel => exact ⟨k + 1, _, hlt, by go_num, rfl, H6.out⟩
   case measure => simp [intOf]; omega
 exfalso
 have := has_no s.data.toList 10 k hno (by rw [<- N5.out]; omega)
 rw [H1.out] at this; cases this
end Go.Proofs.YtbkeoiefolkjfaaGreatDoor
namespace Go.Proofs.YtbkeoiefolkjfaaGreatDoor
open Go.RowKit Go.Shelf
theorem refKind_else (s : ByteArray) (hs : s.size <= 4294967295) (w : World) (h1 : hasB s.data.toList 10 = false) :
  Calls Tryz.prog 66 #[.string s] w fun e w' => e = .returned (.int .i64 (kindL s.data.toList : Nat)) /\ Below w.heap.size w w' := by
 have n5 := Lib.size_eq s
 have N5 := Lib.hid n5
 clear n5
 have H1 := Lib.hid h1
 clear h1
 go_enter Tryz.func66, Tryz.ntmps66
 go_wp2_with fail
 go_loop [3, 4] (fun b i => ∃ (k : Nat), k <= s.size /\ i = .int .i64 k /\ b = .bool (blankAll (s.data.toList.take k))) (fun _ i => s.size - (intOf i).toNat)
 case atStart => exact ⟨0, Nat.zero_le _, rfl, rfl⟩
 case round =>
 obtain ⟨k, hk, rfl, rfl⟩ := hrel
 by_cases hlt : k < s.size
 ·have q2 := byte_eq (c := s[k]) (d := 10) 10 rfl
  have h5 : (s[k] == 10) = false := by
   cases h5 : (s[k] == 10) with
   | false => rfl
   | true =>
   exfalso
   have := has_yes s.data.toList 10 k (by rw [List.getElem?_eq_getElem (by rw [<- Lib.size_eq]; exact hlt)]; exact congrArg some (eq_of_beq h5))
   rw [H1.out] at this; cases this
  rw [h5] at q2
  clear h5
  have HS := Lib.hid (blankTo_snoc s k hlt)
  generalize blankAll (s.data.toList.take k) = x at *
  cases x
  all_goals
   go_wp2_with (first | (go_at_call 113; refine (refBlank_any _ _).mono ?_; rintro e w1 ⟨rfl, rfl⟩))
   go_round
   case rel => exact ⟨k + 1, hlt, by go_num, by rw [HS.out]; rfl⟩
   case measure => simp [intOf]; omega
 obtain rfl : k = s.size := by omega
 have ht : s.data.toList.take s.size = s.data.toList := by rw [Lib.size_eq]; exact List.take_length
 rw [ht]
 clear ht hlt hk
 cases h2 : blankAll s.data.toList with
 | true =>
  have hk : kindL s.data.toList = 1 := by unfold kindL; rw [H1.out, if_neg (by decide), if_pos h2]
  have HK := Lib.hid hk
  clear hk
  go_wp2
  go_ret
  exact ⟨by rw [HK.out]; rfl, Below.refl _ _⟩
 | false =>
 obtain ⟨c, t, hc⟩ := all_blank_cons h2
 have n3 : 1 <= s.size := by rw [N5.out, hc]; simp
 have g0 : s[0] = c := by
  have : s.data.toList[0]? = some c := by rw [hc]; rfl
  rw [List.getElem?_eq_getElem (by rw [<- Lib.size_eq]; omega)] at this
  exact Option.some.inj this
 have eb : beginsB s.data.toList = blankB c := by rw [hc]; rfl
 have eh : hashB s.data.toList = (c == 35) := by rw [hc]; rfl
 clear hc
 have q1 := byte_eq (c := c) (d := 35) 35 rfl
 cases h3 : (c == 35) with
 | true =>
  have hk : kindL s.data.toList = 2 := by unfold kindL; rw [H1.out, if_neg (by decide), h2, if_neg (by decide), eh, if_pos h3]
  have HK := Lib.hid hk
  rw [h3] at q1
  clear hk h3 eb eh h2
  go_wp2
  go_ret
  exact ⟨by rw [HK.out]; rfl, Below.refl _ _⟩
 | false =>
 rw [h3] at q1
 cases h4 : blankB c with
 | true =>
  have hk : kindL s.data.toList = 3 := by unfold kindL; rw [H1.out, if_neg (by decide), h2, if_neg (by decide), eh, h3, if_neg (by decide), eb, if_pos h4]
  have HK := Lib.hid hk
  clear hk h3 eb eh h2
  go_wp2_with (first | (go_at_call 113; refine (refBlank_any _ _).mono ?_; rw [h4]; rintro e w1 ⟨rfl, rfl⟩))
  go_ret
  exact ⟨by rw [HK.out]; rfl, Below.refl _ _⟩
 | false =>
 have hk : kindL s.data.toList = if hasB s.data.toList 58 = true /\ goodKey (before s.data.toList) = true then 4 else 5 := by
  unfold kindL; rw [H1.out, if_neg (by decide), h2, if_neg (by decide), eh, h3, if_neg (by decide), eb, h4, if_neg (by decide)]
 by_cases h6 : hasB s.data.toList 58 = true /\ goodKey (before s.data.toList) = true
 ·rw [if_pos h6] at hk
  have HK := Lib.hid hk
  have C := fun w => refCut_yes s hs w H1.out h6.1 h6.2
  clear hk h3 eb eh h2 h6
  go_wp2_with (first | (go_at_call 113; refine (refBlank_any _ _).mono ?_; rw [h4]; rintro e w1 ⟨rfl, rfl⟩) | (go_at_call 114; refine (C _).mono ?_; rintro e w1 ⟨rfl, b1⟩))
  go_ret
  exact ⟨by rw [HK.out]; rfl, b1⟩
 rw [if_neg h6] at hk
 have HK := Lib.hid hk
 have h7 : hasB s.data.toList 58 = false \/ goodKey (before s.data.toList) = false := by
  cases a : hasB s.data.toList 58
  ·exact .inl rfl
  cases b : goodKey (before s.data.toList)
  ·exact .inr rfl
  exact absurd ⟨a, b⟩ h6
 have C := fun w => refCut_no s hs w (.inr h7)
 clear hk h3 eb eh h2 h6 h7
 go_wp2_with (first | (go_at_call 113; refine (refBlank_any _ _).mono ?_; rw [h4]; rintro e w1 ⟨rfl, rfl⟩) | (go_at_call 114; refine (C _).mono ?_; rintro e w1 ⟨rfl, b1⟩))
 go_ret
 exact ⟨by rw [HK.out]; rfl, b1⟩
theorem refKind_any (s : ByteArray) (hs : s.size <= 4294967295) (w : World) :
  Calls Tryz.prog 66 #[.string s] w fun e w' => e = .returned (.int .i64 (kindL s.data.toList : Nat)) /\ Below w.heap.size w w' := by
 cases h1 : hasB s.data.toList 10 with
 | true =>
  have hk : kindL s.data.toList = 5 := by unfold kindL; rw [if_pos h1]
  rw [hk]
  exact refKind_nl s hs w h1
 | false => exact refKind_else s hs w h1
theorem kind4 {l : List UInt8} (h : kindL l = 4) : hasB l 10 = false /\ hasB l 58 = true /\ goodKey (before l) = true := by
 unfold kindL at h
 split at h; · cases h
 rename_i h10
 split at h; · cases h
 split at h; · cases h
 split at h; · cases h
 split at h
 ·rename_i q; exact ⟨by simpa using h10, q.1, q.2⟩
 cases h
end Go.Proofs.YtbkeoiefolkjfaaGreatDoor
