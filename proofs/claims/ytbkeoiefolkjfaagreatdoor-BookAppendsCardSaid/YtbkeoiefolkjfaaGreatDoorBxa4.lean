/- Texts put together: DE, CB, CC, CD, DF. -/
import Derived.WideShapes
import Derived.Test.YtbkeoiefolkjfaaGreatDoorChecked
import Derived.WalkKit
import Derived.Lib.Hide
import Derived.Deep.WholeRow
import Derived.Deep.QuietTactic
import Derived.BigQuiet
import Derived.Test.YtbkeoiefolkjfaaGreatDoorBxa1
import Derived.Test.YtbkeoiefolkjfaaGreatDoorBxa2
import Derived.Test.YtbkeoiefolkjfaaGreatDoorBxa3
set_option linter.unusedVariables false
set_option maxRecDepth 100000
set_option maxHeartbeats 16000000
namespace Go.Proofs.YtbkeoiefolkjfaaGreatDoor.Fr
open Go.RowKit Go.Shelf
attribute [local go_sem] Oper.semAt_some
theorem var_below {P : Program} {w w' : World} {N : Nat} {name : String} {cs : Array Value} (h : w.var? P name = some cs) (hb : Below N w w') (hN : w.heap.size <= N) : w'.var? P name = some cs := by
 unfold World.var? at *
 cases hg : P.globalNamed name with
 | none => simp [hg] at h
 | some g =>
 simp only [hg, Option.bind_some] at h ⊢
 have hlt : g < w.heap.size := by
  rcases Nat.lt_or_ge g w.heap.size with h' | h'
  ·exact h'
  rw [Array.getElem?_eq_none h'] at h; simp at h
 rw [hb.block g (by omega)]
 exact h
structure TabsN (w : World) : Prop where
 pow : Lib.TabIs Tryz.prog w "internal/strconv.uint64pow10" .u64 Lib.pow10Tab
 syn : ∃ tp p, w.var? Tryz.prog "strconv.ErrSyntax" = some #[.iface tp p]
 ran : ∃ tp p, w.var? Tryz.prog "strconv.ErrRange" = some #[.iface tp p]
theorem TabsN.below {w w' : World} {N : Nat} (h : TabsN w) (hb : Below N w w') (hN : w.heap.size <= N) : TabsN w' := by
 obtain ⟨a, ⟨t1, p1, c⟩, ⟨t2, p2, d⟩⟩ := h
 exact ⟨var_below a hb hN, ⟨t1, p1, var_below c hb hN⟩, ⟨t2, p2, var_below d hb hN⟩⟩
theorem freeze_below {N : Nat} {w w' : World} (h : Below N w w') {p : Addr} (hp : N <= p.block) (k : Nat) : Below N w (w'.freeze p k) := by
 unfold World.freeze
 by_cases hk : k = 0
 ·rw [if_pos hk]; exact h
 rw [if_neg hk]
 refine ⟨h.os, h.tape, h.output, ?_, fun j hj => ?_⟩
 ·simp; exact h.size
 simp only [Array.getElem?_modify]
 rw [if_neg (by omega)]
 exact h.block j hj
theorem bytes_below (w : World) (e : TypeId) (s : ByteArray) : Below w.heap.size w (Lib.bytesWorld w e s) := by
 unfold Lib.bytesWorld
 exact freeze_below ((Below.refl _ w).drew.alloc (Nat.le_refl _) _) (Nat.le_refl _) _
theorem atoi_any (l : List UInt8) (hl : l.length <= 1000000) (w : World) (ht : TabsN w) :
  Calls Tryz.prog 97 #[.string (B l)] w fun e w' => (∃ T q, e = .returned (.tuple #[.int .i64 (atoiV l), .nilIface]) \/ e = .returned (.tuple #[.int .i64 (atoiV l), .iface T q])) /\ Below w.heap.size w w' := by
 cases h : Lib.atoiAll l with
 | ok v =>
  refine (Tryz.strconv_Atoi_ok (B l) (by rw [B_size]; omega) v (by rw [B_data]; exact h) w).mono ?_
  rintro e w' ⟨rfl, hw⟩
  refine ⟨⟨0, undef, .inl (by unfold atoiV; rw [h])⟩, ?_⟩
  rcases hw with rfl | ⟨t, rfl⟩
  ·exact Below.refl _ _
  exact bytes_below _ _ _
 | range =>
  obtain ⟨tp, p, hv⟩ := ht.ran
  refine (Tryz.strconv_Atoi_range_var (B l) (by rw [B_size]; omega) (by rw [B_data]; exact h) tp p w hv).mono ?_
  rintro e w' ⟨N, rfl, _, _, hb⟩
  exact ⟨⟨_, _, .inr (by unfold atoiV; rw [h, B_data])⟩, hb⟩
 | _ =>
 obtain ⟨tp, p, hv⟩ := ht.syn
 refine (Tryz.strconv_Atoi_syntax_var (B l) (by rw [B_size]; omega) (by rw [B_data]; exact h) tp p w hv).mono ?_
 rintro e w' ⟨N, rfl, _, _, hb⟩
 exact ⟨⟨_, _, .inr (by unfold atoiV; rw [h])⟩, hb⟩
theorem unsigned_any (u : Nat) (hu : u < 18446744073709551616) (w : World) : Calls Tryz.prog 118 #[.int .u64 u] w fun e w' => e = .returned (.string (B (Lib.decDigits u))) /\ w' = w := by
 induction u using Nat.strongRecOn generalizing w with
 | _ u ih =>
 by_cases h : u < 10
 ·rw [Lib.decDigits_one h]
  clear ih hu
  obtain rfl | rfl | rfl | rfl | rfl | rfl | rfl | rfl | rfl | rfl : u = 0 \/ u = 1 \/ u = 2 \/ u = 3 \/ u = 4 \/ u = 5 \/ u = 6 \/ u = 7 \/ u = 8 \/ u = 9 := by omega
  all_goals
   go_enter Tryz.func118, Tryz.ntmps118
   go_wp2_with fail
   go_ret
   exact ⟨by kernel_rfl, rfl⟩
 have q : ¬ (u : Int) < 10 := by omega
 have I1 := Lib.hid (ih (u / 10) (by omega) (by omega))
 have I2 := Lib.hid (ih (u % 10) (by omega) (by omega))
 rw [Int.natCast_ediv] at I1
 rw [Int.natCast_emod] at I2
 have E : Hid (B (Lib.decDigits (u / 10)) ++ B (Lib.decDigits (u % 10)) = B (Lib.decDigits u)) := by
  show _ = _
  rw [B_append, Lib.decDigits_one (i := u % 10) (by omega)]
  congr 1
  conv => rhs; rw [Lib.decDigits, dif_neg h]
 have S1 : (B (Lib.decDigits (u / 10))).size <= 30 := by
  rw [B_size, Lib.decDigits_length]
  have := Lib.nDigits_le20 (u / 10) (by omega)
  omega
 have S2 : (B (Lib.decDigits (u % 10))).size <= 30 := by rw [B_size, Lib.decDigits_one (by omega)]; exact (by decide : 1 <= 30)
 clear ih
 generalize B (Lib.decDigits (u / 10)) = x at *
 generalize B (Lib.decDigits (u % 10)) = y at *
 go_enter Tryz.func118, Tryz.ntmps118
 go_wp2_with fail
 refine (I1.out _).mono ?_
 rintro e w1 ⟨rfl, rfl⟩
 go_wp2_with fail
 refine (I2.out _).mono ?_
 rintro e w1 ⟨rfl, rfl⟩
 go_wp2_with fail
 go_ret
 exact ⟨by rw [<- E.out]; rfl, rfl⟩
theorem figures_any (n : Int) (hn : I64 n) (w : World) : Calls Tryz.prog 82 #[.int .i64 n] w fun e w' => e = .returned (.string (B (Lib.itoa n))) /\ w' = w := by
 obtain ⟨h0, h1⟩ := hn
 by_cases h : n < 0
 ·obtain ⟨u, rfl⟩ : ∃ u : Nat, n = -((u : Int) + 1) := ⟨(-n - 1).toNat, by omega⟩
  have q : -((u : Int) + 1) < 0 := by omega
  have w1 : IntKind.i64.wrap (-((u : Int) + 1) + 1) = -(u : Int) := by rw [show -((u : Int) + 1) + 1 = -(u : Int) by omega]; exact IntWalk.i64_in _ (by omega)
  have w2 : IntKind.i64.wrap (u : Int) = (u : Int) := IntWalk.i64_in _ (by omega)
  have w3 : IntKind.u64.wrap (u : Int) = (u : Int) := by rw [IntKind.wrap_u64]; omega
  have w4 : IntKind.u64.wrap ((u : Int) + 1) = (u : Int) + 1 := by rw [IntKind.wrap_u64]; omega
  have I1 := Lib.hid (unsigned_any (u + 1) (by omega) w)
  rw [Int.natCast_add, show ((1 : Nat) : Int) = 1 from rfl] at I1
  have E : Hid ((⟨#[45]⟩ : ByteArray) ++ B (Lib.decDigits (u + 1)) = B (Lib.itoa (-((u : Int) + 1)))) := by
   show _ = _
   rw [show -((u : Int) + 1) = -((u + 1 : Nat) : Int) by omega, Lib.itoa_neg _ (by omega), show (⟨#[45]⟩ : ByteArray) = B [45] from rfl, B_append]; rfl
  have S1 : (B (Lib.decDigits (u + 1))).size <= 30 := by
   rw [B_size, Lib.decDigits_length]
   have := Lib.nDigits_le20 (u + 1) (by omega)
   omega
  generalize B (Lib.decDigits (u + 1)) = x at *
  go_enter Tryz.func82, Tryz.ntmps82
  go_wp2_with fail
  refine I1.out.mono ?_
  rintro e w1 ⟨rfl, rfl⟩
  go_wp2_with fail
  go_ret
  exact ⟨by rw [<- E.out]; rfl, rfl⟩
 obtain ⟨u, rfl⟩ : ∃ u : Nat, n = (u : Int) := ⟨n.toNat, by omega⟩
 have w3 : IntKind.u64.wrap (u : Int) = (u : Int) := by rw [IntKind.wrap_u64]; omega
 have I1 := Lib.hid (unsigned_any u (by omega) w)
 rw [Lib.itoa_nonneg]
 generalize B (Lib.decDigits u) = x at *
 go_enter Tryz.func82, Tryz.ntmps82
 go_wp2_with fail
 refine I1.out.mono ?_
 rintro e w1 ⟨rfl, rfl⟩
 go_wp2_with fail
 go_ret
 exact ⟨rfl, rfl⟩
def numL (l : List UInt8) : Option Int := if -9223372036854775808 <= atoiV l /\ atoiV l <= 9223372036854775807 /\ Lib.itoa (atoiV l) = l then some (atoiV l) else none
theorem numL_some {l : List UInt8} {i : Int} : numL l = some i ↔ I64 i /\ Lib.itoa i = l := by
 unfold numL
 constructor
 ·intro h
  split at h
  ·rename_i q
   injection h with h
   subst h
   exact ⟨⟨q.1, q.2.1⟩, q.2.2⟩
  cases h
 rintro ⟨h1, rfl⟩
 rw [atoiV_itoa h1, if_pos ⟨h1.1, h1.2, rfl⟩]
theorem numL_none {l : List UInt8} (h : ∀ i, I64 i -> Lib.itoa i ≠ l) : numL l = none := by
 cases e : numL l with
 | none => rfl
 | some i => exact absurd (numL_some.1 e).2 (h i (numL_some.1 e).1)
def numEnd (l : List UInt8) : Ending := .returned (.tuple #[.int .i64 ((numL l).getD 0), .bool (numL l).isSome])
theorem numEnd_no {l : List UInt8} (h : ∀ i, I64 i -> Lib.itoa i ≠ l) : numEnd l = .returned (.tuple #[.int .i64 0, .bool false]) := by unfold numEnd; rw [numL_none h]; rfl
theorem numEnd_yes {l : List UInt8} {i : Int} (h : I64 i) (e : Lib.itoa i = l) : numEnd l = .returned (.tuple #[.int .i64 i, .bool true]) := by unfold numEnd; rw [numL_some.2 ⟨h, e⟩]; rfl
theorem dec_pos (u : Nat) (h : u < 18446744073709551616) : 1 <= (Lib.decDigits u).length /\ (Lib.decDigits u).length <= 20 := by
 refine ⟨?_, by rw [Lib.decDigits_length]; exact Lib.nDigits_le20 u h⟩
 rcases Nat.eq_zero_or_pos (Lib.decDigits u).length with q | q
 ·exact absurd (List.length_eq_zero_iff.1 q) (dec_ne u)
 exact q
theorem itoa_len {i : Int} (h : I64 i) : 1 <= (Lib.itoa i).length /\ (Lib.itoa i).length <= 20 := by
 obtain ⟨h0, h1⟩ := h
 have hnd : ∀ u : Nat, u <= 9223372036854775808 -> (Lib.decDigits u).length <= 19 := fun u hu => by
  rcases Nat.lt_or_ge 19 (Lib.decDigits u).length with q | q
  ·exfalso
   rw [Lib.decDigits_length] at q
   have : ∀ n u : Nat, n < Lib.nDigits u -> 10 ^ n <= u \/ n = 0 := by
    intro n
    induction n with
    | zero => exact fun _ _ => .inr rfl
    | succ n ih =>
    intro u hq
    rw [Lib.nDigits] at hq
    split at hq
    ·omega
    rcases ih (u / 10) (by omega) with z | z
    ·left; rw [Nat.pow_succ]; omega
    subst z; left; omega
   rcases this 19 u q with z | z
   ·have : (10 : Nat) ^ 19 = 10000000000000000000 := by decide
    omega
   omega
  exact q
 unfold Lib.itoa
 split
 ·rw [List.length_cons]
  have := hnd i.natAbs (by omega)
  omega
 exact ⟨(dec_pos _ (by omega)).1, (dec_pos _ (by omega)).2⟩
theorem wrapI (z : Int) : I64 (wrap64 z) := by unfold I64 wrap64; omega
theorem itoa_parts {i : Int} (hi : I64 i) {l : List UInt8} (h : Lib.itoa i = l) (a : Nat) (ha : a = if l.head? = some 45 then 1 else 0) :
  ∃ u : Nat, u <= 9223372036854775808 /\ l.drop a = Lib.decDigits u /\ i = (if a = 1 then -(u : Int) else u) := by
 obtain ⟨h0, h1⟩ := hi
 subst h
 by_cases hn : i < 0
 ·have e : Lib.itoa i = 45 :: Lib.decDigits i.natAbs := by unfold Lib.itoa; rw [if_pos hn]
  rw [e] at ha ⊢
  rw [if_pos (by rfl)] at ha
  subst ha
  exact ⟨i.natAbs, by omega, rfl, by simp; omega⟩
 have e : Lib.itoa i = Lib.decDigits i.toNat := by unfold Lib.itoa; rw [if_neg hn]
 have hd : (Lib.decDigits i.toNat).head? ≠ some 45 := fun q => by
  have := dec_digits i.toNat 45 (List.mem_of_mem_head? q)
  simp at this
 rw [e] at ha ⊢
 rw [if_neg hd] at ha
 subst ha
 exact ⟨i.toNat, by omega, rfl, by simp; omega⟩
theorem num_step {u : Nat} (hu : u <= 9223372036854775808) {ds : List UInt8} (hd : ds = Lib.decDigits u) {j : Nat} {x : UInt8} (hx : ds[j]? = some x) :
  wrap64 (wrap64 (10 * numOn 0 (ds.take j)) - ((x.toNat : Int) - 48)) = numOn 0 (ds.take (j + 1)) := by
 subst hd
 have e : (Lib.decDigits u).take (j + 1) = (Lib.decDigits u).take j ++ [x] := by rw [List.take_add_one, hx]; rfl
 obtain ⟨m', e', hm'⟩ := numOn_take u (j + 1)
 obtain ⟨m, e1, hm⟩ := numOn_take u j
 have hxd := dec_digits u x (List.mem_of_getElem? hx)
 rw [e, numOn_snoc, e1] at e' ⊢
 rw [IntWalk.wrap64_in (10 * -(m : Int)) (by omega), IntWalk.wrap64_in _ (by omega)]
theorem number_neg (s : ByteArray) (h1 : 1 <= s.size) (h20 : s.size <= 20) (hq : ((s[0].toNat : Int) == 45) = true) (w : World) :
  Calls Tryz.prog 65 #[.string s] w fun e w' => e = numEnd s.data.toList /\ w' = w := by
 have h2 : decide ((s.size : Int) < 1) = false := by simp; omega
 have h3 : decide (20 < (s.size : Int)) = false := by simp; omega
 have AT : ∀ (k : Nat) (h : k < s.size), s.data.toList[k]? = some s[k] := fun k h => by
  rw [List.getElem?_eq_getElem (by rw [<- Lib.size_eq]; exact h)]; rfl
 have hhd : s.data.toList.head? = some s[0] := by rw [List.head?_eq_getElem?]; exact AT 0 (by omega)
 have hA : 1 = if s.data.toList.head? = some 45 then 1 else 0 := by
  rw [hhd]
  rw [if_pos (by congr 1; apply UInt8.toNat_inj.1; have e3 : (45 : UInt8).toNat = 45 := rfl; have := eq_of_beq hq; omega)]
 have PT : Hid (∀ i, I64 i -> Lib.itoa i = s.data.toList -> ∃ u : Nat, u <= 9223372036854775808 /\ s.data.toList.drop 1 = Lib.decDigits u /\ i = (if 1 = 1 then -(u : Int) else u)) := fun i hi e => itoa_parts hi e 1 hA
 have HAT := Lib.hid AT
 have hlen : s.data.toList.length = s.size := (Lib.size_eq s).symm
 clear AT hA hhd
 go_enter Tryz.func65, Tryz.ntmps65
 go_wp2_with fail
 go_loop [5, 6] (fun o i => ∃ (j : Nat) (z : Int), 1 <= j /\ j <= s.size /\ i = .int .i64 j /\ o = .int .i64 z /\ I64 z /\ ((∃ i, I64 i /\ Lib.itoa i = s.data.toList) -> z = numOn 0 ((s.data.toList.drop 1).take (j - 1)))) (fun _ i => s.size - (intOf i).toNat)
 case atStart => exact ⟨1, 0, Nat.le_refl _, by omega, rfl, rfl, ⟨by decide, by decide⟩, fun _ => rfl⟩
 case round =>
 obtain ⟨j, z, hj1, hj, rfl, rfl, hz, hnum⟩ := hrel
 obtain ⟨z0, z1⟩ := _root_.id hz
 by_cases hlt : j < s.size
 ·have hb := s[j].toNat_lt
  have hx := HAT.out j hlt
  by_cases hr : ¬ (48 <= s[j].toNat /\ s[j].toNat <= 57)
  ·have NO := Lib.hid (numEnd_no (l := s.data.toList) (fun i hi e => by
    obtain ⟨u, _, hd, _⟩ := PT.out i hi e
    have hm : s[j] ∈ s.data.toList.drop 1 := List.mem_of_getElem? (i := j - 1) (by rw [List.getElem?_drop, show 1 + (j - 1) = j by omega]; exact hx)
    rw [hd] at hm
    exact hr (dec_digits u _ hm)))
   clear hnum hx hz
   by_cases hc : s[j].toNat < 48
   ·have q1 : decide ((s[j].toNat : Int) < 48) = true := by simp; omega
    go_wp2_with fail
    go_ret2
    exact ⟨by rw [NO.out]; rfl, rfl⟩
   have q1 : decide ((s[j].toNat : Int) < 48) = false := by simp; omega
   have q2 : decide (57 < (s[j].toNat : Int)) = true := by simp; omega
   go_wp2_with fail
   go_ret2
   exact ⟨by rw [NO.out]; rfl, rfl⟩
  replace hr := Classical.not_not.1 hr
  have q1 : decide ((s[j].toNat : Int) < 48) = false := by simp; omega
  have q2 : decide (57 < (s[j].toNat : Int)) = false := by simp; omega
  have ST : Hid ((∃ i, I64 i /\ Lib.itoa i = s.data.toList) -> wrap64 (wrap64 (10 * z) - ((s[j].toNat : Int) - 48)) = numOn 0 ((s.data.toList.drop 1).take (j + 1 - 1))) := fun hex => by
   obtain ⟨i, hi, e⟩ := _root_.id hex
   obtain ⟨u, hu, hd, _⟩ := PT.out i hi e
   rw [hnum hex, show j + 1 - 1 = (j - 1) + 1 by omega]
   exact num_step hu hd (by rw [List.getElem?_drop, show 1 + (j - 1) = j by omega]; exact hx)
  clear hnum hx
  go_wp2_with fail
  go_round
  case rel => exact ⟨j + 1, _, by omega, hlt, by go_num, rfl, wrapI _, ST.out⟩
  case measure => simp [intOf]; omega
 obtain rfl : j = s.size := by omega
 obtain ⟨z2, hz2⟩ : ∃ z2, z2 = z := ⟨_, rfl⟩
 have hI : I64 z2 := by rw [hz2]; exact hz
 have UN : ∀ i, I64 i -> Lib.itoa i = s.data.toList -> z2 = i := fun i hi e => by
  obtain ⟨u, hu, hd, hiu⟩ := PT.out i hi e
  have hn := hnum ⟨i, hi, e⟩
  rw [List.take_of_length_le (by rw [List.length_drop, hlen]; exact Nat.le_refl _), hd, numOn_dec] at hn
  obtain ⟨i0, i1⟩ := hi
  simp at hiu
  omega
 have FG := Lib.hid (figures_any z2 hI w)
 by_cases he : Lib.itoa z2 = s.data.toList
 ·have YES := Lib.hid (numEnd_yes hI he)
  have hB : B (Lib.itoa z2) = s := by rw [he]; rfl
  rw [hB] at FG
  clear hnum UN he hB
  have HZ := Lib.hid hz2
  clear hz2
  go_wp2_with fail
  rw [<- HZ.out]
  refine FG.out.mono ?_
  rintro e w' ⟨rfl, rfl⟩
  go_wp2_with fail
  go_ret2
  exact ⟨by rw [YES.out]; rfl, rfl⟩
 have NO := Lib.hid (numEnd_no (l := s.data.toList) (fun i hi e => he (by rw [UN i hi e]; exact e)))
 have hne : ¬ (B (Lib.itoa z2)).toList = s.toList := fun e => he (by rw [Lib.toList_data, Lib.toList_data, B_data] at e; exact e)
 have hnb : ((B (Lib.itoa z2)).toList == s.toList) = false := by simpa using hne
 clear hnum UN he
 have HZ := Lib.hid hz2
 clear hz2
 generalize B (Lib.itoa z2) = V at *
 go_wp2_with fail
 rw [<- HZ.out]
 refine FG.out.mono ?_
 rintro e w' ⟨rfl, rfl⟩
 go_wp2_with fail
 go_ret2
 exact ⟨by rw [NO.out]; rfl, rfl⟩
theorem number_pos (s : ByteArray) (h1 : 1 <= s.size) (h20 : s.size <= 20) (hq : ((s[0].toNat : Int) == 45) = false) (w : World) :
  Calls Tryz.prog 65 #[.string s] w fun e w' => e = numEnd s.data.toList /\ w' = w := by
 have h2 : decide ((s.size : Int) < 1) = false := by simp; omega
 have h3 : decide (20 < (s.size : Int)) = false := by simp; omega
 have AT : ∀ (k : Nat) (h : k < s.size), s.data.toList[k]? = some s[k] := fun k h => by
  rw [List.getElem?_eq_getElem (by rw [<- Lib.size_eq]; exact h)]; rfl
 have hhd : s.data.toList.head? = some s[0] := by rw [List.head?_eq_getElem?]; exact AT 0 (by omega)
 have hA : 0 = if s.data.toList.head? = some 45 then 1 else 0 := by
  rw [hhd]
  rw [if_neg (fun e => by have e2 := congrArg UInt8.toNat (Option.some.inj e); rw [e2] at hq; simp at hq)]
 have PT : Hid (∀ i, I64 i -> Lib.itoa i = s.data.toList -> ∃ u : Nat, u <= 9223372036854775808 /\ s.data.toList.drop 0 = Lib.decDigits u /\ i = (if 0 = 1 then -(u : Int) else u)) := fun i hi e => itoa_parts hi e 0 hA
 have HAT := Lib.hid AT
 have hlen : s.data.toList.length = s.size := (Lib.size_eq s).symm
 clear AT hA hhd
 go_enter Tryz.func65, Tryz.ntmps65
 go_wp2_with fail
 go_loop [5, 6] (fun o i => ∃ (j : Nat) (z : Int), 0 <= j /\ j <= s.size /\ i = .int .i64 j /\ o = .int .i64 z /\ I64 z /\ ((∃ i, I64 i /\ Lib.itoa i = s.data.toList) -> z = numOn 0 ((s.data.toList.drop 0).take (j - 0)))) (fun _ i => s.size - (intOf i).toNat)
 case atStart => exact ⟨0, 0, Nat.le_refl _, by omega, rfl, rfl, ⟨by decide, by decide⟩, fun _ => rfl⟩
 case round =>
 obtain ⟨j, z, hj1, hj, rfl, rfl, hz, hnum⟩ := hrel
 obtain ⟨z0, z1⟩ := _root_.id hz
 by_cases hlt : j < s.size
 ·have hb := s[j].toNat_lt
  have hx := HAT.out j hlt
  by_cases hr : ¬ (48 <= s[j].toNat /\ s[j].toNat <= 57)
  ·have NO := Lib.hid (numEnd_no (l := s.data.toList) (fun i hi e => by
    obtain ⟨u, _, hd, _⟩ := PT.out i hi e
    have hm : s[j] ∈ s.data.toList.drop 0 := List.mem_of_getElem? (i := j - 0) (by rw [List.getElem?_drop, show 0 + (j - 0) = j by omega]; exact hx)
    rw [hd] at hm
    exact hr (dec_digits u _ hm)))
   clear hnum hx hz
   by_cases hc : s[j].toNat < 48
   ·have q1 : decide ((s[j].toNat : Int) < 48) = true := by simp; omega
    go_wp2_with fail
    go_ret2
    exact ⟨by rw [NO.out]; rfl, rfl⟩
   have q1 : decide ((s[j].toNat : Int) < 48) = false := by simp; omega
   have q2 : decide (57 < (s[j].toNat : Int)) = true := by simp; omega
   go_wp2_with fail
   go_ret2
   exact ⟨by rw [NO.out]; rfl, rfl⟩
  replace hr := Classical.not_not.1 hr
  have q1 : decide ((s[j].toNat : Int) < 48) = false := by simp; omega
  have q2 : decide (57 < (s[j].toNat : Int)) = false := by simp; omega
  have ST : Hid ((∃ i, I64 i /\ Lib.itoa i = s.data.toList) -> wrap64 (wrap64 (10 * z) - ((s[j].toNat : Int) - 48)) = numOn 0 ((s.data.toList.drop 0).take (j + 1 - 0))) := fun hex => by
   obtain ⟨i, hi, e⟩ := _root_.id hex
   obtain ⟨u, hu, hd, _⟩ := PT.out i hi e
   rw [hnum hex, show j + 1 - 0 = (j - 0) + 1 by omega]
   exact num_step hu hd (by rw [List.getElem?_drop, show 0 + (j - 0) = j by omega]; exact hx)
  clear hnum hx
  go_wp2_with fail
  go_round
  case rel => exact ⟨j + 1, _, by omega, hlt, by go_num, rfl, wrapI _, ST.out⟩
  case measure => simp [intOf]; omega
 obtain rfl : j = s.size := by omega
 obtain ⟨z2, hz2⟩ : ∃ z2, z2 = wrap64 (-z) := ⟨_, rfl⟩
 have hI : I64 z2 := by rw [hz2]; exact wrapI _
 have UN : ∀ i, I64 i -> Lib.itoa i = s.data.toList -> z2 = i := fun i hi e => by
  obtain ⟨u, hu, hd, hiu⟩ := PT.out i hi e
  have hn := hnum ⟨i, hi, e⟩
  rw [List.take_of_length_le (by rw [List.length_drop, hlen]; exact Nat.le_refl _), hd, numOn_dec] at hn
  obtain ⟨i0, i1⟩ := hi
  simp at hiu
  rw [hz2, IntWalk.wrap64_in _ (by omega)]; omega
 have FG := Lib.hid (figures_any z2 hI w)
 by_cases he : Lib.itoa z2 = s.data.toList
 ·have YES := Lib.hid (numEnd_yes hI he)
  have hB : B (Lib.itoa z2) = s := by rw [he]; rfl
  rw [hB] at FG
  clear hnum UN he hB
  have HZ := Lib.hid hz2
  clear hz2
  go_wp2_with fail
  rw [<- HZ.out]
  refine FG.out.mono ?_
  rintro e w' ⟨rfl, rfl⟩
  go_wp2_with fail
  go_ret2
  exact ⟨by rw [YES.out]; rfl, rfl⟩
 have NO := Lib.hid (numEnd_no (l := s.data.toList) (fun i hi e => he (by rw [UN i hi e]; exact e)))
 have hne : ¬ (B (Lib.itoa z2)).toList = s.toList := fun e => he (by rw [Lib.toList_data, Lib.toList_data, B_data] at e; exact e)
 have hnb : ((B (Lib.itoa z2)).toList == s.toList) = false := by simpa using hne
 clear hnum UN he
 have HZ := Lib.hid hz2
 clear hz2
 generalize B (Lib.itoa z2) = V at *
 go_wp2_with fail
 rw [<- HZ.out]
 refine FG.out.mono ?_
 rintro e w' ⟨rfl, rfl⟩
 go_wp2_with fail
 go_ret2
 exact ⟨by rw [NO.out]; rfl, rfl⟩
theorem number_any (l : List UInt8) (hl : l.length <= 1000000) (w : World) :
  Calls Tryz.prog 65 #[.string (B l)] w fun e w' => e = numEnd l /\ w' = w := by
 have bs := B_size l
 by_cases h1 : 1 <= (B l).size /\ (B l).size <= 20
 ·cases hq : (((B l)[0]'(by omega)).toNat : Int) == 45 with
  | true => exact number_neg (B l) h1.1 h1.2 hq w
  | false => exact number_pos (B l) h1.1 h1.2 hq w
 have NO := Lib.hid (numEnd_no (l := l) (fun i hi e => by
  apply h1
  rw [bs, <- e]
  exact itoa_len hi))
 generalize B l = s at *
 by_cases h0 : s.size < 1
 ·have q1 : decide ((s.size : Int) < 1) = true := by simp; omega
  go_enter Tryz.func65, Tryz.ntmps65
  go_wp2_with fail
  go_ret2
  exact ⟨by rw [NO.out]; rfl, rfl⟩
 have q1 : decide ((s.size : Int) < 1) = false := by simp; omega
 have q2 : decide (20 < (s.size : Int)) = true := by simp; omega
 go_enter Tryz.func65, Tryz.ntmps65
 go_wp2_with fail
 go_ret2
 exact ⟨by rw [NO.out]; rfl, rfl⟩
end Go.Proofs.YtbkeoiefolkjfaaGreatDoor.Fr
namespace Go.Proofs.YtbkeoiefolkjfaaGreatDoor.Sm
open Go.RowKit
theorem take_snoc (s : ByteArray) (k : Nat) (h : k < s.size) : s.data.toList.take (k + 1) = s.data.toList.take k ++ [s[k]] := by
 rw [List.take_succ_eq_append_getElem (by simpa using h)]; rfl
theorem xorb (x c : Nat) (hx : x < 4294967296) (hc : c < 256) : bits .xor .u32 (x : Int) ((c : Int) * 16777216) = ((x ^^^ c * 16777216 : Nat) : Int) := by
 have h := M.m24 c hc
 have e : ((c : Int) * 16777216) = ((c * 16777216 : Nat) : Int) := by omega
 rw [e]
 exact u32_xor_nat _ _ hx h
theorem ret_int {k : IntKind} {a b : Int} (h : a = b) : Ending.returned (.int k a) = .returned (.int k b) := by rw [h]
theorem st_yes (z : Nat) (hz : z < 4294967296) (h : ((z : Int) / 2147483648 == 1) = true) : bits .xor .u32 ((z : Int) * 2 % 4294967296) 79764919 = ((M.st z : Nat) : Int) := by
 have h1 : (z : Int) / 2147483648 = 1 := by simpa using h
 have h2 : z / 2147483648 = 1 := by omega
 unfold M.st
 rw [if_pos h2]
 have e : ((z : Int) * 2 % 4294967296) = ((z * 2 % 4294967296 : Nat) : Int) := by omega
 rw [e]
 exact u32_xor_nat _ 79764919 (Nat.mod_lt _ (by decide)) (by decide)
theorem st_no (z : Nat) (h : ((z : Int) / 2147483648 == 1) = false) : ((z : Int) * 2 % 4294967296) = ((M.st z : Nat) : Int) := by
 have h1 : ¬ (z : Int) / 2147483648 = 1 := by simpa using h
 have h2 : ¬ z / 2147483648 = 1 := by omega
 unfold M.st
 rw [if_neg h2]
 omega
theorem refAdd_any (a : Nat) (ha : a < 4294967296) (s : ByteArray) (w : World) (hs : s.size <= maxLen) :
  Calls Tryz.prog 116 #[.int .u32 a, .string s] w fun e w' => e = .returned (.int .u32 ((4294967295 - M.feed (4294967295 - a) s.data.toList : Nat) : Int)) /\ w = w' := by
 unfold maxLen at hs
 go_enter Tryz.func116, Tryz.ntmps116
 go_wp2
 go_loop [5, 6] (fun x i => ∃ k : Nat, k <= s.size /\ i = .int .i64 k /\ x = .int .u32 (M.feed (4294967295 - a) (s.data.toList.take k) : Nat)) (fun _ i => s.size - (intOf i).toNat)
 case atStart => exact ⟨0, Nat.zero_le _, rfl, by simp [M.feed]; omega⟩
 case round =>
 obtain ⟨k, hk, rfl, rfl⟩ := hrel
 by_cases hlt : k < s.size
 ·have hx := M.feed_lt (s.data.toList.take k) (4294967295 - a) (by omega)
  have hc := s[k].toNat_lt
  have HS : Hid (M.feed (4294967295 - a) (s.data.toList.take (k + 1)) = M.stn 8 (M.feed (4294967295 - a) (s.data.toList.take k) ^^^ s[k].toNat * 16777216)) := by
   rw [take_snoc s k hlt, M.feed_snoc]; rfl
  have hy : M.feed (4294967295 - a) (s.data.toList.take k) ^^^ s[k].toNat * 16777216 < 4294967296 := Nat.xor_lt_two_pow (n := 32) hx (M.m24 _ hc)
  have X := xorb _ _ hx hc
  go_wp2
  clear X
  generalize M.feed (4294967295 - a) (s.data.toList.take k) = x0 at *
  generalize hyy : x0 ^^^ s[k].toNat * 16777216 = y at *
  clear hyy
  go_loop [5, 7] (fun x i => ∃ j : Nat, j <= 8 /\ i = .int .i64 j /\ x = .int .u32 (M.stn j y : Nat)) (fun _ i => 8 - (intOf i).toNat)
  case atStart => exact ⟨0, by omega, rfl, rfl⟩
  case round =>
  obtain ⟨j, hj, rfl, rfl⟩ := hrel
  have hz := M.stn_lt j y hy
  have hst := M.stn_succ j y
  generalize hzz : M.stn j y = z at *
  have HZ := Lib.hid hzz
  clear hzz
  have HQ := Lib.hid hst
  clear hst
  go_wp2
  ·have ht : ((z : Int) / 2147483648 == 1) = true := by assumption
   go_round
   case rel => exact ⟨j + 1, by omega, by go_num, by rw [HQ.out, st_yes z hz ht]⟩
   case measure => simp [intOf]; omega
  ·have ht : ((z : Int) / 2147483648 == 1) = false := by assumption
   go_round
   case rel => exact ⟨j + 1, by omega, by go_num, by rw [HQ.out, st_no z ht]⟩
   case measure => simp [intOf]; omega
  have : j = 8 := by omega
  go_round
  case rel => exact ⟨k + 1, by omega, by go_num, by rw [HS.out, <- HZ.out, this]⟩
  case measure => simp [intOf]; omega
 go_wp2
 have : k = s.size := by omega
 subst this
 go_ret
 have hfl := M.feed_lt s.data.toList (4294967295 - a) (by omega)
 exact ⟨by rw [List.take_of_length_le (by simp)]; exact ret_int (by omega), rfl⟩
def T (k j : Nat) : Nat := if j < k then M.stn 4 (j * 268435456) else 0
def tab (k : Nat) : Array Value := #[.int .u32 (T k 0 : Nat), .int .u32 (T k 1 : Nat), .int .u32 (T k 2 : Nat), .int .u32 (T k 3 : Nat), .int .u32 (T k 4 : Nat), .int .u32 (T k 5 : Nat), .int .u32 (T k 6 : Nat), .int .u32 (T k 7 : Nat), .int .u32 (T k 8 : Nat), .int .u32 (T k 9 : Nat), .int .u32 (T k 10 : Nat), .int .u32 (T k 11 : Nat), .int .u32 (T k 12 : Nat), .int .u32 (T k 13 : Nat), .int .u32 (T k 14 : Nat), .int .u32 (T k 15 : Nat)]
theorem tab_size (k : Nat) : (tab k).size = 16 := rfl
theorem tab_get (k j : Nat) (h : j < 16) : (tab k)[j]? = some (.int .u32 (T k j : Nat)) := by
 match j, h with
 | 0, _ | 1, _ | 2, _ | 3, _ | 4, _ | 5, _ | 6, _ | 7, _ | 8, _ | 9, _ | 10, _ | 11, _ | 12, _ | 13, _ | 14, _ | 15, _ => rfl
 | n + 16, h => omega
theorem tab_set (k : Nat) (h : k < 16) : (tab k).setIfInBounds k (.int .u32 (M.stn 4 (k * 268435456) : Nat)) = tab (k + 1) := by
 apply Array.ext_getElem?
 intro j
 rw [Array.getElem?_setIfInBounds]
 by_cases hj : j < 16
 ·rw [tab_get _ _ hj, tab_get _ _ hj, tab_size]
  by_cases e : k = j
  ·subst e; simp [h, T]
  have : T (k + 1) j = T k j := by unfold T; by_cases a : j < k <;> simp [a] <;> omega
  rw [if_neg e, this]
 have : k ≠ j := by omega
 rw [if_neg this, Array.getElem?_eq_none (by rw [tab_size]; omega), Array.getElem?_eq_none (by rw [tab_size]; omega)]
theorem halves_any (w : World) :
  Calls Tryz.prog 126 #[] w fun e w' => e = .returned (.agg (tab 16)) /\ Below w.heap.size w w' := by
 go_enter Tryz.func126, Tryz.ntmps126
 go_wp2
 go_loopw [3, 5] (fun r i wr => ∃ k : Nat, k <= 16 /\ i = .int .i64 k /\ wr = (w.alloc (.cells #[Value.int IntKind.u32 0, Value.int IntKind.u32 0, Value.int IntKind.u32 0, Value.int IntKind.u32 0, Value.int IntKind.u32 0, Value.int IntKind.u32 0, Value.int IntKind.u32 0, Value.int IntKind.u32 0, Value.int IntKind.u32 0, Value.int IntKind.u32 0, Value.int IntKind.u32 0, Value.int IntKind.u32 0, Value.int IntKind.u32 0, Value.int IntKind.u32 0, Value.int IntKind.u32 0, Value.int IntKind.u32 0] 171)).alloc (.cells (tab k) 171)) (fun _ i _ => 16 - (intOf i).toNat)
 case atStart => exact ⟨0, by omega, rfl, rfl⟩
 case round =>
 obtain ⟨k, hk, rfl, rfl⟩ := hrel
 by_cases hlt : k < 16
 ·have hx : k * 268435456 < 4294967296 := by omega
  go_wp2
  go_loop [3, 11] (fun x i => ∃ j : Nat, j <= 4 /\ i = .int .i64 j /\ x = .int .u32 (M.stn j (k * 268435456) : Nat)) (fun _ i => 4 - (intOf i).toNat)
  case atStart => exact ⟨0, by omega, rfl, by simp [M.stn]⟩
  case round =>
  obtain ⟨j, hj, rfl, rfl⟩ := hrel
  have hz := M.stn_lt j _ hx
  have hst := M.stn_succ j (k * 268435456)
  have ht := tab_get k k hlt
  have hset := tab_set k hlt
  generalize hzz : M.stn j (k * 268435456) = z at *
  have HZ := Lib.hid hzz
  have HQ := Lib.hid hst
  have HS := Lib.hid hset
  clear hzz hst hset
  go_wp2
  ·have ht : ((z : Int) / 2147483648 == 1) = true := by assumption
   go_round
   case rel => exact ⟨j + 1, by omega, by go_num, by rw [HQ.out, st_yes z hz ht]⟩
   case measure => simp [intOf]; omega
  ·have ht : ((z : Int) / 2147483648 == 1) = false := by assumption
   go_round
   case rel => exact ⟨j + 1, by omega, by go_num, by rw [HQ.out, st_no z ht]⟩
   case measure => simp [intOf]; omega
  have : j = 4 := by omega
  go_roundw
  case rel => exact ⟨k + 1, by omega, by go_num, by rw [<- HS.out, <- HZ.out, this]⟩
  case measure => simp [intOf]; omega
 have : k = 16 := by omega
 subst this
 simp only [tab]
 go_wp2
 exact bodyPost_ret (v := .agg (tab 16)) (by simp [results, Tryz.results126, go_sem, tab]) rfl ⟨rfl, by repeat (first | exact Below.refl _ _ | (refine Below.alloc ?_ (by simp) _) | (refine Below.setCell ?_ (by simp) _))⟩
theorem entry (y : Nat) (hy : y < 4294967296) : (tab 16)[y / 268435456]? = some (.int .u32 (M.stn 4 (y / 268435456 * 268435456) : Nat)) := by
 have h : y / 268435456 < 16 := by omega
 rw [tab_get 16 _ h]
 unfold T
 rw [if_pos h]
theorem half (y : Nat) (hy : y < 4294967296) : bits .xor .u32 ((y : Int) * 16 % 4294967296) (M.stn 4 (y / 268435456 * 268435456) : Nat) = ((M.stn 4 y : Nat) : Int) := by
 have h1 : y / 268435456 * 268435456 < 4294967296 := by omega
 have h2 := M.stn_lt 4 _ h1
 rw [M.four y hy]
 have e : ((y : Int) * 16 % 4294967296) = ((y * 16 % 4294967296 : Nat) : Int) := by omega
 rw [e]
 exact u32_xor_nat _ _ (Nat.mod_lt _ (by decide)) h2
theorem feed_any (x : Nat) (hx : x < 4294967296) (s : ByteArray) (w : World) (hs : s.size <= maxLen) :
  Calls Tryz.prog 127 #[.int .u32 x, .agg (tab 16), .string s] w fun e w' => e = .returned (.int .u32 (M.feed x s.data.toList : Nat)) /\ Below w.heap.size w w' := by
 unfold maxLen at hs
 go_enter Tryz.func127, Tryz.ntmps127
 go_wp2
 go_loop [0, 10] (fun r i => ∃ k : Nat, k <= s.size /\ i = .int .i64 k /\ r = .int .u32 (M.feed x (s.data.toList.take k) : Nat)) (fun _ i => s.size - (intOf i).toNat)
 case atStart => exact ⟨0, by omega, rfl, rfl⟩
 case round =>
 obtain ⟨k, hk, rfl, rfl⟩ := hrel
 by_cases hlt : k < s.size
 ·have hx0 := M.feed_lt (s.data.toList.take k) x hx
  have hc := s[k].toNat_lt
  have HS : Hid (M.feed x (s.data.toList.take (k + 1)) = M.stn 4 (M.stn 4 (M.feed x (s.data.toList.take k) ^^^ s[k].toNat * 16777216))) := by
   rw [take_snoc s k hlt, M.feed_snoc]; rfl
  generalize M.feed x (s.data.toList.take k) = x0 at *
  have X := xorb _ _ hx0 hc
  have hy : x0 ^^^ s[k].toNat * 16777216 < 4294967296 := Nat.xor_lt_two_pow (n := 32) hx0 (M.m24 _ hc)
  generalize x0 ^^^ s[k].toNat * 16777216 = y at *
  have hz := M.stn_lt 4 y hy
  have c1 := entry y hy
  have x1 := half y hy
  generalize M.stn 4 y = z at *
  have c2 := entry z hz
  have x2 := half z hz
  go_wp2
  go_round
  case rel => exact ⟨k + 1, by omega, by go_num, by rw [HS.out]⟩
  case measure => simp [intOf]; omega
 go_wp2
 have : k = s.size := by omega
 subst this
 go_ret
 exact ⟨by rw [List.take_of_length_le (by simp)]; rfl, (Below.refl _ _).alloc (Nat.le_refl _) _⟩
def Strs (w : World) (v : Value) (ss : List ByteArray) : Prop :=
 ∃ A cap, v = .slice A ss.length cap /\ (∀ i s, ss[i]? = some s -> ∃ b off, A = some ⟨b, off, none⟩ /\ b < w.heap.size /\ w.cell? ⟨b, off + i, none⟩ = some (.string s))
theorem tab_info : (Tryz.prog.info? 171).map (·.size) = some (tab 16).size := by kernel_rfl
theorem tab_one : (tab 16).all (·.oneCell') = true := by kernel_rfl
theorem compl (x : Nat) (h : x < 4294967296) : bits .xor .u32 IntKind.u32.max (x : Int) = ((4294967295 - x : Nat) : Int) := by
 have e : IntKind.u32.max = ((4294967295 : Nat) : Int) := by decide
 rw [e, u32_xor_nat _ _ (by decide) h]
 congr 1
 apply Nat.eq_of_testBit_eq
 intro i
 have h1 : (4294967295 - x) = 2 ^ 32 - (x + 1) := by omega
 have h2 : (4294967295 : Nat) = 2 ^ 32 - 1 := by decide
 rw [h1, Nat.testBit_xor, Nat.testBit_two_pow_sub_succ h, h2, Nat.testBit_two_pow_sub_one]
 by_cases hi : i < 32
 ·simp [hi]
 have h3 : 2 ^ 32 <= 2 ^ i := Nat.pow_le_pow_right (by decide) (by omega)
 have : x.testBit i = false := Nat.testBit_lt_two_pow (Nat.lt_of_lt_of_le h h3)
 simp [hi, this]
def Row39 (w : World) (B : Nat) : Prop := w.heap[B]? = some (.cells (tab 16) 171 (0, 0))
theorem sum_any (v : Value) (ss : List ByteArray) (w : World) (hv : Strs w v ss) (hl : ss.length <= maxLen) (hs : ∀ (i : Nat) (s : ByteArray), ss[i]? = some s -> s.size <= maxLen) :
  Calls Tryz.prog 91 #[v] w fun e w' => e = .returned (.int .u32 (4294967295 - M.feed 4294967295 (cat ss) : Nat)) /\ Below w.heap.size w w' := by
 obtain ⟨A, cap, rfl, hc⟩ := hv
 unfold maxLen at hl
 go_enter Tryz.func91, Tryz.ntmps91
 go_wp2_with (go_at_call 126; refine (halves_any _).mono ?_; rintro e w1 ⟨rfl, hb1⟩; have hst := run_storeCells_new (P := Tryz.prog) w1 171 #[Value.int IntKind.u32 0, Value.int IntKind.u32 0, Value.int IntKind.u32 0, Value.int IntKind.u32 0, Value.int IntKind.u32 0, Value.int IntKind.u32 0, Value.int IntKind.u32 0, Value.int IntKind.u32 0, Value.int IntKind.u32 0, Value.int IntKind.u32 0, Value.int IntKind.u32 0, Value.int IntKind.u32 0, Value.int IntKind.u32 0, Value.int IntKind.u32 0, Value.int IntKind.u32 0, Value.int IntKind.u32 0] (tab 16) tab_info (by rfl) tab_one; have hsz := tab_size 16)
 clear hst hsz
 have hrow : Row39 (w1.alloc (.cells (tab 16) 171)) w1.heap.size := heap_alloc_last _ _
 have hbw : Below w.heap.size w (w1.alloc (.cells (tab 16) 171)) := hb1.alloc hb1.size _
 have hlt : w.heap.size <= w1.heap.size := hb1.size
 have hlt' : w1.heap.size < (w1.alloc (.cells (tab 16) 171)).heap.size := by simp
 generalize (w1.alloc (.cells (tab 16) 171)) = w2 at *
 generalize w1.heap.size = L at *
 clear hb1
 go_loopw [4, 10] (fun r i wr => ∃ k : Nat, k <= ss.length /\ i = .int .i64 k /\ r = .int .u32 (M.feed 4294967295 (cat (ss.take k)) : Nat) /\ Below w.heap.size w wr /\ Row39 wr L /\ L < wr.heap.size) (fun _ i _ => ss.length - (intOf i).toNat)
 case atStart => exact ⟨0, by omega, rfl, rfl, hbw, hrow, hlt'⟩
 case round =>
 obtain ⟨k, hk, rfl, rfl, hb, hr, hL⟩ := hrel
 by_cases hlt : k < ss.length
 ·obtain ⟨s, hsk⟩ : ∃ s, ss[k]? = some s := ⟨_, List.getElem?_eq_getElem hlt⟩
  obtain ⟨b, off, rfl, hbb, hcell⟩ := hc k s hsk
  have hcw : wr.cell? ⟨b, off + k, none⟩ = some (.string s) := (hb.cell (p := ⟨b, off + k, none⟩) hbb).trans hcell
  have hx := M.feed_lt (cat (ss.take k)) 4294967295 (by decide)
  have HS : Hid (M.feed 4294967295 (cat (ss.take (k + 1))) = M.feed (M.feed 4294967295 (cat (ss.take k))) s.data.toList) := by
   rw [cat_snoc ss k s hsk, M.feed_append]; rfl
  have hsz := hs k s hsk
  generalize M.feed 4294967295 (cat (ss.take k)) = x0 at *
  clear hc hcell hbw hrow hlt' hs hsk
  go_wp2_with (first | (refine wpList_load_row rfl 171 _ rfl L rfl 171 (tab 16) (0, 0) _ hr Tryz.underlying171 rfl tab_info ?_) | (go_at_call 127; refine (feed_any _ hx _ _ hsz).mono ?_; rintro e w3 ⟨rfl, hb3⟩))
  go_roundw
  case rel => exact ⟨k + 1, by omega, by go_num, by rw [HS.out], hb.trans (hb3.mono hb.size), (hb3.block _ hL).trans hr, Nat.lt_of_lt_of_le hL hb3.size⟩
  case measure => simp [intOf]; omega
 have : k = ss.length := by omega
 subst this
 have hfl := M.feed_lt (cat ss) 4294967295 (by decide)
 rw [List.take_length]
 go_wp2
 go_ret
 exact ⟨ret_int (compl _ hfl), hb⟩
end Go.Proofs.YtbkeoiefolkjfaaGreatDoor.Sm
namespace Go.Proofs.YtbkeoiefolkjfaaGreatDoor.Sm
open Go.RowKit
theorem refSum_any (s : ByteArray) (w : World) (hs : s.size <= maxLen) :
  Calls Tryz.prog 78 #[.string s] w fun e w' => e = .returned (.int .u32 (M.crc s.data.toList : Nat)) /\ w = w' := by
 go_enter Tryz.func78, Tryz.ntmps78
 go_wp2_with (go_at_call 116; refine (refAdd_any 0 (by omega) _ _ hs).mono ?_; rintro e w1 ⟨rfl, rfl⟩)
 go_ret
 exact ⟨rfl, rfl⟩
def F (x k j : Nat) : Nat := if j < k then (dg (x / 16 ^ (7 - j) % 16)).toNat else 0
def ftab (x k : Nat) : Array Value := #[.int .u8 (F x k 0 : Nat), .int .u8 (F x k 1 : Nat), .int .u8 (F x k 2 : Nat), .int .u8 (F x k 3 : Nat), .int .u8 (F x k 4 : Nat), .int .u8 (F x k 5 : Nat), .int .u8 (F x k 6 : Nat), .int .u8 (F x k 7 : Nat)]
theorem ftab_get (x k j : Nat) (h : j < 8) : (ftab x k)[j]? = some (.int .u8 (F x k j : Nat)) := by
 match j, h with
 | 0, _ | 1, _ | 2, _ | 3, _ | 4, _ | 5, _ | 6, _ | 7, _ => rfl
 | n + 8, h => omega
theorem ftab_size (x k : Nat) : (ftab x k).size = 8 := rfl
theorem ftab_set (x k : Nat) (h : k < 8) : (ftab x k).setIfInBounds k (.int .u8 ((dg (x / 16 ^ (7 - k) % 16)).toNat : Nat)) = ftab x (k + 1) := by
 apply Array.ext_getElem?
 intro j
 rw [Array.getElem?_setIfInBounds]
 by_cases hj : j < 8
 ·rw [ftab_get _ _ _ hj, ftab_get _ _ _ hj, ftab_size]
  by_cases e : k = j
  ·subst e; simp [h, F]
  have : F x (k + 1) j = F x k j := by unfold F; by_cases a : j < k <;> simp [a] <;> omega
  rw [if_neg e, this]
 have : k ≠ j := by omega
 rw [if_neg this, Array.getElem?_eq_none (by rw [ftab_size]; omega), Array.getElem?_eq_none (by rw [ftab_size]; omega)]
theorem digit_get (d : Nat) (h : d < 16) (h' : d < (⟨#[48, 49, 50, 51, 52, 53, 54, 55, 56, 57, 97, 98, 99, 100, 101, 102]⟩ : ByteArray).size) :
  (⟨#[48, 49, 50, 51, 52, 53, 54, 55, 56, 57, 97, 98, 99, 100, 101, 102]⟩ : ByteArray)[d] = dg d := by
 match d, h with
 | 0, _ | 1, _ | 2, _ | 3, _ | 4, _ | 5, _ | 6, _ | 7, _ | 8, _ | 9, _ | 10, _ | 11, _ | 12, _ | 13, _ | 14, _ | 15, _ => rfl
 | n + 16, h => omega
theorem nib (x k : Nat) (hx : x < 4294967296) (h : k < 8) : x * 16 ^ k % 4294967296 / 268435456 = x / 16 ^ (7 - k) % 16 := by
 match k, h with
 | 0, _ | 1, _ | 2, _ | 3, _ | 4, _ | 5, _ | 6, _ | 7, _ => simp only [Nat.reduceSub, Nat.reducePow]; omega
 | n + 8, h => omega
theorem shl4 (x k : Nat) : ((x * 16 ^ k % 4294967296 : Nat) : Int) * 16 % 4294967296 = ((x * 16 ^ (k + 1) % 4294967296 : Nat) : Int) := by
 rw [Nat.pow_succ, <- Nat.mul_assoc]
 omega
def fnums (x : Nat) : List Int := [(F x 8 0 : Nat), (F x 8 1 : Nat), (F x 8 2 : Nat), (F x 8 3 : Nat), (F x 8 4 : Nat), (F x 8 5 : Nat), (F x 8 6 : Nat), (F x 8 7 : Nat)]
theorem fnums_get (x i : Nat) (h : i < 8) : (fnums x).getD i 0 = (F x 8 i : Nat) := by
 match i, h with
 | 0, _ | 1, _ | 2, _ | 3, _ | 4, _ | 5, _ | 6, _ | 7, _ => rfl
 | n + 8, h => omega
theorem fnums_str (x : Nat) : strOfNums (fnums x) = figs x := by
 simp [strOfNums, fnums, figs, F]
theorem figures_any (x : Nat) (hx : x < 4294967296) (w : World) :
  Calls Tryz.prog 90 #[.int .u32 x] w fun e w' => e = .returned (.string (figs x)) /\ Below w.heap.size w w' := by
 go_enter Tryz.func90, Tryz.ntmps90
 go_wp2
 go_loopw [0, 5] (fun r i wr => ∃ k : Nat, k <= 8 /\ i = .int .i64 k /\ r = .int .u32 (x * 16 ^ k % 4294967296 : Nat) /\ wr = w.alloc (.cells (ftab x k) 170)) (fun _ i _ => 8 - (intOf i).toNat)
 case atStart => exact ⟨0, by omega, rfl, by simp; omega, rfl⟩
 case round =>
 obtain ⟨k, hk, rfl, rfl, rfl⟩ := hrel
 by_cases hlt : k < 8
 ·have hy : x * 16 ^ k % 4294967296 < 4294967296 := Nat.mod_lt _ (by decide)
  have hn := nib x k hx hlt
  have hs := shl4 x k
  generalize x * 16 ^ k % 4294967296 = y at *
  have HN := Lib.hid hn
  have HS := Lib.hid hs
  clear hn hs
  have ht : (ftab x k)[k]? = some (.int .u8 (F x k k : Nat)) := ftab_get x k k hlt
  go_wp2
  go_round
  case rel =>
   refine ⟨k + 1, by omega, by go_num, by rw [HS.out], ?_⟩
   rw [digit_get _ (by omega), HN.out, ftab_set x k hlt]
  case measure => simp [intOf]; omega
 have : k = 8 := by omega
 subst this
 have hcv := run_convert_bytes_arg (P := Tryz.prog) (w.alloc (.cells (ftab x 8) 170)) 131 5 Tryz.underlying131 Tryz.underlying5 w.heap.size 0 8 8 (fnums x) rfl (fun i hi => by
  rw [World.cell?_alloc_at _ _ _ _ rfl, Nat.zero_add, ftab_get x 8 i hi, fnums_get x i hi]) 9 Tryz.underlying9
 rw [fnums_str] at hcv
 go_wp2
 go_ret
 exact ⟨rfl, (Below.refl _ _).alloc (Nat.le_refl _) _⟩
theorem run_dig (y : Nat) (w : World) : (Instr.slice 9 (.string ⟨#[48, 49, 50, 51, 52, 53, 54, 55, 56, 57, 97, 98, 99, 100, 101, 102]⟩) (some (.int .u32 ((y : Int) % 16))) (some (.int .u32 ((y : Int) % 16 + 1))) none).run Tryz.prog w = .ok (.string ⟨#[dg (y % 16)]⟩) w := by
 have hd : y % 16 < 16 := Nat.mod_lt _ (by decide)
 have e : (y : Int) % 16 = ((y % 16 : Nat) : Int) := by omega
 rw [e]
 generalize y % 16 = d at *
 rw [run_slice_string _ _ _ _ _ _ _ Tryz.underlying9 (by omega) (by omega) (by show (d : Int) + 1 <= (16 : Nat); omega)]
 match d, hd with
 | 0, _ | 1, _ | 2, _ | 3, _ | 4, _ | 5, _ | 6, _ | 7, _ | 8, _ | 9, _ | 10, _ | 11, _ | 12, _ | 13, _ | 14, _ | 15, _ => rfl
 | n + 16, h => omega
theorem joined (c : UInt8) (l : List UInt8) : (⟨#[c]⟩ ++ ⟨l.toArray⟩ : ByteArray) = ⟨(c :: l).toArray⟩ := by
 apply ByteArray.ext
 simp
theorem div16 (x k : Nat) : ((x / 16 ^ k : Nat) : Int) / 16 = ((x / 16 ^ (k + 1) : Nat) : Int) := by
 rw [Nat.pow_succ, <- Nat.div_div_eq_div_mul]
 omega
theorem refFigures_any (x : Nat) (hx : x < 4294967296) (w : World) :
  Calls Tryz.prog 77 #[.int .u32 x] w fun e w' => e = .returned (.string (figs x)) /\ w = w' := by
 go_enter Tryz.func77, Tryz.ntmps77
 go_wp2
 go_loop [0, 3, 4] (fun r s i => ∃ k : Nat, k <= 8 /\ i = .int .i64 k /\ r = .int .u32 (x / 16 ^ k : Nat) /\ s = .string ⟨((figs x).data.toList.drop (8 - k)).toArray⟩) (fun _ _ i => 8 - (intOf i).toNat)
 case atStart => exact ⟨0, by omega, rfl, by simp, rfl⟩
 case round =>
 obtain ⟨k, hk, rfl, rfl, rfl⟩ := hrel
 by_cases hlt : k < 8
 ·have hy : x / 16 ^ k < 4294967296 := Nat.lt_of_le_of_lt (Nat.div_le_self _ _) hx
  have HS := Lib.hid (figs_step x k hlt)
  have HD := Lib.hid (div16 x k)
  generalize x / 16 ^ k = y at *
  have hsl := run_dig y w
  have hfs : (figs x).size <= 8 := Nat.le_refl 8
  go_wp2
  go_round
  case rel => exact ⟨k + 1, by omega, by go_num, by rw [HD.out], by rw [HS.out, joined]⟩
  case measure => simp [intOf]; omega
 have : k = 8 := by omega
 subst this
 go_wp2
 go_ret
 exact ⟨rfl, rfl⟩
end Go.Proofs.YtbkeoiefolkjfaaGreatDoor.Sm
namespace Go.Proofs.YtbkeoiefolkjfaaGreatDoor.Sm
open Go.RowKit
theorem idx_fin : ∀ c : Fin 256, Lib.indexByte DIG (UInt8.ofNat c.val) = ix c.val := by decide +kernel
theorem idx (c : UInt8) : Lib.indexByte DIG c = ix c.toNat := by
 have := idx_fin ⟨c.toNat, c.toNat_lt⟩
 simpa using this
def takeV (l : List UInt8) : Value := match takes l with
 | some n => .tuple #[.int .u32 (n : Nat), .bool true]
 | none => .tuple #[.int .u32 0, .bool false]
theorem takeV_len {l : List UInt8} (h : l.length ≠ 8) : takeV l = .tuple #[.int .u32 0, .bool false] := by
 unfold takeV takes; rw [if_neg h]
theorem takeV_some {l : List UInt8} {n : Nat} (hl : l.length = 8) (h : tk 0 l = some n) : takeV l = .tuple #[.int .u32 (n : Nat), .bool true] := by
 unfold takeV takes; rw [if_pos hl, h]
theorem takeV_none {l : List UInt8} (hl : l.length = 8) (h : tk 0 l = none) : takeV l = .tuple #[.int .u32 0, .bool false] := by
 unfold takeV takes; rw [if_pos hl, h]
theorem or4 (x d : Nat) (hx : x < 4294967296) (hd : d < 16) : bits .or .u32 ((x : Int) * 16 % 4294967296) (d : Int) = ((x * 16 % 4294967296 + d : Nat) : Int) := by
 have e : ((x : Int) * 16 % 4294967296) = ((x * 16 % 4294967296 : Nat) : Int) := by omega
 rw [e, u32_or_nat _ _ (Nat.mod_lt _ (by decide)) (by omega), nat_join 4 _ _ (by omega) (by omega)]
theorem index_any (c : UInt8) (w : World) :
  Calls Tryz.prog 142 #[.string ⟨#[48, 49, 50, 51, 52, 53, 54, 55, 56, 57, 97, 98, 99, 100, 101, 102]⟩, .int .u8 (c.toNat : Int)] w fun e w' => e = .returned (.int .i64 (ix c.toNat)) /\ w = w' :=
 (Tryz.strings_IndexByte _ _ w).mono fun _ _ ⟨he, hw⟩ => ⟨by rw [he]; exact ret_int (by rw [<- idx c]; simp [DIG]), hw.symm⟩
theorem index_none (c : UInt8) (h : val c.toNat = none) (w : World) :
  Calls Tryz.prog 142 #[.string ⟨#[48, 49, 50, 51, 52, 53, 54, 55, 56, 57, 97, 98, 99, 100, 101, 102]⟩, .int .u8 (c.toNat : Int)] w fun e w' => e = .returned (.int .i64 (-1)) /\ w = w' :=
 (index_any c w).mono fun _ _ ⟨he, hw⟩ => ⟨by rw [he, ix, h], hw⟩
theorem index_some (c : UInt8) (d : Nat) (h : val c.toNat = some d) (w : World) :
  Calls Tryz.prog 142 #[.string ⟨#[48, 49, 50, 51, 52, 53, 54, 55, 56, 57, 97, 98, 99, 100, 101, 102]⟩, .int .u8 (c.toNat : Int)] w fun e w' => e = .returned (.int .i64 (d : Int)) /\ w = w' :=
 (index_any c w).mono fun _ _ ⟨he, hw⟩ => ⟨by rw [he, ix, h], hw⟩
theorem take_any (s : ByteArray) (w : World) (hs : s.size <= maxLen) :
  Calls Tryz.prog 108 #[.string s] w fun e w' => e = .returned (takeV s.data.toList) /\ w = w' := by
 unfold maxLen at hs
 by_cases h8 : s.size = 8
 ·have hb : (!((s.size : Int) == 8)) = false := by simp [h8]
  have hb2 : ((s.size : Int) != 8) = false := by simp [h8]
  have H8 := Lib.hid h8
  have hle : s.size <= 8 := by omega
  clear h8
  go_enter Tryz.func108, Tryz.ntmps108
  go_wp2_with fail
  go_loop [4, 12] (fun r i => ∃ k x : Nat, k <= s.size /\ x < 4294967296 /\ i = .int .i64 k /\ r = .int .u32 (x : Nat) /\ tk 0 s.data.toList = tk x (s.data.toList.drop k)) (fun _ i => s.size - (intOf i).toNat)
  case atStart => exact ⟨0, 0, by omega, by omega, rfl, rfl, rfl⟩
  case round =>
  obtain ⟨k, x, hk, hx, rfl, rfl, htk⟩ := hrel
  have HT := Lib.hid htk
  clear htk
  by_cases hlt : k < s.size
  ·have hsplit : s.data.toList.drop k = s[k] :: s.data.toList.drop (k + 1) := by
    rw [List.drop_eq_getElem_cons (by simpa using hlt)]; rfl
   cases hv : val s[k].toNat with
   | none =>
    have HN : Hid (tk 0 s.data.toList = none) := by
     show _ = _
     rw [HT.out, hsplit, tk, hv]
    clear hsplit
    go_wp2_with fail
    refine (index_none _ hv _).mono ?_
    clear hv
    rintro e w1 ⟨rfl, rfl⟩
    go_wp2_with fail
    go_ret2
    exact ⟨by rw [takeV_none (by simpa using H8.out) HN.out]; rfl, rfl⟩
   | some d =>
   have hd := val_lt hv
   have HN : Hid (tk 0 s.data.toList = tk (x * 16 % 4294967296 + d) (s.data.toList.drop (k + 1))) := by
    show _ = _
    rw [HT.out, hsplit, tk, hv]
   clear hsplit
   have ho := or4 x d hx hd
   go_wp2_with fail
   refine (index_some _ _ hv _).mono ?_
   clear hv
   rintro e w1 ⟨rfl, rfl⟩
   go_wp2_with fail
   go_round
   case rel => exact ⟨k + 1, x * 16 % 4294967296 + d, by omega, by omega, by go_num, rfl, HN.out⟩
   case measure => simp [intOf]; omega
  have HN : Hid (tk 0 s.data.toList = some x) := by
   show _ = _
   rw [HT.out, List.drop_of_length_le (by simp; omega)]; rfl
  go_wp2
  go_ret2
  exact ⟨by rw [takeV_some (by simpa using H8.out) HN.out]; rfl, rfl⟩
 have hb : (!((s.size : Int) == 8)) = true := by simp; omega
 have hb2 : ((s.size : Int) != 8) = true := by simp; omega
 go_enter Tryz.func108, Tryz.ntmps108
 go_wp2_with fail
 go_ret2
 exact ⟨by rw [takeV_len (by simpa using h8)]; rfl, rfl⟩
theorem takeV_of {l : List UInt8} {n : Nat} (h : takes l = some n) : takeV l = .tuple #[.int .u32 (n : Nat), .bool true] := by unfold takeV; rw [h]
theorem takeV_not {l : List UInt8} (h : takes l = none) : takeV l = .tuple #[.int .u32 0, .bool false] := by unfold takeV; rw [h]
theorem take_no (s : ByteArray) (h : takes s.data.toList = none) (w : World) (hs : s.size <= maxLen) :
  Calls Tryz.prog 108 #[.string s] w fun e w' => e = .returned (.tuple #[.int .u32 0, .bool false]) /\ w = w' :=
 (take_any s w hs).mono fun _ _ ⟨he, hw⟩ => ⟨by rw [he, takeV_not h], hw⟩
end Go.Proofs.YtbkeoiefolkjfaaGreatDoor.Sm
namespace Go.Proofs.YtbkeoiefolkjfaaGreatDoor.Fr
open Go.RowKit Go.Shelf
attribute [local go_sem] Oper.semAt_some
theorem mkB (l : List UInt8) : (⟨l.toArray⟩ : ByteArray) = B l := rfl
theorem fits_any (n : Int) (w : World) : Calls Tryz.prog 109 #[.int .i64 n] w fun e w' => e = .returned (.bool (decide (2 <= n /\ n <= 50000))) /\ w' = w := by
 by_cases h1 : 2 <= n
 ·by_cases h2 : n <= 50000
  ·have e : decide (2 <= n /\ n <= 50000) = true := by simp [h1, h2]
   rw [e]
   go_enter Tryz.func109, Tryz.ntmps109
   go_wp2_with fail
   go_ret
   exact ⟨rfl, rfl⟩
  have e : decide (2 <= n /\ n <= 50000) = false := by simp [h2]
  rw [e]
  go_enter Tryz.func109, Tryz.ntmps109
  go_wp2_with fail
  go_ret
  exact ⟨rfl, rfl⟩
 have e : decide (2 <= n /\ n <= 50000) = false := by simp [h1]
 rw [e]
 go_enter Tryz.func109, Tryz.ntmps109
 go_wp2_with fail
 go_ret
 exact ⟨rfl, rfl⟩
theorem partIf_yes (w : World) : Calls Tryz.prog 57 #[.bool true] w fun e w' => e = .returned (.tuple #[.int .i64 2, .string (B []), .int .i64 0]) /\ w' = w := by
 go_enter Tryz.func57, Tryz.ntmps57
 go_wp2_with fail
 go_ret3
 exact ⟨rfl, rfl⟩
theorem partIf_no (w : World) : Calls Tryz.prog 57 #[.bool false] w fun e w' => e = .returned (.tuple #[.int .i64 3, .string (B []), .int .i64 0]) /\ w' = w := by
 go_enter Tryz.func57, Tryz.ntmps57
 go_wp2_with fail
 go_ret3
 exact ⟨rfl, rfl⟩
theorem grow_below {w : World} (n : Nat) (os : Array Obj) : Below w.heap.size w (Go.Sort.grow (w.drewN n) os) :=
 ⟨rfl, rfl, rfl, by rw [Go.Sort.size_grow]; exact Nat.le_add_right _ _, fun k hk => Go.Sort.heap_grow_old _ _ hk⟩
theorem itoa_any (n : Nat) (hn : n <= 9223372036854775807) (w : World) (ht : TabsN w) : Calls Tryz.prog 117 #[.int .i64 (n : Int)] w fun e w' => e = .returned (.string (B (Lib.decDigits n))) /\ Below w.heap.size w w' :=
 (Tryz.strconv_Itoa n (by omega) (by omega) w ht.pow).mono fun e w' ⟨he, k, os, hw⟩ => ⟨by rw [he, Lib.itoa_nonneg]; rfl, by rw [hw]; exact grow_below k os⟩
theorem dec_size (n : Nat) (hn : n <= 9223372036854775807) : (B (Lib.decDigits n)).size <= 20 := by
 rw [B_size, Lib.decDigits_length]
 exact Lib.nDigits_le20 n (by omega)
theorem head_any (n : Nat) (hn : n <= 9223372036854775807) (f : List UInt8) (hf : f.length <= 1000000) (w : World) (ht : TabsN w) :
  Calls Tryz.prog 89 #[.int .i64 (n : Int), .string (B f)] w fun e w' => e = .returned (.string (B (headR n f))) /\ Below w.heap.size w w' := by
 have IT := Lib.hid (itoa_any n hn w ht)
 have E : Hid ((⟨#[37, 97, 109, 101, 110, 100, 32]⟩ : ByteArray) ++ B (Lib.decDigits n) ++ ⟨#[32]⟩ ++ B f = B (headR n f)) := by
  show _ = _
  rw [show (⟨#[37, 97, 109, 101, 110, 100, 32]⟩ : ByteArray) = B AMD from rfl, show (⟨#[32]⟩ : ByteArray) = B [32] from rfl, B_append, B_append, B_append]
  unfold headR; simp
 have hs := dec_size n hn
 have hfs : (B f).size <= 1000000 := by rw [B_size]; exact hf
 generalize B (Lib.decDigits n) = d at *
 generalize B f = g at *
 have s1 : ((⟨#[37, 97, 109, 101, 110, 100, 32]⟩ : ByteArray) ++ d).size <= 27 := by rw [ByteArray.size_append]; show 7 + _ <= _; omega
 have s2 : ((⟨#[37, 97, 109, 101, 110, 100, 32]⟩ : ByteArray) ++ d ++ ⟨#[32]⟩).size <= 28 := by rw [ByteArray.size_append]; show _ + 1 <= _; omega
 clear ht
 go_enter Tryz.func89, Tryz.ntmps89
 go_wp2_with fail
 refine IT.out.mono ?_
 rintro e w1 ⟨rfl, hb⟩
 go_wp2_with fail
 go_ret
 exact ⟨by rw [<- E.out]; rfl, hb⟩
theorem foot_any (n : Nat) (hn : n <= 9223372036854775807) (w : World) (ht : TabsN w) :
  Calls Tryz.prog 92 #[.int .i64 (n : Int)] w fun e w' => e = .returned (.string (B (footR n))) /\ Below w.heap.size w w' := by
 have IT := Lib.hid (itoa_any n hn w ht)
 have E : Hid ((⟨#[37, 101, 110, 100, 32]⟩ : ByteArray) ++ B (Lib.decDigits n) ++ ⟨#[10]⟩ = B (footR n)) := by
  show _ = _
  rw [show (⟨#[37, 101, 110, 100, 32]⟩ : ByteArray) = B END from rfl, show (⟨#[10]⟩ : ByteArray) = B [10] from rfl, B_append, B_append]
  unfold footR; simp
 have hs := dec_size n hn
 generalize B (Lib.decDigits n) = d at *
 have s1 : ((⟨#[37, 101, 110, 100, 32]⟩ : ByteArray) ++ d).size <= 25 := by rw [ByteArray.size_append]; show 5 + _ <= _; omega
 clear ht
 go_enter Tryz.func92, Tryz.ntmps92
 go_wp2_with fail
 refine IT.out.mono ?_
 rintro e w1 ⟨rfl, hb⟩
 go_wp2_with fail
 go_ret
 exact ⟨by rw [<- E.out]; rfl, hb⟩
end Go.Proofs.YtbkeoiefolkjfaaGreatDoor.Fr
