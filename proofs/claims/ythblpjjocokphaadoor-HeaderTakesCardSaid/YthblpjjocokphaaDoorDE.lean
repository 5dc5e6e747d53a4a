/- Figures and numbers: the program's, the document's (own copies, where the batches' texts are not there). -/
import Derived.Test.YthblpjjocokphaaDoorDC
import Derived.Test.YthblpjjocokphaaDoorFS
import Derived.Test.YthblpjjocokphaaDoorS
import Derived.WideShapes
namespace Go.Proofs.YthblpjjocokphaaDoor.Fr
open Go.RowKit Go.Shelf
attribute [local go_sem] Oper.semAt_some
theorem var_below {P : Program} {w w' : World} {N : Nat} {name : String} {cs : Array Value} (h : w.var? P name = some cs) (hb : Below N w w') (hN : w.heap.size ≤ N) : w'.var? P name = some cs := by
  unfold World.var? at *
  cases hg : P.globalNamed name with
  | none => simp [hg] at h
  | some g =>
    simp only [hg, Option.bind_some] at h ⊢
    have hlt : g < w.heap.size := by
      rcases Nat.lt_or_ge g w.heap.size with h' | h'
      · exact h'
      · rw [Array.getElem?_eq_none h'] at h; simp at h
    rw [hb.block g (by omega)]
    exact h
/-- What the variables hold that the library reads: the powers of ten, the two errors of strconv. -/
structure TabsN (w : World) : Prop where
  pow : Lib.TabIs Tryd.prog w "internal/strconv.uint64pow10" .u64 Lib.pow10Tab
  syn : ∃ tp p, w.var? Tryd.prog "strconv.ErrSyntax" = some #[.iface tp p]
  ran : ∃ tp p, w.var? Tryd.prog "strconv.ErrRange" = some #[.iface tp p]
theorem TabsN.below {w w' : World} {N : Nat} (h : TabsN w) (hb : Below N w w') (hN : w.heap.size ≤ N) : TabsN w' := by
  obtain ⟨a, ⟨t1, p1, c⟩, ⟨t2, p2, d⟩⟩ := h
  exact ⟨var_below a hb hN, ⟨t1, p1, var_below c hb hN⟩, ⟨t2, p2, var_below d hb hN⟩⟩
theorem freeze_below {N : Nat} {w w' : World} (h : Below N w w') {p : Addr} (hp : N ≤ p.block) (k : Nat) : Below N w (w'.freeze p k) := by
  unfold World.freeze
  by_cases hk : k = 0
  · rw [if_pos hk]; exact h
  · rw [if_neg hk]
    refine ⟨h.os, h.tape, h.output, ?_, fun j hj => ?_⟩
    · simp; exact h.size
    · simp only [Array.getElem?_modify]
      rw [if_neg (by omega)]
      exact h.block j hj
theorem bytes_below (w : World) (e : TypeId) (s : ByteArray) : Below w.heap.size w (Lib.bytesWorld w e s) := by
  unfold Lib.bytesWorld
  exact freeze_below ((Below.refl _ w).drew.alloc (Nat.le_refl _) _) (Nat.le_refl _) _
theorem atoi_any (l : List UInt8) (hl : l.length ≤ 1000000) (w : World) (ht : TabsN w) :
    Calls Tryd.prog 20 #[.string (B l)] w fun e w' => (∃ T q, e = .returned (.tuple #[.int .i64 (atoiV l), .nilIface]) ∨ e = .returned (.tuple #[.int .i64 (atoiV l), .iface T q])) ∧ Below w.heap.size w w' := by
  cases h : Lib.atoiAll l with
  | ok v =>
    refine (Tryd.strconv_Atoi_ok (B l) (by rw [B_size]; omega) v (by rw [B_data]; exact h) w).mono ?_
    rintro e w' ⟨rfl, hw⟩
    refine ⟨⟨0, undef, .inl (by unfold atoiV; rw [h])⟩, ?_⟩
    rcases hw with rfl | ⟨t, rfl⟩
    · exact Below.refl _ _
    · exact bytes_below _ _ _
  | range =>
    obtain ⟨tp, p, hv⟩ := ht.ran
    refine (Tryd.strconv_Atoi_range_var (B l) (by rw [B_size]; omega) (by rw [B_data]; exact h) tp p w hv).mono ?_
    rintro e w' ⟨N, rfl, _, _, hb⟩
    exact ⟨⟨_, _, .inr (by unfold atoiV; rw [h, B_data])⟩, hb⟩
  | _ =>
    obtain ⟨tp, p, hv⟩ := ht.syn
    refine (Tryd.strconv_Atoi_syntax_var (B l) (by rw [B_size]; omega) (by rw [B_data]; exact h) tp p w hv).mono ?_
    rintro e w' ⟨N, rfl, _, _, hb⟩
    exact ⟨⟨_, _, .inr (by unfold atoiV; rw [h])⟩, hb⟩
set_option maxRecDepth 100000 in
set_option maxHeartbeats 4000000 in
theorem unsigned_any (u : Nat) (hu : u < 18446744073709551616) (w : World) : Calls Tryd.prog 24 #[.int .u64 u] w fun e w' => e = .returned (.string (B (Lib.decDigits u))) ∧ w' = w := by
  induction u using Nat.strongRecOn generalizing w with
  | _ u ih =>
    by_cases h : u < 10
    · rw [Lib.decDigits_one h]
      clear ih hu
      obtain rfl | rfl | rfl | rfl | rfl | rfl | rfl | rfl | rfl | rfl : u = 0 ∨ u = 1 ∨ u = 2 ∨ u = 3 ∨ u = 4 ∨ u = 5 ∨ u = 6 ∨ u = 7 ∨ u = 8 ∨ u = 9 := by omega
      all_goals
        go_enter Tryd.func24, Tryd.ntmps24
        go_wp2_with fail
        go_ret
        exact ⟨by kernel_rfl, rfl⟩
    · have q : ¬ (u : Int) < 10 := by omega
      have I1 := Lib.hid (ih (u / 10) (by omega) (by omega))
      have I2 := Lib.hid (ih (u % 10) (by omega) (by omega))
      rw [Int.natCast_ediv] at I1
      rw [Int.natCast_emod] at I2
      have E : Hid (B (Lib.decDigits (u / 10)) ++ B (Lib.decDigits (u % 10)) = B (Lib.decDigits u)) := by
        show _ = _
        rw [B_append, Lib.decDigits_one (i := u % 10) (by omega)]
        congr 1
        conv => rhs; rw [Lib.decDigits, dif_neg h]
      have S1 : (B (Lib.decDigits (u / 10))).size ≤ 30 := by
        rw [B_size, Lib.decDigits_length]
        have := Lib.nDigits_le20 (u / 10) (by omega)
        omega
      have S2 : (B (Lib.decDigits (u % 10))).size ≤ 30 := by rw [B_size, Lib.decDigits_one (by omega)]; exact (by decide : 1 ≤ 30)
      clear ih
      generalize B (Lib.decDigits (u / 10)) = x at *
      generalize B (Lib.decDigits (u % 10)) = y at *
      go_enter Tryd.func24, Tryd.ntmps24
      go_wp2_with fail
      refine (I1.out _).mono ?_
      rintro e w1 ⟨rfl, rfl⟩
      go_wp2_with fail
      refine (I2.out _).mono ?_
      rintro e w1 ⟨rfl, rfl⟩
      go_wp2_with fail
      go_ret
      exact ⟨by rw [← E.out]; rfl, rfl⟩
set_option maxRecDepth 100000 in
set_option maxHeartbeats 4000000 in
theorem figures_any (n : Int) (hn : I64 n) (w : World) : Calls Tryd.prog 17 #[.int .i64 n] w fun e w' => e = .returned (.string (B (Lib.itoa n))) ∧ w' = w := by
  obtain ⟨h0, h1⟩ := hn
  by_cases h : n < 0
  · obtain ⟨u, rfl⟩ : ∃ u : Nat, n = -((u : Int) + 1) := ⟨(-n - 1).toNat, by omega⟩
    have q : -((u : Int) + 1) < 0 := by omega
    have w1 : IntKind.i64.wrap (-((u : Int) + 1) + 1) = -(u : Int) := by rw [show -((u : Int) + 1) + 1 = -(u : Int) by omega]; exact IntWalk.i64_in _ (by omega)
    have w2 : IntKind.i64.wrap (u : Int) = (u : Int) := IntWalk.i64_in _ (by omega)
    have w3 : IntKind.u64.wrap (u : Int) = (u : Int) := by rw [IntKind.wrap_u64]; omega
    have w4 : IntKind.u64.wrap ((u : Int) + 1) = (u : Int) + 1 := by rw [IntKind.wrap_u64]; omega
    have I1 := Lib.hid (unsigned_any (u + 1) (by omega) w)
    rw [Int.natCast_add, show ((1 : Nat) : Int) = 1 from rfl] at I1
    have E : Hid ((⟨#[45]⟩ : ByteArray) ++ B (Lib.decDigits (u + 1)) = B (Lib.itoa (-((u : Int) + 1)))) := by
      show _ = _
      rw [show -((u : Int) + 1) = -((u + 1 : Nat) : Int) by omega, Lib.itoa_neg _ (by omega), show (⟨#[45]⟩ : ByteArray) = B [45] from rfl, B_append]; rfl
    have S1 : (B (Lib.decDigits (u + 1))).size ≤ 30 := by
      rw [B_size, Lib.decDigits_length]
      have := Lib.nDigits_le20 (u + 1) (by omega)
      omega
    generalize B (Lib.decDigits (u + 1)) = x at *
    go_enter Tryd.func17, Tryd.ntmps17
    go_wp2_with fail
    refine I1.out.mono ?_
    rintro e w1 ⟨rfl, rfl⟩
    go_wp2_with fail
    go_ret
    exact ⟨by rw [← E.out]; rfl, rfl⟩
  · obtain ⟨u, rfl⟩ : ∃ u : Nat, n = (u : Int) := ⟨n.toNat, by omega⟩
    have w3 : IntKind.u64.wrap (u : Int) = (u : Int) := by rw [IntKind.wrap_u64]; omega
    have I1 := Lib.hid (unsigned_any u (by omega) w)
    rw [Lib.itoa_nonneg]
    generalize B (Lib.decDigits u) = x at *
    go_enter Tryd.func17, Tryd.ntmps17
    go_wp2_with fail
    refine I1.out.mono ?_
    rintro e w1 ⟨rfl, rfl⟩
    go_wp2_with fail
    go_ret
    exact ⟨rfl, rfl⟩
/-- The number that shortest figures are; none: they aren't. -/
def numL (l : List UInt8) : Option Int := if -9223372036854775808 ≤ atoiV l ∧ atoiV l ≤ 9223372036854775807 ∧ Lib.itoa (atoiV l) = l then some (atoiV l) else none
theorem numL_some {l : List UInt8} {i : Int} : numL l = some i ↔ I64 i ∧ Lib.itoa i = l := by
  unfold numL
  constructor
  · intro h
    split at h
    · rename_i q
      injection h with h
      subst h
      exact ⟨⟨q.1, q.2.1⟩, q.2.2⟩
    · cases h
  · rintro ⟨h1, rfl⟩
    rw [atoiV_itoa h1, if_pos ⟨h1.1, h1.2, rfl⟩]
theorem numL_none {l : List UInt8} (h : ∀ i, I64 i → Lib.itoa i ≠ l) : numL l = none := by
  cases e : numL l with
  | none => rfl
  | some i => exact absurd (numL_some.1 e).2 (h i (numL_some.1 e).1)
def numEnd (l : List UInt8) : Ending := .returned (.tuple #[.int .i64 ((numL l).getD 0), .bool (numL l).isSome])
theorem numEnd_no {l : List UInt8} (h : ∀ i, I64 i → Lib.itoa i ≠ l) : numEnd l = .returned (.tuple #[.int .i64 0, .bool false]) := by unfold numEnd; rw [numL_none h]; rfl
theorem numEnd_yes {l : List UInt8} {i : Int} (h : I64 i) (e : Lib.itoa i = l) : numEnd l = .returned (.tuple #[.int .i64 i, .bool true]) := by unfold numEnd; rw [numL_some.2 ⟨h, e⟩]; rfl
theorem dec_pos (u : Nat) (h : u < 18446744073709551616) : 1 ≤ (Lib.decDigits u).length ∧ (Lib.decDigits u).length ≤ 20 := by
  refine ⟨?_, by rw [Lib.decDigits_length]; exact Lib.nDigits_le20 u h⟩
  rcases Nat.eq_zero_or_pos (Lib.decDigits u).length with q | q
  · exact absurd (List.length_eq_zero_iff.1 q) (dec_ne u)
  · exact q
theorem itoa_len {i : Int} (h : I64 i) : 1 ≤ (Lib.itoa i).length ∧ (Lib.itoa i).length ≤ 20 := by
  obtain ⟨h0, h1⟩ := h
  have hnd : ∀ u : Nat, u ≤ 9223372036854775808 → (Lib.decDigits u).length ≤ 19 := fun u hu => by
    rcases Nat.lt_or_ge 19 (Lib.decDigits u).length with q | q
    · exfalso
      rw [Lib.decDigits_length] at q
      have : ∀ n u : Nat, n < Lib.nDigits u → 10 ^ n ≤ u ∨ n = 0 := by
        intro n
        induction n with
        | zero => exact fun _ _ => .inr rfl
        | succ n ih =>
          intro u hq
          rw [Lib.nDigits] at hq
          split at hq
          · omega
          · rcases ih (u / 10) (by omega) with z | z
            · left; rw [Nat.pow_succ]; omega
            · subst z; left; omega
      rcases this 19 u q with z | z
      · have : (10 : Nat) ^ 19 = 10000000000000000000 := by decide
        omega
      · omega
    · exact q
  unfold Lib.itoa
  split
  · rw [List.length_cons]
    have := hnd i.natAbs (by omega)
    omega
  · exact ⟨(dec_pos _ (by omega)).1, (dec_pos _ (by omega)).2⟩
theorem wrapI (z : Int) : I64 (wrap64 z) := by unfold I64 wrap64; omega
/-- What shortest figures are made of: a sign, digits. -/
theorem itoa_parts {i : Int} (hi : I64 i) {l : List UInt8} (h : Lib.itoa i = l) (a : Nat) (ha : a = if l.head? = some 45 then 1 else 0) :
    ∃ u : Nat, u ≤ 9223372036854775808 ∧ l.drop a = Lib.decDigits u ∧ i = (if a = 1 then -(u : Int) else u) := by
  obtain ⟨h0, h1⟩ := hi
  subst h
  by_cases hn : i < 0
  · have e : Lib.itoa i = 45 :: Lib.decDigits i.natAbs := by unfold Lib.itoa; rw [if_pos hn]
    rw [e] at ha ⊢
    rw [if_pos (by rfl)] at ha
    subst ha
    exact ⟨i.natAbs, by omega, rfl, by simp; omega⟩
  · have e : Lib.itoa i = Lib.decDigits i.toNat := by unfold Lib.itoa; rw [if_neg hn]
    have hd : (Lib.decDigits i.toNat).head? ≠ some 45 := fun q => by
      have := dec_digits i.toNat 45 (List.mem_of_mem_head? q)
      simp at this
    rw [e] at ha ⊢
    rw [if_neg hd] at ha
    subst ha
    exact ⟨i.toNat, by omega, rfl, by simp; omega⟩
/-- One digit more. -/
theorem num_step {u : Nat} (hu : u ≤ 9223372036854775808) {ds : List UInt8} (hd : ds = Lib.decDigits u) {j : Nat} {x : UInt8} (hx : ds[j]? = some x) :
    wrap64 (wrap64 (10 * numOn 0 (ds.take j)) - ((x.toNat : Int) - 48)) = numOn 0 (ds.take (j + 1)) := by
  subst hd
  have e : (Lib.decDigits u).take (j + 1) = (Lib.decDigits u).take j ++ [x] := by rw [List.take_add_one, hx]; rfl
  obtain ⟨m', e', hm'⟩ := numOn_take u (j + 1)
  obtain ⟨m, e1, hm⟩ := numOn_take u j
  have hxd := dec_digits u x (List.mem_of_getElem? hx)
  rw [e, numOn_snoc, e1] at e' ⊢
  rw [IntWalk.wrap64_in (10 * -(m : Int)) (by omega), IntWalk.wrap64_in _ (by omega)]
set_option maxRecDepth 100000 in
set_option maxHeartbeats 8000000 in
theorem number_neg (s : ByteArray) (h1 : 1 ≤ s.size) (h20 : s.size ≤ 20) (hq : ((s[0].toNat : Int) == 45) = true) (w : World) :
    Calls Tryd.prog 22 #[.string s] w fun e w' => e = numEnd s.data.toList ∧ w' = w := by
  have h2 : decide ((s.size : Int) < 1) = false := by simp; omega
  have h3 : decide (20 < (s.size : Int)) = false := by simp; omega
  have AT : ∀ (k : Nat) (h : k < s.size), s.data.toList[k]? = some s[k] := fun k h => by
    rw [List.getElem?_eq_getElem (by rw [← Lib.size_eq]; exact h)]; rfl
  have hhd : s.data.toList.head? = some s[0] := by rw [List.head?_eq_getElem?]; exact AT 0 (by omega)
  have hA : 1 = if s.data.toList.head? = some 45 then 1 else 0 := by
    rw [hhd]
    rw [if_pos (by congr 1; apply UInt8.toNat_inj.1; have e3 : (45 : UInt8).toNat = 45 := rfl; have := eq_of_beq hq; omega)]
  have PT : Hid (∀ i, I64 i → Lib.itoa i = s.data.toList → ∃ u : Nat, u ≤ 9223372036854775808 ∧ s.data.toList.drop 1 = Lib.decDigits u ∧ i = (if 1 = 1 then -(u : Int) else u)) := fun i hi e => itoa_parts hi e 1 hA
  have HAT := Lib.hid AT
  have hlen : s.data.toList.length = s.size := (Lib.size_eq s).symm
  clear AT hA hhd
  go_enter Tryd.func22, Tryd.ntmps22
  go_wp2_with fail
  go_loop [5, 6] (fun o i => ∃ (j : Nat) (z : Int), 1 ≤ j ∧ j ≤ s.size ∧ i = .int .i64 j ∧ o = .int .i64 z ∧ I64 z ∧ ((∃ i, I64 i ∧ Lib.itoa i = s.data.toList) → z = numOn 0 ((s.data.toList.drop 1).take (j - 1)))) (fun _ i => s.size - (intOf i).toNat)
  case atStart => exact ⟨1, 0, Nat.le_refl _, by omega, rfl, rfl, ⟨by decide, by decide⟩, fun _ => rfl⟩
  case round =>
    obtain ⟨j, z, hj1, hj, rfl, rfl, hz, hnum⟩ := hrel
    obtain ⟨z0, z1⟩ := _root_.id hz
    by_cases hlt : j < s.size
    · have hb := s[j].toNat_lt
      have hx := HAT.out j hlt
      by_cases hr : ¬ (48 ≤ s[j].toNat ∧ s[j].toNat ≤ 57)
      · have NO := Lib.hid (numEnd_no (l := s.data.toList) (fun i hi e => by
          obtain ⟨u, _, hd, _⟩ := PT.out i hi e
          have hm : s[j] ∈ s.data.toList.drop 1 := List.mem_of_getElem? (i := j - 1) (by rw [List.getElem?_drop, show 1 + (j - 1) = j by omega]; exact hx)
          rw [hd] at hm
          exact hr (dec_digits u _ hm)))
        clear hnum hx hz
        by_cases hc : s[j].toNat < 48
        · have q1 : decide ((s[j].toNat : Int) < 48) = true := by simp; omega
          go_wp2_with fail
          go_ret2
          exact ⟨by rw [NO.out]; rfl, rfl⟩
        · have q1 : decide ((s[j].toNat : Int) < 48) = false := by simp; omega
          have q2 : decide (57 < (s[j].toNat : Int)) = true := by simp; omega
          go_wp2_with fail
          go_ret2
          exact ⟨by rw [NO.out]; rfl, rfl⟩
      · replace hr := Classical.not_not.1 hr
        have q1 : decide ((s[j].toNat : Int) < 48) = false := by simp; omega
        have q2 : decide (57 < (s[j].toNat : Int)) = false := by simp; omega
        have ST : Hid ((∃ i, I64 i ∧ Lib.itoa i = s.data.toList) → wrap64 (wrap64 (10 * z) - ((s[j].toNat : Int) - 48)) = numOn 0 ((s.data.toList.drop 1).take (j + 1 - 1))) := fun hex => by
          obtain ⟨i, hi, e⟩ := _root_.id hex
          obtain ⟨u, hu, hd, _⟩ := PT.out i hi e
          rw [hnum hex, show j + 1 - 1 = (j - 1) + 1 by omega]
          exact num_step hu hd (by rw [List.getElem?_drop, show 1 + (j - 1) = j by omega]; exact hx)
        clear hnum hx
        go_wp2_with fail
        go_round
        case rel => exact ⟨j + 1, _, by omega, hlt, by go_num, rfl, wrapI _, ST.out⟩
        case measure => simp [intOf]; omega
    · obtain rfl : j = s.size := by omega
      obtain ⟨z2, hz2⟩ : ∃ z2, z2 = z := ⟨_, rfl⟩
      have hI : I64 z2 := by rw [hz2]; exact hz
      have UN : ∀ i, I64 i → Lib.itoa i = s.data.toList → z2 = i := fun i hi e => by
        obtain ⟨u, hu, hd, hiu⟩ := PT.out i hi e
        have hn := hnum ⟨i, hi, e⟩
        rw [List.take_of_length_le (by rw [List.length_drop, hlen]; exact Nat.le_refl _), hd, numOn_dec] at hn
        obtain ⟨i0, i1⟩ := hi
        simp at hiu
        omega
      have FG := Lib.hid (figures_any z2 hI w)
      by_cases he : Lib.itoa z2 = s.data.toList
      · have YES := Lib.hid (numEnd_yes hI he)
        have hB : B (Lib.itoa z2) = s := by rw [he]; rfl
        rw [hB] at FG
        clear hnum UN he hB
        have HZ := Lib.hid hz2
        clear hz2
        go_wp2_with fail
        rw [← HZ.out]
        refine FG.out.mono ?_
        rintro e w' ⟨rfl, rfl⟩
        go_wp2_with fail
        go_ret2
        exact ⟨by rw [YES.out]; rfl, rfl⟩
      · have NO := Lib.hid (numEnd_no (l := s.data.toList) (fun i hi e => he (by rw [UN i hi e]; exact e)))
        have hne : ¬ (B (Lib.itoa z2)).toList = s.toList := fun e => he (by rw [Lib.toList_data, Lib.toList_data, B_data] at e; exact e)
        have hnb : ((B (Lib.itoa z2)).toList == s.toList) = false := by simpa using hne
        clear hnum UN he
        have HZ := Lib.hid hz2
        clear hz2
        generalize B (Lib.itoa z2) = V at *
        go_wp2_with fail
        rw [← HZ.out]
        refine FG.out.mono ?_
        rintro e w' ⟨rfl, rfl⟩
        go_wp2_with fail
        go_ret2
        exact ⟨by rw [NO.out]; rfl, rfl⟩
set_option maxRecDepth 100000 in
set_option maxHeartbeats 8000000 in
theorem number_pos (s : ByteArray) (h1 : 1 ≤ s.size) (h20 : s.size ≤ 20) (hq : ((s[0].toNat : Int) == 45) = false) (w : World) :
    Calls Tryd.prog 22 #[.string s] w fun e w' => e = numEnd s.data.toList ∧ w' = w := by
  have h2 : decide ((s.size : Int) < 1) = false := by simp; omega
  have h3 : decide (20 < (s.size : Int)) = false := by simp; omega
  have AT : ∀ (k : Nat) (h : k < s.size), s.data.toList[k]? = some s[k] := fun k h => by
    rw [List.getElem?_eq_getElem (by rw [← Lib.size_eq]; exact h)]; rfl
  have hhd : s.data.toList.head? = some s[0] := by rw [List.head?_eq_getElem?]; exact AT 0 (by omega)
  have hA : 0 = if s.data.toList.head? = some 45 then 1 else 0 := by
    rw [hhd]
    rw [if_neg (fun e => by have e2 := congrArg UInt8.toNat (Option.some.inj e); rw [e2] at hq; simp at hq)]
  have PT : Hid (∀ i, I64 i → Lib.itoa i = s.data.toList → ∃ u : Nat, u ≤ 9223372036854775808 ∧ s.data.toList.drop 0 = Lib.decDigits u ∧ i = (if 0 = 1 then -(u : Int) else u)) := fun i hi e => itoa_parts hi e 0 hA
  have HAT := Lib.hid AT
  have hlen : s.data.toList.length = s.size := (Lib.size_eq s).symm
  clear AT hA hhd
  go_enter Tryd.func22, Tryd.ntmps22
  go_wp2_with fail
  go_loop [5, 6] (fun o i => ∃ (j : Nat) (z : Int), 0 ≤ j ∧ j ≤ s.size ∧ i = .int .i64 j ∧ o = .int .i64 z ∧ I64 z ∧ ((∃ i, I64 i ∧ Lib.itoa i = s.data.toList) → z = numOn 0 ((s.data.toList.drop 0).take (j - 0)))) (fun _ i => s.size - (intOf i).toNat)
  case atStart => exact ⟨0, 0, Nat.le_refl _, by omega, rfl, rfl, ⟨by decide, by decide⟩, fun _ => rfl⟩
  case round =>
    obtain ⟨j, z, hj1, hj, rfl, rfl, hz, hnum⟩ := hrel
    obtain ⟨z0, z1⟩ := _root_.id hz
    by_cases hlt : j < s.size
    · have hb := s[j].toNat_lt
      have hx := HAT.out j hlt
      by_cases hr : ¬ (48 ≤ s[j].toNat ∧ s[j].toNat ≤ 57)
      · have NO := Lib.hid (numEnd_no (l := s.data.toList) (fun i hi e => by
          obtain ⟨u, _, hd, _⟩ := PT.out i hi e
          have hm : s[j] ∈ s.data.toList.drop 0 := List.mem_of_getElem? (i := j - 0) (by rw [List.getElem?_drop, show 0 + (j - 0) = j by omega]; exact hx)
          rw [hd] at hm
          exact hr (dec_digits u _ hm)))
        clear hnum hx hz
        by_cases hc : s[j].toNat < 48
        · have q1 : decide ((s[j].toNat : Int) < 48) = true := by simp; omega
          go_wp2_with fail
          go_ret2
          exact ⟨by rw [NO.out]; rfl, rfl⟩
        · have q1 : decide ((s[j].toNat : Int) < 48) = false := by simp; omega
          have q2 : decide (57 < (s[j].toNat : Int)) = true := by simp; omega
          go_wp2_with fail
          go_ret2
          exact ⟨by rw [NO.out]; rfl, rfl⟩
      · replace hr := Classical.not_not.1 hr
        have q1 : decide ((s[j].toNat : Int) < 48) = false := by simp; omega
        have q2 : decide (57 < (s[j].toNat : Int)) = false := by simp; omega
        have ST : Hid ((∃ i, I64 i ∧ Lib.itoa i = s.data.toList) → wrap64 (wrap64 (10 * z) - ((s[j].toNat : Int) - 48)) = numOn 0 ((s.data.toList.drop 0).take (j + 1 - 0))) := fun hex => by
          obtain ⟨i, hi, e⟩ := _root_.id hex
          obtain ⟨u, hu, hd, _⟩ := PT.out i hi e
          rw [hnum hex, show j + 1 - 0 = (j - 0) + 1 by omega]
          exact num_step hu hd (by rw [List.getElem?_drop, show 0 + (j - 0) = j by omega]; exact hx)
        clear hnum hx
        go_wp2_with fail
        go_round
        case rel => exact ⟨j + 1, _, by omega, hlt, by go_num, rfl, wrapI _, ST.out⟩
        case measure => simp [intOf]; omega
    · obtain rfl : j = s.size := by omega
      obtain ⟨z2, hz2⟩ : ∃ z2, z2 = wrap64 (-z) := ⟨_, rfl⟩
      have hI : I64 z2 := by rw [hz2]; exact wrapI _
      have UN : ∀ i, I64 i → Lib.itoa i = s.data.toList → z2 = i := fun i hi e => by
        obtain ⟨u, hu, hd, hiu⟩ := PT.out i hi e
        have hn := hnum ⟨i, hi, e⟩
        rw [List.take_of_length_le (by rw [List.length_drop, hlen]; exact Nat.le_refl _), hd, numOn_dec] at hn
        obtain ⟨i0, i1⟩ := hi
        simp at hiu
        rw [hz2, IntWalk.wrap64_in _ (by omega)]; omega
      have FG := Lib.hid (figures_any z2 hI w)
      by_cases he : Lib.itoa z2 = s.data.toList
      · have YES := Lib.hid (numEnd_yes hI he)
        have hB : B (Lib.itoa z2) = s := by rw [he]; rfl
        rw [hB] at FG
        clear hnum UN he hB
        have HZ := Lib.hid hz2
        clear hz2
        go_wp2_with fail
        rw [← HZ.out]
        refine FG.out.mono ?_
        rintro e w' ⟨rfl, rfl⟩
        go_wp2_with fail
        go_ret2
        exact ⟨by rw [YES.out]; rfl, rfl⟩
      · have NO := Lib.hid (numEnd_no (l := s.data.toList) (fun i hi e => he (by rw [UN i hi e]; exact e)))
        have hne : ¬ (B (Lib.itoa z2)).toList = s.toList := fun e => he (by rw [Lib.toList_data, Lib.toList_data, B_data] at e; exact e)
        have hnb : ((B (Lib.itoa z2)).toList == s.toList) = false := by simpa using hne
        clear hnum UN he
        have HZ := Lib.hid hz2
        clear hz2
        generalize B (Lib.itoa z2) = V at *
        go_wp2_with fail
        rw [← HZ.out]
        refine FG.out.mono ?_
        rintro e w' ⟨rfl, rfl⟩
        go_wp2_with fail
        go_ret2
        exact ⟨by rw [NO.out]; rfl, rfl⟩
theorem number_any (l : List UInt8) (hl : l.length ≤ 1000000) (w : World) :
    Calls Tryd.prog 22 #[.string (B l)] w fun e w' => e = numEnd l ∧ w' = w := by
  have bs := B_size l
  by_cases h1 : 1 ≤ (B l).size ∧ (B l).size ≤ 20
  · cases hq : (((B l)[0]'(by omega)).toNat : Int) == 45 with
    | true => exact number_neg (B l) h1.1 h1.2 hq w
    | false => exact number_pos (B l) h1.1 h1.2 hq w
  · have NO := Lib.hid (numEnd_no (l := l) (fun i hi e => by
      apply h1
      rw [bs, ← e]
      exact itoa_len hi))
    generalize B l = s at *
    by_cases h0 : s.size < 1
    · have q1 : decide ((s.size : Int) < 1) = true := by simp; omega
      go_enter Tryd.func22, Tryd.ntmps22
      go_wp2_with fail
      go_ret2
      exact ⟨by rw [NO.out]; rfl, rfl⟩
    · have q1 : decide ((s.size : Int) < 1) = false := by simp; omega
      have q2 : decide (20 < (s.size : Int)) = true := by simp; omega
      go_enter Tryd.func22, Tryd.ntmps22
      go_wp2_with fail
      go_ret2
      exact ⟨by rw [NO.out]; rfl, rfl⟩
end Go.Proofs.YthblpjjocokphaaDoor.Fr
