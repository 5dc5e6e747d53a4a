/- Free: the room less the sizes of what names stand for, in whatever order they come. -/
import Derived.Test.YtdfjkcdmbbmipaaVW
import Derived.Maps.RangeWalk
import Derived.Sort.KeysCollected
namespace Go.Proofs.Ytdfjkcdmbbmipaa
open Go.RowKit Go.Maps

def sizeAt (fs : List FileA) (f : Nat) : Nat := match fs[f]? with | some x => x.seen.length | none => 0
def usedL (sz : Nat → Nat) (left : Lit → Bool) (l : Dir) : Nat := (l.map fun x => if left (.string x.1) then 0 else sz x.2).sum
def totalL (sz : Nat → Nat) (l : Dir) : Nat := (l.map fun x => sz x.2).sum
def freeD (D : ADisk) : Int := max (D.room - (totalL (sizeAt D.files) D.seen : Nat)) 0
theorem usedL_le (sz : Nat → Nat) (left : Lit → Bool) (m : Nat) (hm : ∀ f, sz f ≤ m) : ∀ l : Dir, usedL sz left l ≤ l.length * m
  | [] => Nat.zero_le _
  | x :: l => by
    have ih := usedL_le sz left m hm l
    have h1 := hm x.2
    unfold usedL at ih ⊢
    simp only [List.map_cons, List.sum_cons, List.length_cons]
    rw [Nat.add_mul, Nat.one_mul]
    split <;> (first | omega | skip)
theorem usedL_start (sz : Nat → Nat) (left : Lit → Bool) : ∀ l : Dir, (∀ x ∈ l, left (.string x.1) = true) → usedL sz left l = 0
  | [], _ => rfl
  | x :: l, h => by
    have ih := usedL_start sz left l (fun y hy => h y (by simp [hy]))
    unfold usedL at ih ⊢
    simp only [List.map_cons, List.sum_cons, h x (by simp), if_true, ih]
theorem usedL_end (sz : Nat → Nat) (left : Lit → Bool) (h : ∀ kl, left kl = false) : ∀ l : Dir, usedL sz left l = totalL sz l
  | [] => rfl
  | x :: l => by
    have ih := usedL_end sz left h l
    unfold usedL totalL at ih ⊢
    simp only [List.map_cons, List.sum_cons, h, Bool.false_eq_true, if_false] at ih ⊢
    try omega
theorem usedL_same (sz : Nat → Nat) (left left' : Lit → Bool) : ∀ l : Dir, (∀ x ∈ l, left' (.string x.1) = left (.string x.1)) → usedL sz left' l = usedL sz left l
  | [], _ => rfl
  | x :: l, h => by
    have ih := usedL_same sz left left' l (fun y hy => h y (by simp [hy]))
    unfold usedL at ih ⊢
    simp only [List.map_cons, List.sum_cons, h x (by simp), ih]
theorem usedL_step (sz : Nat → Nat) (left : Lit → Bool) (ks : List UInt8) (hl : left (.string ks) = true) : ∀ (l : Dir) (f : Nat), l.Pairwise (fun x y => x.1 ≠ y.1) → dget l ks = some f →
    usedL sz (fun z => left z && !z.sameKey (.string ks)) l = usedL sz left l + sz f
  | [], _, _, h => by simp [dget] at h
  | x :: l, f, hp, h => by
    obtain ⟨hx, hp⟩ := List.pairwise_cons.1 hp
    by_cases hk : x.1 = ks
    · subst hk
      have : f = x.2 := by simpa [dget] using h.symm
      subst this
      have hs := usedL_same sz left (fun z => left z && !z.sameKey (.string x.1)) l (fun y hy => by
        have hne : (Lit.string y.1).sameKey (.string x.1) = false := by
          show (y.1 == x.1) = false
          rw [beq_eq_false_iff_ne]; exact fun e => hx y hy e.symm
        simp [hne])
      unfold usedL at hs ⊢
      have hself : (Lit.string x.1).sameKey (.string x.1) = true := by show (x.1 == x.1) = true; simp
      simp only [List.map_cons, List.sum_cons, hl, hself, Bool.not_true, Bool.and_false, Bool.false_eq_true, if_false, if_true]
      rw [hs]; omega
    · have h2 : dget l ks = some f := by
        unfold dget at h ⊢
        rw [List.find?_cons_of_neg (by simpa using hk)] at h
        exact h
      have ih := usedL_step sz left ks hl l f hp h2
      have hne : (Lit.string x.1).sameKey (.string ks) = false := by show (x.1 == ks) = false; rw [beq_eq_false_iff_ne]; exact hk
      unfold usedL at ih ⊢
      simp only [List.map_cons, List.sum_cons, hne, Bool.not_false, Bool.and_true] at ih ⊢
      rw [ih]; omega
theorem dget_of_at {l : Dir} {ks : List UInt8} {c : Int} (h : ∀ zd, (dmapD l).atKey (.string ks) zd = .lit (.int .i64 c)) : ∃ f : Nat, dget l ks = some f ∧ c = f := by
  cases hq : dget l ks with
  | none =>
    have := h .nil
    rw [dmapD_at, hq] at this
    cases this
  | some f =>
    have := h .nil
    rw [dmapD_at, hq] at this
    simp only [DataW.lit.injEq, Lit.int.injEq] at this
    exact ⟨f, rfl, this.2.symm⟩
theorem dmapD_apart {w : World} {b n : Nat} {l : Dir} (h : w.ownsMap Try.prog 9 (plainElem Try.prog 3) b n (dmapD l)) : l.Pairwise (fun x y => x.1 ≠ y.1) := by
  obtain ⟨es, he, hp, _⟩ := h.entries keyT
  have he' : l.map dlit = es := by unfold dmapD at he; injection he
  rw [← he', List.pairwise_map] at hp
  exact hp.imp fun {a b} hab e => hab (by unfold dlit; rw [e])
theorem sizeAt_le {n : Nat} {D : ADisk} (hf : Fine n D) (f : Nat) : sizeAt D.files f ≤ n := by
  unfold sizeAt
  cases hq : D.files[f]? with
  | none => simp
  | some x =>
    have ok := hf.files x (List.mem_of_getElem? hq)
    have h1 := seenL_length_le x.waits x.sure.data.toList
    have h2 := ok.len
    have h3 : x.sure.data.toList.length = x.sure.size := (Lib.size_eq _).symm
    show x.seen.length ≤ n
    unfold FileA.seen
    omega

set_option maxRecDepth 100000 in
set_option maxHeartbeats 2000000 in
theorem free_some {w : World} {T : Nat → Nat} {p n : Nat} {D : ADisk} {V : Vals} (hV : DiskV w T p D V) (hf : Fine n D) (hn : n ≤ 400000) (b6 : Nat) (e6 : V.v6 = .map (some b6)) :
    Calls Try.prog 20 #[.pointer (some ⟨p, 0, none⟩)] w fun e w' => e = .returned (.int .i64 (freeD D)) ∧ Below w.heap.size w w' := by
  have hom : w.ownsMap Try.prog 9 (plainElem Try.prog 3) b6 D.seen.length (dmapD D.seen) := by
    rcases hV.m6 with ⟨e, _⟩ | ⟨b, e, ho⟩
    · rw [e6] at e; cases e
    · rw [e6] at e; cases e; exact ho
  have hap := dmapD_apart hom
  have hle := fun left => usedL_le (sizeAt D.files) left n (sizeAt_le hf) D.seen
  have hsl : D.seen.length ≤ n := by have := dplay_length D.waits D.sure; have := hf.dirs; unfold ADisk.seen; omega
  have hmul : D.seen.length * n ≤ 400000 * 400000 := Nat.mul_le_mul (by omega) hn
  have hlt := fun k f (h : dget D.seen k = some f) => dget_lt hf.seen_lt h
  have d4 : w.cell? ⟨p, 4, none⟩ = some (.int .i64 D.room) := hV.cells.cell 4
  have d6 : w.cell? ⟨p, 6, none⟩ = some (.map (some b6)) := by have := hV.cells.cell 6; rw [e6] at this; exact this
  have r0 := hf.r0
  have r1 := hf.r1
  have F8 := Lib.hid (fun wr (hb : Below w.heap.size w wr) (f : Nat) (hfl : f < D.files.length) => (hV.below hb).file hfl)
  have C8 := Lib.hid (fun wr (hb : Below w.heap.size w wr) => show wr.cell? ⟨p, 8, none⟩ = some V.v8 from (hV.below hb).cells.cell 8)
  have HM := Lib.hid hom
  have HA := Lib.hid hap
  have HLE := Lib.hid hle
  have HLT := Lib.hid hlt
  have SZ := Lib.hid (sizeAt_le hf)
  have hnf := hf.nfiles
  have hpl := hV.cells.lt
  have PL := Lib.hid hpl
  clear hom hap hle hlt e6
  go_enter Try.func20, Try.ntmps20
  go_wp2_with (at_range; refine wpList_range_own _ rfl _ 70 rfl 9 3 keyT Try.underlying70 (plainElem Try.prog 3) b6 D.seen.length (dmapD D.seen) rfl HM.out ?_; intro w0 hrg0 hg0 hs0; go_frame)
  have hb0 : Below w.heap.size w w0 := (Below.refl _ w).grown hg0 (Nat.le_refl _) (fun k hk => by cases hk)
  have HB0 := Lib.hid hb0
  have hst := usedL_start (sizeAt D.files) (Maps.has (dmapD D.seen)) D.seen (fun x hx => by
    rw [dmapD_has]
    unfold dget
    rw [Option.isSome_map, List.find?_isSome]
    exact ⟨x, hx, by simp⟩)
  have HST := Lib.hid hst
  clear hb0 hst hg0
  go_loopw [3] (fun fr wr => ∃ left cnt, fr = .int .i64 (D.room - (usedL (sizeAt D.files) left D.seen : Nat)) ∧ wr.ranges Try.prog 9 (plainElem Try.prog 3) b6 w.heap.size D.seen.length (dmapD D.seen) left cnt ∧ Below w.heap.size w wr) (fun _ wr => wr.rangeLeft b6 w.heap.size)
  case atStart => exact ⟨_, _, by rw [HST.out]; simp, hrg0, HB0.out⟩
  case round =>
    obtain ⟨left, cnt, rfl, hrg, hbel⟩ := hrel
    have hul := HLE.out left
    have HBel := Lib.hid hbel
    have HRG := Lib.hid hrg
    clear hbel hrg
    go_wp2_with (at_next; refine wpList_next_ranges _ rfl _ rfl 9 keyT (plainElem Try.prog 3) encStr (Value.int .i64) (fun key kl hk => by obtain ⟨x, hx, _⟩ := Maps.keyOf_str Try.underlying9 hk; exact ⟨x, hx⟩) (fun v y hv => by obtain ⟨c, rfl, _⟩ := plainElem_int_inv Try.underlying3 hv; exact ⟨c, rfl⟩) b6 w.heap.size D.seen.length _ _ _ rfl HRG.out ?_ ?_)
    · intro _ hl0
      have he := usedL_end (sizeAt D.files) left hl0 D.seen
      have HE := Lib.hid he
      clear he hl0
      go_wp2
      go_ret
      refine ⟨?_, HBel.out⟩
      rw [HE.out]; rfl
    · intro x c kl yd yp w1 cnt1 hkey hlk hv hat hrg1 hlt1 hg1 hs1 hen
      obtain ⟨x', ex, rfl, _⟩ := Maps.keyOf_str Try.underlying9 hkey
      obtain rfl := encStr_inj ex
      obtain ⟨c', ec, hy, _⟩ := plainElem_int_inv Try.underlying3 hv
      obtain rfl : c = c' := by injection ec
      have hat' : ∀ zd, (dmapD D.seen).atKey (.string x) zd = .lit (.int .i64 c) := fun zd => by rw [hat zd]; exact congrArg Prod.fst hy
      obtain ⟨f, hgf, rfl⟩ := dget_of_at hat'
      have hfl := HLT.out _ _ hgf
      have hstep := usedL_step (sizeAt D.files) left x hlk D.seen f HA.out hgf
      have hul2 := HLE.out (fun z => left z && !z.sameKey (.string x))
      have hb1 : Below w.heap.size w w1 := HBel.out.grown hg1 HBel.out.size (fun k hk => by cases hk; exact Nat.le_refl _)
      obtain ⟨g, cap, cur, e8, hc8, _, _, _, _, _, hfa⟩ := F8.out w1 hb1 f hfl
      have c8 := C8.out w1 hb1
      rw [e8] at c8
      have c2 := hfa.c2
      have hsz : sizeAt D.files f = D.files[f].seen.length := by unfold sizeAt; rw [List.getElem?_eq_getElem hfl]
      rw [← hsz] at c2
      have hsf := SZ.out f
      have HS := Lib.hid hstep
      have HB1 := Lib.hid hb1
      have HRG1 := Lib.hid hrg1
      have HL1 := Lib.hid hlt1
      rw [hstep] at hul2
      generalize sizeAt D.files f = sf at *
      generalize usedL (sizeAt D.files) left D.seen = us at *
      clear hsz hstep hat hat' hgf hlk hv hy ex ec hkey hs1 hg1 hb1 hrg1 hlt1 hfa hc8 e8
      go_wp2
      go_roundw
      case rel => exact ⟨_, cnt1, by rw [HS.out]; go_num, HRG1.out, HB1.out⟩
      case measure => rw [HRG1.out.left_eq, HRG.out.left_eq]; exact HL1.out
end Go.Proofs.Ytdfjkcdmbbmipaa
