/- Texts put together: SH. -/
import Derived.Test.YtbkeoiefolkjfaaGreatDoorBbk1
import Derived.Test.YtbkeoiefolkjfaaGreatDoorBbk2
import Derived.Test.YtbkeoiefolkjfaaGreatDoorBbk3
import Derived.Test.YtbkeoiefolkjfaaGreatDoorBbk4
import Derived.Test.YtbkeoiefolkjfaaGreatDoorBbk5
import Derived.Test.YtbkeoiefolkjfaaGreatDoorBbk6
import Derived.Test.YtbkeoiefolkjfaaGreatDoorBbk7
import Derived.Test.YtbkeoiefolkjfaaGreatDoorBbk8
import Derived.Test.YtbkeoiefolkjfaaGreatDoorBbk9
import Derived.Test.YtbkeoiefolkjfaaGreatDoorBbk10
import Derived.Test.YtbkeoiefolkjfaaGreatDoorBbk11
import Derived.Test.YtbkeoiefolkjfaaGreatDoorBbk12
import Derived.Test.YtbkeoiefolkjfaaGreatDoorBbk13
import Derived.Test.YtbkeoiefolkjfaaGreatDoorBbk14
import Derived.Test.YtbkeoiefolkjfaaGreatDoorBbk15
import Derived.Test.YtbkeoiefolkjfaaGreatDoorBbk16
import Derived.Test.YtbkeoiefolkjfaaGreatDoorBbk17
import Derived.Test.YtbkeoiefolkjfaaGreatDoorBbk18
import Derived.Test.YtbkeoiefolkjfaaGreatDoorBbk19
import Derived.Test.YtbkeoiefolkjfaaGreatDoorBbk20
import Derived.Test.YtbkeoiefolkjfaaGreatDoorBbk21
import Derived.Test.YtbkeoiefolkjfaaGreatDoorBbk22
import Derived.Test.YtbkeoiefolkjfaaGreatDoorBbk23
import Derived.Test.YtbkeoiefolkjfaaGreatDoorBbk25
import Derived.Test.YtbkeoiefolkjfaaGreatDoorBfr1
import Derived.Test.YtbkeoiefolkjfaaGreatDoorBfr2
import Derived.Test.YtbkeoiefolkjfaaGreatDoorBfr3
import Derived.Test.YtbkeoiefolkjfaaGreatDoorBfr4
set_option linter.unusedVariables false
set_option maxRecDepth 100000
set_option maxHeartbeats 16000000
namespace Go.Proofs.YtbkeoiefolkjfaaGreatDoor.Bk
open Go.RowKit Go.Shelf
attribute [local go_sem] Oper.semAt_some
def FreshO (w : World) (X : ByteArray) (a : Int) (n : Nat) (e : Ending) (w' : World) : Prop :=
  Below w.heap.size w w' /\ ∃ u, e = .returned (.tuple #[.string X, u]) /\ ErrZ w.heap.size w' u a n
theorem FreshO.up {w w1 w' : World} {X : ByteArray} {a : Int} {n : Nat} {e : Ending} (h : FreshO w1 X a n e w') (hb : Below w.heap.size w w1) : Below w.heap.size w w' /\ ∃ u, e = .returned (.tuple #[.string X, u]) /\ ErrZ w.heap.size w' u a n := by
  obtain ⟨b, u, e, ⟨h1, h2⟩⟩ := h
  refine ⟨hb.trans (b.mono hb.size), u, e, h1, ?_⟩
  rcases h2 with h2 | ⟨k, ⟨q, hq, h3⟩, h4⟩
  . exact .inl h2
  exact .inr ⟨k, ⟨q, by have := hb.size; omega, h3⟩, h4⟩
theorem fresh_bad (g : Int) (h : g < 1 \/ 2147483648 < g) (h0 : g ≠ 0) (Y : ByteArray) (w : World) :
    Calls Tryz.prog 17 #[.int .i64 g, .string Y] w fun e w' => FreshO w (B []) (-9) 1 e w' := by
  have PU := Lib.hid (Hd.put_not g h h0 Y w)
  have EZ := Lib.hid (ErrZ.err w.heap.size w 1 (by decide))
  have hB : Hid (B [] = ⟨#[]⟩) := rfl
  rw [errV_pos 1 (by omega)] at *
  go_enter Tryz.func17, Tryz.ntmps17
  go_wp2_with fail
  refine PU.out.mono ?_
  rintro e w1 ⟨rfl, rfl⟩
  go_wp2_with fail
  go_ret2
  exact ⟨Below.refl _ _, _, rfl, EZ.out⟩
theorem fresh_any (g : Int) (t : List UInt8) (X : ByteArray) (ht : t.length <= 10000) (w : World)
    (hp : Calls Tryz.prog 37 #[.int .i64 g, .string (B t)] w fun e w' => e = .returned (.tuple #[.string X, .nilIface]) /\ Below w.heap.size w w') :
    Calls Tryz.prog 17 #[.int .i64 g, .string (B t)] w fun e w' =>
      (∀ (a k : Nat), parseL t = .error (a, k) -> FreshO w (B []) a k e w') /\ (∀ its, parseL t = .ok its -> FreshO w X (-9) 0 e w') := by
  have PU := Lib.hid hp
  have PA := Lib.hid (fun W => parse_any (B t) (by rw [B_size]; omega) W)
  simp only [B_data] at PA
  have hB : Hid (B [] = ⟨#[]⟩) := rfl
  clear hp
  go_enter Tryz.func17, Tryz.ntmps17
  go_wp2_with fail
  refine PU.out.mono ?_
  rintro e w1 ⟨rfl, b1⟩
  have HB1 := Lib.hid b1
  clear b1
  go_wp2_with fail
  refine (PA.out w1).mono ?_
  rintro e w2 hp2
  cases hp : parseL t with
  | error an =>
    obtain ⟨a, k⟩ := an
    unfold Parsed at hp2
    rw [hp] at hp2
    obtain ⟨b2, u, rfl, hf⟩ := hp2
    have hk := parse_no hp
    have HP := Lib.hid hp
    have HF := Lib.hid hf
    obtain ⟨q, hq, rfl, hc⟩ := hf
    clear hc
    go_wp2_with fail
    go_ret2
    have HK := Lib.hid hk
    refine ⟨?_, fun its h => by rw [HP.out] at h; cases h⟩
    intro a' k' h
    rw [HP.out] at h
    obtain ⟨rfl, rfl⟩ := Prod.mk.inj (Except.error.inj h)
    obtain ⟨q', hq', e', hc'⟩ := HF.out
    exact ⟨HB1.out.trans (b2.mono HB1.out.size), _, rfl, by have := HK.out; omega, .inr ⟨a, ⟨q', by have := HB1.out.size; omega, e', hc'⟩, rfl, HK.out.1⟩⟩
  | ok its =>
  unfold Parsed at hp2
  rw [hp] at hp2
  obtain ⟨b2, v, rfl, hi, _⟩ := hp2
  have HP := Lib.hid hp
  clear hi
  go_wp2_with fail
  go_ret2
  exact ⟨(fun a k h => by rw [HP.out] at h; cases h), fun its h => ⟨HB1.out.trans (b2.mono HB1.out.size), _, rfl, ErrZ.none _ _⟩⟩
theorem reffresh_bad (g : Int) (h : ¬ (1 <= g /\ g <= 2147483648)) (h0 : g ≠ 0) (Y : ByteArray) (w : World) :
    Calls Tryz.prog 18 #[.int .i64 g, .string Y] w fun e w' => e = .returned (.tuple #[.string (B []), .int .i64 (-9), .int .i64 1]) /\ Below w.heap.size w w' := by
  have RG := Lib.hid (Hd.refgood_any g w)
  rw [decide_eq_false h] at RG
  have hB : Hid (B [] = ⟨#[]⟩) := rfl
  have q : (g != 0) = true := by simp; exact h0
  clear h h0
  go_enter Tryz.func18, Tryz.ntmps18
  go_wp2_with fail
  refine RG.out.mono ?_
  rintro e w1 ⟨rfl, rfl⟩
  go_wp2_with fail
  go_ret3
  exact ⟨rfl, Below.refl _ _⟩
theorem reffresh_no (g : Int) (hg : g = 0 \/ (1 <= g /\ g <= 2147483648)) (t : List UInt8) (ht : t.length <= 10000) (a k : Nat) (hp : parseL t = .error (a, k)) (w : World) :
    Calls Tryz.prog 18 #[.int .i64 g, .string (B t)] w fun e w' => e = .returned (.tuple #[.string (B []), .int .i64 a, .int .i64 k]) /\ Below w.heap.size w w' := by
  have PA := Lib.hid (refParse_any (B t) (by rw [B_size]; omega) w)
  rw [B_data] at PA
  have hk := parse_no hp
  have HP := Lib.hid hp
  have q : ((k : Int) != 0) = true := by simp; omega
  have hB : Hid (B [] = ⟨#[]⟩) := rfl
  clear hp hk
  rcases hg with rfl | hg
  . go_enter Tryz.func18, Tryz.ntmps18
    go_wp2_with fail
    refine PA.out.mono ?_
    rintro e w1 hr
    obtain ⟨b1, rfl⟩ := refParsedNo hr HP.out
    clear hr
    go_wp2_with fail
    go_ret3
    exact ⟨rfl, b1⟩
  have RG := Lib.hid (Hd.refgood_any g w)
  rw [decide_eq_true hg] at RG
  have q2 : (g != 0) = true := by simp; omega
  clear hg
  go_enter Tryz.func18, Tryz.ntmps18
  go_wp2_with fail
  refine RG.out.mono ?_
  rintro e w1 ⟨rfl, rfl⟩
  go_wp2_with fail
  refine PA.out.mono ?_
  rintro e w1 hr
  obtain ⟨b1, rfl⟩ := refParsedNo hr HP.out
  clear hr
  go_wp2_with fail
  go_ret3
  exact ⟨rfl, b1⟩
theorem reffresh_zero (t : List UInt8) (ht : t.length <= 10000) (its : List It) (hp : parseL t = .ok its) (w : World) :
    Calls Tryz.prog 18 #[.int .i64 0, .string (B t)] w fun e w' => e = .returned (.tuple #[.string (B t), .int .i64 (-9), .int .i64 0]) /\ Below w.heap.size w w' := by
  have PA := Lib.hid (refParse_any (B t) (by rw [B_size]; omega) w)
  rw [B_data] at PA
  have HP := Lib.hid hp
  clear hp
  go_enter Tryz.func18, Tryz.ntmps18
  go_wp2_with fail
  refine PA.out.mono ?_
  rintro e w1 hr
  obtain ⟨b1, v, rfl, hi⟩ := refParsedYes hr HP.out
  clear hr hi
  go_wp2_with fail
  go_ret3
  exact ⟨rfl, b1⟩
theorem reffresh_yes (g : Nat) (h1 : 1 <= g) (h2 : g <= 2147483648) (t : List UInt8) (ht : t.length <= 10000) (its : List It) (hp : parseL t = .ok its) (w : World) :
    Calls Tryz.prog 18 #[.int .i64 g, .string (B t)] w fun e w' => e = .returned (.tuple #[.string (B (Hd.headL g ++ t)), .int .i64 (-9), .int .i64 0]) /\ Below w.heap.size w w' := by
  have PA := Lib.hid (refParse_any (B t) (by rw [B_size]; omega) w)
  rw [B_data] at PA
  have HP := Lib.hid hp
  have RG := Lib.hid (Hd.refgood_any g w)
  rw [decide_eq_true (by omega)] at RG
  have LI := Lib.hid (fun W => Hd.refline_any g h1 h2 W)
  have E : Hid (B (Hd.headL g) ++ B t = B (Hd.headL g ++ t)) := B_append _ _
  have hs : (B (Hd.headL g)).size <= 28 := by rw [B_size]; exact (Hd.head_len g h2).2
  have ht2 : (B t).size <= 10000 := by rw [B_size]; exact ht
  have q2 : ((g : Int) != 0) = true := by simp; omega
  have q3 : ((g : Int) == 0) = false := by rw [beq_eq_false_iff_ne]; omega
  generalize B (Hd.headL g) = X at *
  generalize B t = Y at *
  clear hp h1 h2 ht
  go_enter Tryz.func18, Tryz.ntmps18
  go_wp2_with fail
  refine RG.out.mono ?_
  rintro e w1 ⟨rfl, rfl⟩
  go_wp2_with fail
  refine PA.out.mono ?_
  rintro e w1 hr
  obtain ⟨b1, v, rfl, hi⟩ := refParsedYes hr HP.out
  clear hr hi
  go_wp2_with fail
  refine (LI.out w1).mono ?_
  rintro e w2 ⟨rfl, rfl⟩
  go_wp2_with fail
  go_ret3
  exact ⟨by rw [<- E.out]; rfl, b1⟩
theorem fresh_stop (g : Int) (s : ByteArray) (hs : s.size <= 4000) (X : ByteArray) (a : Int) (n : Nat) (hn : n ≠ 0 \/ (n = 0 /\ g = 0)) (w : World) (hT : TabB w)
    (F : ∀ W, Below w.heap.size w W -> Calls Tryz.prog 17 #[.int .i64 g, .string s] W fun e W' => FreshO W X a n e W')
    (R : ∀ W, Calls Tryz.prog 18 #[.int .i64 g, .string s] W fun e W' => e = .returned (.tuple #[.string X, .int .i64 a, .int .i64 n]) /\ Below W.heap.size W W') :
    Calls Tryz.prog 4 #[.int .i64 g, .string s] w fun e w' => e = .returned (.bool true) /\ Below w.heap.size w w' := by
  have AL := Lib.hid (alive13 w hT)
  have HF := Lib.hid F
  have HR := Lib.hid R
  have hqq : ∀ t : ByteArray, ((t.toList == t.toList) = true) := fun t => by simp
  have hnn : ∀ t : Int, ((t == t) = true) := fun t => by simp
  have q1 : ¬ (4000 : Int) < (s.size : Int) := by omega
  clear F R hT
  rcases hn with h0 | ⟨rfl, rfl⟩
  . have q2 : ((n : Int) != 0) = true := by simp; exact h0
    clear h0
    go_enter Tryz.func4, Tryz.ntmps4
    go_wp2_with fail
    refine AL.out.mono ?_
    rintro e w1 ⟨rfl, b1⟩
    have B1 := Lib.hid b1
    clear b1
    go_wp2_with fail
    refine (HF.out w1 B1.out).mono ?_
    rintro e w2 ⟨b2, u, rfl, ez⟩
    have B2 := Lib.hid (B1.out.trans (b2.mono B1.out.size))
    have EZ := Lib.hid ez
    clear b2 ez
    go_wp2_with fail
    refine (HR.out w2).mono ?_
    rintro e w3 ⟨rfl, b3⟩
    have B3 := Lib.hid (B2.out.trans (b3.mono B2.out.size))
    have EZ3 := Lib.hid (EZ.out.below b3 (Nat.le_refl _))
    clear b3
    go_wp2_with fail
    refine (num_z EZ3.out).mono ?_
    rintro e V ⟨rfl, rfl⟩
    go_wp2_with fail
    refine (at_z EZ3.out).mono ?_
    rintro e V ⟨rfl, rfl⟩
    go_wp2_with fail
    go_ret
    exact ⟨rfl, B3.out⟩
  go_enter Tryz.func4, Tryz.ntmps4
  go_wp2_with fail
  refine AL.out.mono ?_
  rintro e w1 ⟨rfl, b1⟩
  have B1 := Lib.hid b1
  clear b1
  go_wp2_with fail
  refine (HF.out w1 B1.out).mono ?_
  rintro e w2 ⟨b2, u, rfl, ez⟩
  have B2 := Lib.hid (B1.out.trans (b2.mono B1.out.size))
  have EZ := Lib.hid ez
  clear b2 ez
  go_wp2_with fail
  refine (HR.out w2).mono ?_
  rintro e w3 ⟨rfl, b3⟩
  have B3 := Lib.hid (B2.out.trans (b3.mono B2.out.size))
  have EZ3 := Lib.hid (EZ.out.below b3 (Nat.le_refl _))
  clear b3
  go_wp2_with fail
  refine (num_z EZ3.out).mono ?_
  rintro e V ⟨rfl, rfl⟩
  go_wp2_with fail
  refine (at_z EZ3.out).mono ?_
  rintro e V ⟨rfl, rfl⟩
  go_wp2_with fail
  go_ret
  exact ⟨rfl, B3.out⟩
theorem hl_good {g : Nat} (h1 : 1 <= g) (h2 : g <= 2147483648) : hl g = (Hd.headL g).length := by unfold hl; rw [if_pos ⟨h1, h2⟩]
theorem fresh_sound (g : Nat) (h1 : 1 <= g) (h2 : g <= 2147483648) (t : List UInt8) (its : List It) (hp : parseL t = .ok its) : Sound Dc (Hd.headL g ++ t) g t [] [] := by
  have e1 : (Hd.headL g ++ t).drop (hl g) = t := by rw [hl_good h1 h2, List.drop_left]
  refine ⟨Hd.gen_put g h1 h2 t, ⟨its, hp⟩, ?_, ⟨?_, fun b h => by cases h⟩, part_nil⟩
  . rw [e1]
    have := base_again (x := []) (parse_endB hp) (parse_none hp) (.inl rfl)
    rwa [List.append_nil] at this
  rw [drop_plus, e1, List.drop_length]; rfl
theorem fresh_go (g : Nat) (h1 : 1 <= g) (h2 : g <= 2147483648) (t : List UInt8) (ht : t.length <= 4000) (its : List It) (hp : parseL t = .ok its) (w : World) (hT : TabB w)
    (F : ∀ W, Below w.heap.size w W -> Calls Tryz.prog 17 #[.int .i64 g, .string (B t)] W fun e W' => FreshO W (B (Hd.headL g ++ t)) (-9) 0 e W')
    (R : ∀ W, Calls Tryz.prog 18 #[.int .i64 g, .string (B t)] W fun e W' => e = .returned (.tuple #[.string (B (Hd.headL g ++ t)), .int .i64 (-9), .int .i64 0]) /\ Below W.heap.size W W') :
    Calls Tryz.prog 4 #[.int .i64 g, .string (B t)] w fun e w' => e = .returned (.bool true) /\ Below w.heap.size w w' := by
  have AL := Lib.hid (alive13 w hT)
  have HF := Lib.hid F
  have HR := Lib.hid R
  have hqq : ∀ t : ByteArray, ((t.toList == t.toList) = true) := fun t => by simp
  have hnn : ∀ t : Int, ((t == t) = true) := fun t => by simp
  have q1 : ¬ (4000 : Int) < ((B t).size : Int) := by rw [B_size]; omega
  have q2 : ((g : Int) == 0) = false := by rw [beq_eq_false_iff_ne]; omega
  have HS := Lib.hid (fresh_sound g h1 h2 t its hp)
  have hlen : (Hd.headL g ++ t).length <= 4100 := by rw [List.length_append]; have := Hd.head_len g h2; omega
  have RD : Hid (∀ W, Below w.heap.size w W -> Calls Tryz.prog 9 #[.string (B (Hd.headL g ++ t))] W fun e w' => ReadR W w' (Hd.headL g ++ t) e) :=
    fun W hW => bookRead_any _ (by omega) (by have := base_short (Hd.headL g ++ t) (hl (Hd.genP (Hd.headL g ++ t))); omega) W (hT.below hW (Nat.le_refl _))
  have s2 : (B []).toList.isEmpty = true := by kernel_rfl
  generalize Hd.headL g ++ t = T at *
  clear F R hT hp h1 h2 hlen
  go_enter Tryz.func4, Tryz.ntmps4
  go_wp2_with fail
  refine AL.out.mono ?_
  rintro e w1 ⟨rfl, b1⟩
  have B1 := Lib.hid b1
  clear b1
  go_wp2_with fail
  refine (HF.out w1 B1.out).mono ?_
  rintro e w2 ⟨b2, u, rfl, ez⟩
  have B2 := Lib.hid (B1.out.trans (b2.mono B1.out.size))
  have EZ := Lib.hid ez
  clear b2 ez
  go_wp2_with fail
  refine (HR.out w2).mono ?_
  rintro e w3 ⟨rfl, b3⟩
  have B3 := Lib.hid (B2.out.trans (b3.mono B2.out.size))
  have EZ3 := Lib.hid (EZ.out.below b3 (Nat.le_refl _))
  clear b3
  go_wp2_with fail
  refine (num_z EZ3.out).mono ?_
  rintro e V ⟨rfl, rfl⟩
  go_wp2_with fail
  refine (at_z EZ3.out).mono ?_
  rintro e V ⟨rfl, rfl⟩
  go_wp2_with fail
  refine (RD.out w3 B3.out).mono ?_
  rintro e w4 hr
  obtain ⟨b4, v, rfl, hBR⟩ := hr.sound HS.out
  obtain ⟨bv, ev, us, rfl, hBt, hEv⟩ := hBR.is
  obtain ⟨ba, bc, rfl, _⟩ := own_slice hBt.row
  obtain ⟨ea, ec, rfl, _⟩ := own_slice hEv
  have B4 := Lib.hid (B3.out.trans (b4.mono B3.out.size))
  unfold bookV
  have B5 := Lib.hid (B4.out.alloc B4.out.size (.cells #[.int .i64 (g : Int), .string (B t), .slice ba 0 bc, .slice ea 0 ec, .string (B [])] 26))
  clear hr hBR hBt hEv b4
  go_wp2_with fail
  go_ret
  exact ⟨rfl, B5.out⟩
theorem freshCall (g : Int) (s : ByteArray) (W : World) (_ : (Lit.int .i64 g).wf = true) (_ : s.size <= maxLen) (hT : TabB W) :
    Calls Tryz.prog 4 #[.int .i64 g, .string s] W fun e w' => e = .returned (.bool true) /\ Below W.heap.size W w' := by
  by_cases hlong : 4000 < s.size
  . have AL := Lib.hid (alive13 W hT)
    have q1 : (4000 : Int) < (s.size : Int) := by omega
    clear hT
    go_enter Tryz.func4, Tryz.ntmps4
    go_wp2_with fail
    refine AL.out.mono ?_
    rintro e w1 ⟨rfl, b1⟩
    go_wp2_with fail
    go_ret
    exact ⟨rfl, b1⟩
  have hlt : s.data.toList.length <= 4000 := by rw [<- Lib.size_eq]; omega
  obtain ⟨t, ht⟩ : ∃ t, s.data.toList = t := ⟨_, rfl⟩
  have es : s = B t := by rw [<- ht, B_of]
  rw [ht] at hlt
  subst es
  have hsz : (B t).size <= 4000 := by rw [B_size]; exact hlt
  by_cases h0 : g = 0
  . subst h0
    have FF : ∀ W', Calls Tryz.prog 17 #[.int .i64 0, .string (B t)] W' fun e w' =>
      (∀ (a k : Nat), parseL t = .error (a, k) -> FreshO W' (B []) a k e w') /\ (∀ its, parseL t = .ok its -> FreshO W' (B t) (-9) 0 e w') :=
      fun W' => fresh_any 0 t (B t) (by omega) W' ((Hd.put_zero (B t) W').mono fun e w' ⟨h1, h2⟩ => ⟨h1, by rw [h2]; exact Below.refl _ _⟩)
    cases hp : parseL t with
    | error an =>
      obtain ⟨a, k⟩ := an
      exact fresh_stop 0 (B t) hsz (B []) a k (.inl (parse_no hp).1) W hT (fun W' _ => (FF W').mono fun e w' h => h.1 a k hp) (fun W' => reffresh_no 0 (.inl rfl) t (by omega) a k hp W')
    | ok its => exact fresh_stop 0 (B t) hsz (B t) (-9) 0 (.inr ⟨rfl, rfl⟩) W hT (fun W' _ => (FF W').mono fun e w' h => h.2 its hp) (fun W' => reffresh_zero t (by omega) its hp W')
  by_cases hv : 1 <= g /\ g <= 2147483648
  . obtain ⟨n, rfl⟩ : ∃ n : Nat, g = n := ⟨g.toNat, by omega⟩
    have h1 : 1 <= n := by omega
    have h2 : n <= 2147483648 := by omega
    have FF : ∀ W', Below W.heap.size W W' -> Calls Tryz.prog 17 #[.int .i64 (n : Int), .string (B t)] W' fun e w' =>
      (∀ (a k : Nat), parseL t = .error (a, k) -> FreshO W' (B []) a k e w') /\ (∀ its, parseL t = .ok its -> FreshO W' (B (Hd.headL n ++ t)) (-9) 0 e w') :=
      fun W' hW => fresh_any n t (B (Hd.headL n ++ t)) (by omega) W' (Hd.put_yes n h1 h2 t (by omega) W' (hT.below hW (Nat.le_refl _)).tab)
    cases hp : parseL t with
    | error an =>
      obtain ⟨a, k⟩ := an
      exact fresh_stop n (B t) hsz (B []) a k (.inl (parse_no hp).1) W hT (fun W' hW => (FF W' hW).mono fun e w' h => h.1 a k hp) (fun W' => reffresh_no n (.inr hv) t (by omega) a k hp W')
    | ok its => exact fresh_go n h1 h2 t hlt its hp W hT (fun W' hW => (FF W' hW).mono fun e w' h => h.2 its hp) (fun W' => reffresh_yes n h1 h2 t (by omega) its hp W')
  exact fresh_stop g (B t) hsz (B []) (-9) 1 (.inl (by decide)) W hT (fun W' _ => fresh_bad g (by omega) h0 (B t) W') (fun W' => reffresh_bad g hv h0 (B t) W')
end Go.Proofs.YtbkeoiefolkjfaaGreatDoor.Bk
