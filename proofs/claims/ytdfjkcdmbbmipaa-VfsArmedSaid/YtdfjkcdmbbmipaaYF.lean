/- The law VfsSwaps: behind a crash within a rename. -/
import Derived.Test.YtdfjkcdmbbmipaaYE
namespace Go.Proofs.Ytdfjkcdmbbmipaa
open Go.RowKit Go.Maps
attribute [local go_sem] errV_0

section
variable {w : World} {T : Nat → Nat} {p n : Nat} {D D' : ADisk}
theorem create_to (z : ByteArray) (E : createD D z = (D', 0)) (h : DiskAt w T p D) (hf : Fine n D) (hn : n ≤ 300000) (hz : z.size ≤ 1000000) : Calls Try.prog 14 #[.pointer (some ⟨p, 0, none⟩), .string z] w fun e w' => e = .returned .nilIface ∧ ∃ T', DiskAt w' T' p D' ∧ Step w T w' T' := by
  have := create_any h hf (by omega) z hz
  rw [E] at this; exact this
theorem write_to (z t : ByteArray) (E : writeD D z t = (D', 0)) (h : DiskAt w T p D) (hf : Fine n D) (hn : n ≤ 300000) (hz : z.size ≤ 1000000) (ht : t.size ≤ 1000) : Calls Try.prog 16 #[.pointer (some ⟨p, 0, none⟩), .string z, .string t] w fun e w' => e = .returned .nilIface ∧ ∃ T', DiskAt w' T' p D' ∧ Step w T w' T' := by
  have := write_any h hf (by omega) z t hz ht
  rw [E] at this; exact this
theorem sync_to (z : ByteArray) (E : syncD D z = (D', 0)) (h : DiskAt w T p D) (hf : Fine n D) (hn : n ≤ 300000) (hz : z.size ≤ 1000000) : Calls Try.prog 17 #[.pointer (some ⟨p, 0, none⟩), .string z] w fun e w' => e = .returned .nilIface ∧ ∃ T', DiskAt w' T' p D' ∧ Step w T w' T' := by
  have := sync_any h hf (by omega) z hz
  rw [E] at this; exact this
theorem syncdir_to (E : syncdirD D = (D', 0)) (h : DiskAt w T p D) (hf : Fine n D) (hn : n ≤ 300000) : Calls Try.prog 15 #[.pointer (some ⟨p, 0, none⟩)] w fun e w' => e = .returned .nilIface ∧ ∃ T', DiskAt w' T' p D' ∧ Step w T w' T' := by
  have := syncdir_any h hf (by omega)
  rw [E] at this; exact this
theorem rename_to (a b : ByteArray) (E : renameD D a b = (D', 0)) (h : DiskAt w T p D) (hf : Fine n D) (hn : n ≤ 300000) (hz : a.size ≤ 1000000) (hz2 : b.size ≤ 1000000) : Calls Try.prog 27 #[.pointer (some ⟨p, 0, none⟩), .string a, .string b] w fun e w' => e = .returned .nilIface ∧ ∃ T', DiskAt w' T' p D' ∧ Step w T w' T' := by
  have := rename_any h hf (by omega) a b hz hz2
  rw [E] at this; exact this
theorem read_to (z : ByteArray) (s : ByteArray) (k : Nat) (E : readR D z = (s, k)) (h : DiskAt w T p D) (hf : Fine n D) (hn : n ≤ 300000) (hz : z.size ≤ 1000000) : Calls Try.prog 19 #[.pointer (some ⟨p, 0, none⟩), .string z] w fun e w' => e = .returned (.tuple #[.string s, errV k]) ∧ Below w.heap.size w w' := by
  have := read_any h hf (by omega) z hz
  rw [E] at this; exact this
end
/-- Numbers that came in: v reads as ks wherever all that lay in W lies as it lay. -/
structure Ints (W : World) (v : Value) (ks : List Int) (ad : Addr) : Prop where
  val : ∃ ao cap, v = .slice ao ks.length cap ∧ (0 < ks.length → ao = some ad)
  cells : ∀ w', Below W.heap.size W w' → ∀ j (h : j < ks.length), w'.cell? (ad.add j) = some (.int .i64 ks[j])
  wf : ∀ k ∈ ks, (Lit.int .i64 k).wf = true
theorem start_zero {W w1 w' : World} {T' : Nat → Nat} (hb : Below W.heap.size W w1) (hs : Step w1 (fun b => if b = W.heap.size then 1 else 0) w' T') : ∀ r, r < W.heap.size → T' r = 0 := by
  intro r hr
  rw [hs.old r (Nat.lt_of_lt_of_le hr hb.size)]
  simp; omega
theorem crash_in {W w : World} {T : Nat → Nat} {p n : Nat} {D : ADisk} {v : Value} {ks : List Int} {ad : Addr} (h : DiskAt w T p D) (hf : Fine n D) (hn : n ≤ 300000) (hb : Below W.heap.size W w) (hz : ∀ r, r < W.heap.size → T r = 0) (hi : Ints W v ks ad) (hl : ks.length ≤ 1000000) (m : Int) (hw : (Lit.int .i64 m).wf = true) :
    Calls Try.prog 18 #[.pointer (some ⟨p, 0, none⟩), .int .i64 m, v] w fun e w' => e = .returned (.tuple #[]) ∧ ∃ T', DiskAt w' T' p (crashD D m ks) ∧ Step w T w' T' := by
  obtain ⟨ao, cap, rfl, hao⟩ := hi.val
  exact crash_any h hf hn m hw ks ao ad cap hao (fun w' ho => hi.cells w' (hb.trans (ho.to_below hb.size (fun r hr hne => hne (hz r hr))))) hi.wf hl

set_option maxRecDepth 100000 in
set_option maxHeartbeats 4000000 in
theorem swaps_any (old fresh : ByteArray) (m : Int) (v : Value) (ks : List Int) (ad : Addr) (W : World) (hi : Ints W v ks ad) (hw : (Lit.int .i64 m).wf = true) (h1 : old.size ≤ maxLen) (h2 : fresh.size ≤ maxLen) (h3 : ks.length ≤ maxLen) :
    Calls Try.prog 31 #[.string old, .string fresh, .int .i64 m, v] W fun e w' => e = .returned (.bool true) ∧ Below W.heap.size W w' := by
  have hmw : -9223372036854775808 ≤ m ∧ m ≤ 9223372036854775807 := by
    simpa [Lit.wf, IntKind.min, IntKind.max, IntKind.signed, IntKind.bits] using hw
  obtain ⟨hm1, hm2⟩ := hmw
  unfold maxLen at h1 h2 h3
  obtain ⟨ao, cap, rfl, hao⟩ := hi.val
  have HI := Lib.hid hi
  have HW := Lib.hid hw
  clear hi hw hao
  have AL := alive_any W
  by_cases hlen : old.size ≤ 300 ∧ fresh.size ≤ 300 ∧ ks.length ≤ 20
  · obtain ⟨ho, hf, hk⟩ := hlen
    have d1 : decide ((old.size : Int) > 300) = false := decide_eq_false (by omega)
    have d2 : decide ((fresh.size : Int) > 300) = false := decide_eq_false (by omega)
    have d3 : decide ((ks.length : Int) > 20) = false := decide_eq_false (by omega)
    have d1' : decide ((300 : Int) < (old.size : Int)) = false := decide_eq_false (by omega)
    have d2' : decide ((300 : Int) < (fresh.size : Int)) = false := decide_eq_false (by omega)
    have d3' : decide ((20 : Int) < (ks.length : Int)) = false := decide_eq_false (by omega)
    obtain ⟨D1, D2, D3, D4, D5, D6, D7, D8, S⟩ := swaps_all old fresh ho hf
    have F0 : Fine 0 (freshD 10000) := fresh_fine 10000 (by decide) (by decide)
    have F1 : Fine 2 D1 := by have := create_fine F0 nmA (by decide); rw [S.e1] at this; exact this
    have F2 : Fine 700 D2 := by have := write_fine F1 nmA old; rw [S.e2] at this; exact this.mono (by omega)
    have F3 : Fine 701 D3 := by have := sync_fine F2 nmA; rw [S.e3] at this; exact this
    have F4 : Fine 702 D4 := by have := syncdir_fine F3; rw [S.e4] at this; exact this
    have F5 : Fine 704 D5 := by have := create_fine F4 nmB (by decide); rw [S.e5] at this; exact this
    have F6 : Fine 1500 D6 := by have := write_fine F5 nmB fresh; rw [S.e6] at this; exact this.mono (by omega)
    have F7 : Fine 1501 D7 := by have := sync_fine F6 nmB; rw [S.e7] at this; exact this
    have F8 : Fine 1503 D8 := by have := rename_fine F7 nmB nmA (by decide) (by decide); rw [S.e8] at this; exact this
    have F9 := crash_fine F8 m ks
    have SS := Lib.hid S
    clear S
    go_enter Try.func31, Try.ntmps31
    go_wp2_with fail
    refine AL.mono ?_
    rintro e w0 ⟨rfl, hb0⟩
    go_wp2_with fail
    refine (new_yes 10000 w0 (by decide)).mono ?_
    rintro e w1 ⟨rfl, g1, hb1, hs1⟩
    have ZB := Lib.hid (show Below w0.heap.size w0 w1 from hb1)
    generalize hT : (fun b => if b = w0.heap.size then 1 else 0) = T1 at g1
    have HT := Lib.hid hT
    clear hb1 hs1 hT
    go_wp2_with fail
    refine (create_to nmA SS.out.e1 g1 F0 (by omega) (by decide)).mono ?_
    rintro e w2 ⟨rfl, T2, g2, s2⟩
    go_wp2_with fail
    refine (write_to nmA old SS.out.e2 g2 F1 (by omega) (by decide) (by omega)).mono ?_
    rintro e w3 ⟨rfl, T3, g3, s3⟩
    go_wp2_with fail
    refine (sync_to nmA SS.out.e3 g3 F2 (by omega) (by decide)).mono ?_
    rintro e w4 ⟨rfl, T4, g4, s4⟩
    go_wp2_with fail
    refine (syncdir_to SS.out.e4 g4 F3 (by omega)).mono ?_
    rintro e w5 ⟨rfl, T5, g5, s5⟩
    go_wp2_with fail
    refine (create_to nmB SS.out.e5 g5 F4 (by omega) (by decide)).mono ?_
    rintro e w6 ⟨rfl, T6, g6, s6⟩
    go_wp2_with fail
    refine (write_to nmB fresh SS.out.e6 g6 F5 (by omega) (by decide) (by omega)).mono ?_
    rintro e w7 ⟨rfl, T7, g7, s7⟩
    go_wp2_with fail
    refine (sync_to nmB SS.out.e7 g7 F6 (by omega) (by decide)).mono ?_
    rintro e w8 ⟨rfl, T8, g8, s8⟩
    go_wp2_with fail
    refine (rename_to nmB nmA SS.out.e8 g8 F7 (by omega) (by decide) (by decide)).mono ?_
    rintro e w9 ⟨rfl, T9, g9, s9⟩
    go_wp2_with fail
    refine (read_to nmA fresh 0 SS.out.r8 g9 F8 (by omega) (by decide)).mono ?_
    rintro e w10 ⟨rfl, hb10⟩
    have g10 := g9.below hb10
    have ST := ((((((((s2.trans s3).trans s4).trans s5).trans s6).trans s7).trans s8).trans s9).trans (Step.below hb10))
    rw [← HT.out] at ST
    have hbW : Below W.heap.size W w10 := hb0.trans ((fresh_below ZB.out ST).mono hb0.size)
    have hzT : ∀ r, r < W.heap.size → T9 r = 0 := fun r hr => start_zero ZB.out ST r (Nat.lt_of_lt_of_le hr hb0.size)
    have CR := Lib.hid (crash_in g10 F8 (by omega) hbW hzT HI.out (by omega) m HW.out)
    have HBW := Lib.hid hbW
    have HZT := Lib.hid hzT
    clear s2 s3 s4 s5 s6 s7 s8 s9 ST hbW hzT g1 g2 g3 g4 g5 g6 g7 g8 g9 hb10
    go_wp2_with fail
    refine CR.out.mono ?_
    rintro e w11 ⟨rfl, T11, g11, s11⟩
    have hb11 : Below W.heap.size W w11 := HBW.out.trans (s11.only.to_below HBW.out.size (fun r hr hne => hne (HZT.out r hr)))
    have HB11 := Lib.hid hb11
    clear CR hb11 s11
    have hcase : (2 ≤ m) ∨ (m = 1) ∨ (m ≤ 0) := by omega
    rcases hcase with hc | hc | hc
    · obtain ⟨ra, rb⟩ := SS.out.c2 m ks hc
      go_wp2_with fail
      refine (read_to nmA fresh 0 ra g11 F9 (by omega) (by decide)).mono ?_
      rintro e w12 ⟨rfl, hb12⟩
      have g12 := g11.below hb12
      go_wp2_with fail
      refine (read_to nmB ⟨#[]⟩ 7 rb g12 F9 (by omega) (by decide)).mono ?_
      rintro e w13 ⟨rfl, hb13⟩
      have IS := is_any 7 (by omega) 7 w13
      have hfin : Below W.heap.size W w13 := HB11.out.trans ((hb12.trans (hb13.mono hb12.size)).mono HB11.out.size)
      have HF := Lib.hid hfin
      have RA := Lib.hid ra
      have RB := Lib.hid rb
      clear hfin hb12 hb13 g11 g12 ra rb
      go_wp2_with fail
      refine IS.mono ?_
      rintro e w14 ⟨rfl, rfl⟩
      go_wp2
      go_ret
      exact ⟨rfl, HF.out⟩
    · subst hc
      obtain ⟨ra, rb0⟩ := SS.out.c1 ks
      obtain ⟨x, rb⟩ : ∃ x, readR (crashD D8 1 ks) nmB = (x, 0) := ⟨_, Prod.ext rfl rb0⟩
      go_wp2_with fail
      refine (read_to nmA old 0 ra g11 F9 (by omega) (by decide)).mono ?_
      rintro e w12 ⟨rfl, hb12⟩
      have g12 := g11.below hb12
      go_wp2_with fail
      refine (read_to nmB x 0 rb g12 F9 (by omega) (by decide)).mono ?_
      rintro e w13 ⟨rfl, hb13⟩
      have hfin : Below W.heap.size W w13 := HB11.out.trans ((hb12.trans (hb13.mono hb12.size)).mono HB11.out.size)
      have HF := Lib.hid hfin
      clear hfin hb12 hb13 g11 g12 ra rb rb0
      go_wp2
      go_ret
      exact ⟨rfl, HF.out⟩
    · obtain ⟨ra, rb⟩ := SS.out.c0 m ks hc
      have e7 : errV 7 = .iface 31 (.int .i64 7) := rfl
      go_wp2_with fail
      refine (read_to nmA old 0 ra g11 F9 (by omega) (by decide)).mono ?_
      rintro e w12 ⟨rfl, hb12⟩
      have g12 := g11.below hb12
      go_wp2_with fail
      have RT := read_to nmB ⟨#[]⟩ 7 rb g12 F9 (by omega) (by decide)
      rw [e7] at RT
      refine RT.mono ?_
      rintro e w13 ⟨rfl, hb13⟩
      have hfin : Below W.heap.size W w13 := HB11.out.trans ((hb12.trans (hb13.mono hb12.size)).mono HB11.out.size)
      have HF := Lib.hid hfin
      have q1 : (m == 1) = false := by rw [beq_eq_false_iff_ne]; omega
      clear hfin hb12 hb13 g11 g12 ra rb RT e7
      go_wp2
      go_ret
      exact ⟨rfl, HF.out⟩
  · have hcases : 300 < old.size ∨ (old.size ≤ 300 ∧ 300 < fresh.size) ∨ (old.size ≤ 300 ∧ fresh.size ≤ 300 ∧ 20 < ks.length) := by omega
    clear hlen
    rcases hcases with hc | ⟨hc, hc2⟩ | ⟨hc, hc2, hc3⟩
    · have d1 : decide ((old.size : Int) > 300) = true := decide_eq_true (by omega)
      have d1' : decide ((300 : Int) < (old.size : Int)) = true := decide_eq_true (by omega)
      go_enter Try.func31, Try.ntmps31
      go_wp2_with fail
      refine AL.mono ?_
      rintro e w0 ⟨rfl, hb0⟩
      go_wp2
      go_ret
      exact ⟨rfl, hb0⟩
    · have d1 : decide ((old.size : Int) > 300) = false := decide_eq_false (by omega)
      have d1' : decide ((300 : Int) < (old.size : Int)) = false := decide_eq_false (by omega)
      have d2 : decide ((fresh.size : Int) > 300) = true := decide_eq_true (by omega)
      have d2' : decide ((300 : Int) < (fresh.size : Int)) = true := decide_eq_true (by omega)
      go_enter Try.func31, Try.ntmps31
      go_wp2_with fail
      refine AL.mono ?_
      rintro e w0 ⟨rfl, hb0⟩
      go_wp2
      go_ret
      exact ⟨rfl, hb0⟩
    · have d1 : decide ((old.size : Int) > 300) = false := decide_eq_false (by omega)
      have d1' : decide ((300 : Int) < (old.size : Int)) = false := decide_eq_false (by omega)
      have d2 : decide ((fresh.size : Int) > 300) = false := decide_eq_false (by omega)
      have d2' : decide ((300 : Int) < (fresh.size : Int)) = false := decide_eq_false (by omega)
      have d3 : decide ((ks.length : Int) > 20) = true := decide_eq_true (by omega)
      have d3' : decide ((20 : Int) < (ks.length : Int)) = true := decide_eq_true (by omega)
      go_enter Try.func31, Try.ntmps31
      go_wp2_with fail
      refine AL.mono ?_
      rintro e w0 ⟨rfl, hb0⟩
      go_wp2
      go_ret
      exact ⟨rfl, hb0⟩

set_option maxHeartbeats 1000000 in
theorem swapsLaw (old fresh : ByteArray) (m : Int) (v : Value) (ks : List Int) (ad : Addr) (W : World) (hi : Ints W v ks ad) (hw : (Lit.int .i64 m).wf = true) (h1 : old.size ≤ maxLen) (h2 : fresh.size ≤ maxLen) (h3 : ks.length ≤ maxLen) :
    Calls Try.prog 7 #[.agg #[.string old, .string fresh, .int .i64 m, v]] W fun e w' => e = .returned (.bool true) ∧ Below W.heap.size W w' := by
  have hb : Below W.heap.size W (W.alloc (.cells #[.string old, .string fresh, .int .i64 m, v] 65)) := (Below.refl _ W).alloc (Nat.le_refl _) _
  have C := Lib.hid (swaps_any old fresh m v ks ad (W.alloc (.cells #[.string old, .string fresh, .int .i64 m, v] 65)) ⟨hi.val, fun w' h => hi.cells w' (hb.trans (h.mono hb.size)), hi.wf⟩ hw h1 h2 h3)
  have HB := Lib.hid hb
  obtain ⟨ao, cap, rfl, _⟩ := hi.val
  clear hi hw h1 h2 h3 hb
  go_enter Try.func7, Try.ntmps7
  go_wp2_with fail
  refine C.out.mono ?_
  rintro e w' ⟨rfl, hb2⟩
  have HB2 := Lib.hid (HB.out.trans (hb2.mono HB.out.size))
  clear hb2 C
  go_wp2
  go_ret
  exact ⟨rfl, HB2.out⟩
end Go.Proofs.Ytdfjkcdmbbmipaa
