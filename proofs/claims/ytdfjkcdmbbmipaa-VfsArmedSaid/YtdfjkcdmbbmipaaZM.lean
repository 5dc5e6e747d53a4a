/- The law VfsArmed. -/
import Derived.Test.YtdfjkcdmbbmipaaZP
import Derived.Test.YtdfjkcdmbbmipaaYK
namespace Go.Proofs.Ytdfjkcdmbbmipaa
open Go.RowKit Go.Maps

theorem do_any {w : World} {T : Nat → Nat} {p n : Nat} {D : ADisk} {t : Int} (hA : DiskAt w T p D) (hf : Fine n D) (hn : n ≤ 200000) (ha : Arm t D) (kind k : Int) (name text : ByteArray) (ao : Option Addr) (l c : Nat)
    (hnm : name.size ≤ 100) (htx : text.size ≤ 200) (hk1 : -9223372036854775808 ≤ k) (hk2 : k ≤ 9223372036854775807) (h8 : kind ≠ 8) (h9 : kind ≠ 9) :
    Calls Try.prog 12 #[.pointer (some ⟨p, 0, none⟩), refE, opV kind k name text ao l c] w (DoR t n p D w T) := by
  by_cases h1 : kind = 1
  · exact do_create hA hf hn ha kind k name text ao l c hnm htx hk1 hk2 h1
  by_cases h2 : kind = 2
  · exact do_write hA hf hn ha kind k name text ao l c hnm htx hk1 hk2 h2
  by_cases h3 : kind = 3
  · exact do_cut hA hf hn ha kind k name text ao l c hnm htx hk1 hk2 h3
  by_cases h4 : kind = 4
  · exact do_sync hA hf hn ha kind k name text ao l c hnm htx hk1 hk2 h4
  by_cases h5 : kind = 5
  · exact do_rename hA hf hn ha kind k name text ao l c hnm htx hk1 hk2 h5
  by_cases h6 : kind = 6
  · exact do_remove hA hf hn ha kind k name text ao l c hnm htx hk1 hk2 h6
  by_cases h7 : kind = 7
  · exact do_syncdir hA hf hn ha kind k name text ao l c hnm htx hk1 hk2 h7
  exact do_read hA hf hn ha kind k name text ao l c hnm htx hk1 hk2 (by simpa using h1) (by simpa using h2) (by simpa using h3) (by simpa using h4) (by simpa using h5) (by simpa using h6) (by simpa using h7) (by simpa using h8) (by simpa using h9)
theorem arm_start (r k : Int) (h0 : 0 ≤ k) (h1 : k ≤ 9223372036854775807) (hf : Fine 0 (freshD r)) : (armD (freshD r) k).2 = 0 ∧ Arm k (armD (freshD r) k).1 ∧ Fine 0 (armD (freshD r) k).1 := by
  unfold armD
  rw [if_neg (by omega)]
  exact ⟨rfl, ⟨rfl, by show k + 0 = k; omega, h0, fun h => by cases h⟩, ⟨hf.u0, hf.u1, h0, h1, hf.r0, hf.r1, hf.dirs, hf.nfiles, hf.nacts, hf.files, hf.changes, hf.names⟩⟩
/-- The disk behind k operations. -/
def ArmAt (t : Int) (w2 : World) (T1 : Nat → Nat) (p k : Nat) (wr : World) : Prop := ∃ D T, DiskAt wr T p D ∧ Fine (402 * k) D ∧ Arm t D ∧ Step w2 T1 wr T
theorem crash_syncs (D : ADisk) (m : Int) (ks : List Int) : (crashD D m ks).gone = false ∧ (syncdirD (crashD D m ks)).2 = 0 := by
  refine ⟨rfl, ?_⟩
  unfold syncdirD
  rw [if_neg (by show ¬ (false = true); decide), if_pos (by unfold canDo; rfl)]

attribute [local go_sem] errV_0
set_option maxRecDepth 100000 in
set_option maxHeartbeats 8000000 in
theorem armedLaw (t : Int) (v : Value) (ops : List OpV) (a : Addr) (W : World) (hs : Script W v ops a) (hw : (Lit.int .i64 t).wf = true) :
    Calls Try.prog 5 #[.int .i64 t, v] W fun e w' => e = .returned (.bool true) ∧ Below W.heap.size W w' := by
  have htw : -9223372036854775808 ≤ t ∧ t ≤ 9223372036854775807 := by
    simpa [Lit.wf, IntKind.min, IntKind.max, IntKind.signed, IntKind.bits] using hw
  obtain ⟨ht1, ht2⟩ := htw
  have HS := Lib.hid hs
  have AL := Lib.hid (alive_any W)
  have LO := Lib.hid (fun W' (hb : Below W.heap.size W W') => long_any v ops a W' (hs.below hb))
  obtain ⟨ao, cap, rfl, hao⟩ := hs.val
  have HA := Lib.hid hao
  have hlm := hs.len
  unfold maxLen at hlm
  clear hs hw hao
  have F0 := Lib.hid (fresh_fine 1073741824 (by decide) (by decide))
  go_enter Try.func5, Try.ntmps5
  go_wp2_with fail
  refine AL.out.mono ?_
  rintro e w0 ⟨rfl, hb0⟩
  go_wp2_with fail
  refine (LO.out w0 hb0).mono ?_
  rintro e w1 ⟨⟨b, rfl, hshort⟩, hb1⟩
  have hb01 : Below W.heap.size W w1 := hb0.trans (hb1.mono hb0.size)
  have HB1 := Lib.hid hb01
  clear hb0 hb1 hb01 AL LO
  cases b
  · have SH := Lib.hid (hshort rfl)
    clear hshort
    by_cases ht0 : t < 0
    · go_wp2_with fail
      go_ret
      exact ⟨rfl, HB1.out⟩
    · obtain ⟨E2, EA, EF⟩ := arm_start 1073741824 t (by omega) ht2 F0.out
      have EEA := Lib.hid EA
      have EEF := Lib.hid EF
      have EE2 := Lib.hid E2
      clear EA EF E2
      go_wp2_with fail
      refine (new_yes 1073741824 w1 (by decide)).mono ?_
      rintro e w2 ⟨rfl, g2, hb2, hs2⟩
      have ZB := Lib.hid (show Below w1.heap.size w1 w2 from hb2)
      generalize hT : (fun b => if b = w1.heap.size then 1 else 0) = T1 at g2
      have HT := Lib.hid hT
      clear hb2 hs2 hT
      have AR := Lib.hid (arm_any g2 t)
      rw [EE2.out] at AR
      clear g2
      go_wp2_with fail
      refine AR.out.mono ?_
      rintro e w3 ⟨rfl, g3, s3⟩
      have A0 : ArmAt t w2 T1 w1.heap.size 0 w3 := ⟨_, T1, g3, EEF.out, EEA.out, s3⟩
      have HA0 := Lib.hid A0
      clear g3 s3 A0 AR EEA EEF EE2
      go_wp2_with fail
      go_loopw [33] (fun i wr => ∃ k : Nat, k ≤ ops.length ∧ i = .int .i64 k ∧ ArmAt t w2 T1 w1.heap.size k wr) (fun i _ => ops.length - (intOf i).toNat)
      case atStart => exact ⟨0, Nat.zero_le _, rfl, HA0.out⟩
      case round =>
        obtain ⟨k, hk, rfl, D, T, hd, hf, ha, hst⟩ := hrel
        have hl61 := SH.out.1
        by_cases hlt : k < ops.length
        · obtain rfl := HA.out (by omega)
          have hbw : Below W.heap.size W wr := by
            rw [← HT.out] at hst
            exact HB1.out.trans ((fresh_below ZB.out hst).mono HB1.out.size)
          obtain ⟨q0, q1, q2, q3, q4⟩ := HS.out.cells wr hbw k hlt
          obtain ⟨⟨⟨ao2, cap2, hkv, _⟩, _, _⟩, hkl, hnl, htl, _, hwn⟩ := HS.out.ok ops[k] (List.getElem_mem hlt)
          have hlta : a.block < wr.heap.size := Nat.lt_of_lt_of_le (HS.out.lt (by omega)) hbw.size
          obtain ⟨htx, hnm, _⟩ := SH.out.2 k hlt
          rw [hkv] at q4
          generalize ops[k] = o at *
          have hkw : -9223372036854775808 ≤ o.n ∧ o.n ≤ 9223372036854775807 := by
            simpa [Lit.wf, IntKind.min, IntKind.max, IntKind.signed, IntKind.bits] using hwn
          obtain ⟨hk1, hk2⟩ := hkw
          have hbx := (Below.refl wr.heap.size wr).alloc (Nat.le_refl _) (.cells #[.int .i64 o.kind, .int .i64 o.n, .string o.name, .string o.text, .slice ao2 o.ks.length cap2] 40)
          have hd2 := hd.below hbx
          have hst2 := hst.trans (Step.below hbx)
          by_cases h8 : o.kind = 8
          · have e8 : (o.kind == 8) = true := by simp [h8]
            have HN : Hid (ArmAt t w2 T1 w1.heap.size (k + 1) _) := ⟨D, T, hd2, hf.mono (by omega), ha, hst2⟩
            clear hd hd2 hst hst2 hbx hbw h8
            go_wp2_with fail
            go_roundw
            case rel => exact ⟨k + 1, hlt, by go_num, HN.out⟩
            case measure => simp [intOf]; omega
          by_cases h9 : o.kind = 9
          · have e8 : (o.kind == 8) = false := by simp [h8]
            have e9 : (o.kind == 9) = true := by simp [h9]
            have HN : Hid (ArmAt t w2 T1 w1.heap.size (k + 1) _) := ⟨D, T, hd2, hf.mono (by omega), ha, hst2⟩
            clear hd hd2 hst hst2 hbx hbw h8 h9
            go_wp2_with fail
            go_roundw
            case rel => exact ⟨k + 1, hlt, by go_num, HN.out⟩
            case measure => simp [intOf]; omega
          have e8 : (o.kind == 8) = false := by simp [h8]
          have e9 : (o.kind == 9) = false := by simp [h9]
          have DN := Lib.hid (down_any hd2)
          have UN := Lib.hid (units_any hd2)
          have DO := Lib.hid (do_any hd2 hf (by omega) ha o.kind o.n o.name o.text ao2 o.ks.length cap2 hnm htx hk1 hk2 h8 h9)
          rw [refE_is] at DO
          unfold opV at DO
          have ST2 := Lib.hid hst2
          have hu0 := ha.sum
          clear hd hd2 hst hst2 hbx hbw h8 h9 hkv ha
          go_wp2_with (first | (go_at_call 22; refine DN.out.mono ?_; rintro e w5 ⟨rfl, rfl⟩) | (go_at_call 23; refine UN.out.mono ?_; rintro e w5 ⟨rfl, rfl⟩))
          refine DO.out.mono ?_
          rintro e w6 ⟨⟨m, b, rfl⟩, T', D', hd', hf', ⟨ha', hstill⟩, hs'⟩
          have HN : Hid (ArmAt t w2 T1 w1.heap.size (k + 1) w6) := ⟨D', T', hd', hf'.mono (by omega), ha', ST2.out.trans hs'⟩
          have DN' := Lib.hid (down_any hd')
          have UN' := Lib.hid (units_any hd')
          have hsum := ha'.sum
          have hlow := ha'.low
          have hdn := ha'.down
          have hun : ¬ t < D'.units := by omega
          have hug : D'.gone = true → D'.units = t := fun h => by have := hdn h; omega
          clear hd' hf' ha' hs' ST2 DN UN DO hdn hsum hlow hu0
          generalize D'.gone = g' at *
          generalize D.gone = g at *
          generalize D'.units = u' at *
          generalize D.units = u at *
          cases g
          all_goals cases g'
          · go_wp2_with (first | (go_at_call 22; refine DN'.out.mono ?_; rintro e w7 ⟨rfl, rfl⟩) | (go_at_call 23; refine UN'.out.mono ?_; rintro e w7 ⟨rfl, rfl⟩))
            go_roundw
            case rel => exact ⟨k + 1, hlt, by go_num, HN.out⟩
            case measure => simp [intOf]; omega
          · obtain rfl := hug rfl
            go_wp2_with (first | (go_at_call 22; refine DN'.out.mono ?_; rintro e w7 ⟨rfl, rfl⟩) | (go_at_call 23; refine UN'.out.mono ?_; rintro e w7 ⟨rfl, rfl⟩))
            go_roundw
            case rel => exact ⟨k + 1, hlt, by go_num, HN.out⟩
            case measure => simp [intOf]; omega
          · obtain rfl := hstill rfl
            go_wp2_with (first | (go_at_call 22; refine DN'.out.mono ?_; rintro e w7 ⟨rfl, rfl⟩) | (go_at_call 23; refine UN'.out.mono ?_; rintro e w7 ⟨rfl, rfl⟩))
            go_roundw
            case rel => exact ⟨k + 1, hlt, by go_num, HN.out⟩
            case measure => simp [intOf]; omega
          · obtain rfl := hstill rfl
            obtain rfl := hug rfl
            go_wp2_with (first | (go_at_call 22; refine DN'.out.mono ?_; rintro e w7 ⟨rfl, rfl⟩) | (go_at_call 23; refine UN'.out.mono ?_; rintro e w7 ⟨rfl, rfl⟩))
            go_roundw
            case rel => exact ⟨k + 1, hlt, by go_num, HN.out⟩
            case measure => simp [intOf]; omega
        · obtain rfl : k = ops.length := by omega
          have HIN : Ints W (.slice none 0 0) [] ⟨0, 0, none⟩ := ⟨⟨none, 0, rfl, fun h => by simp at h⟩, fun _ _ j h => by simp at h, fun k hk => by cases hk⟩
          have hst' := hst
          rw [← HT.out] at hst'
          have hbW : Below W.heap.size W wr := HB1.out.trans ((fresh_below ZB.out hst').mono HB1.out.size)
          have hz : ∀ r, r < W.heap.size → T r = 0 := by
            intro r hr
            have h1 := hst.old r (by have := ZB.out.size; have := HB1.out.size; omega)
            rw [h1, ← HT.out]
            have := HB1.out.size
            simp; omega
          have CR := Lib.hid (crash_in hd hf (by omega) hbW hz HIN (by simp) 0 (by decide))
          have CF := Lib.hid (crash_fine hf 0 [])
          have ST := Lib.hid hst
          obtain ⟨c1, c2⟩ := crash_syncs D 0 []
          have C1 := Lib.hid c1
          have C2 := Lib.hid c2
          clear hd ha hst hst' hbW hz HIN c1 c2 hf
          go_wp2_with fail
          refine CR.out.mono ?_
          rintro e w5 ⟨rfl, T5, hd5, hs5⟩
          have DN := Lib.hid (down_any hd5)
          have SD := Lib.hid (syncdir_any hd5 CF.out (by omega))
          rw [C1.out] at DN
          rw [C2.out] at SD
          have S5 := Lib.hid (ST.out.trans hs5)
          clear hd5 hs5 CR ST CF
          go_wp2_with (first | (go_at_call 22; refine DN.out.mono ?_; rintro e w7 ⟨rfl, rfl⟩))
          refine SD.out.mono ?_
          rintro e w8 ⟨rfl, T8, _, hs8⟩
          have hst8 := S5.out.trans hs8
          rw [← HT.out] at hst8
          have HW := Lib.hid (HB1.out.trans ((fresh_below ZB.out hst8).mono HB1.out.size))
          clear hst8 hs8
          go_wp2_with fail
          go_ret
          exact ⟨rfl, HW.out⟩
  · clear hshort
    go_wp2_with fail
    go_ret
    exact ⟨rfl, HB1.out⟩
set_option maxRecDepth 100000 in
theorem armedCall {H : Type} {enc : TypeId × Value → H} (t : Int) (v : Value) (d : DataW H) (p : List MemPlace) (W : World) {b0 : Nat} (hw : (Lit.int .i64 t).wf = true) (hval : Value.okWide Try.prog W .any b0 22 v) {base : Nat} {sp : Nat → Bool} {held : Bool} (h : DataW.Trod enc Try.prog W base sp held 22 v d p) :
    Calls Try.prog 5 #[.int .i64 t, v] W fun e w' => e = .returned (.bool true) ∧ Below W.heap.size W w' := by
  obtain ⟨ops, a, hs⟩ := script_of hval h
  exact armedLaw t v ops a W hs hw
end Go.Proofs.Ytdfjkcdmbbmipaa
