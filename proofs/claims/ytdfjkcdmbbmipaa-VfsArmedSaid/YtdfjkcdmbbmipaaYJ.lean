/- The law VfsSynced. -/
import Derived.Test.YtdfjkcdmbbmipaaSYM
namespace Go.Proofs.Ytdfjkcdmbbmipaa
open Go.RowKit Go.Maps
attribute [local go_sem] errV_0

/-- The disk of the law, in the midst of it. -/
structure SyAt (w1 wr : World) (T1 : Nat → Nat) (p k : Nat) (all : ByteArray) (s : Nat) : Prop where
  ex : ∃ (u : Int) (x : FileA) (acts : List ActA) (T : Nat → Nat), DiskAt wr T p (ua u 1099511627776 dirF [] [x] acts) ∧ Sy all.data.toList s x ∧ Fine (10 + 500 * k) (ua u 1099511627776 dirF [] [x] acts) ∧ Step w1 T1 wr T
  size : all.size ≤ 200 * k
theorem SyAt.below {w1 wr w' : World} {T1 : Nat → Nat} {p k : Nat} {all : ByteArray} {s : Nat} (h : SyAt w1 wr T1 p k all s) (hb : Below wr.heap.size wr w') : SyAt w1 w' T1 p k all s := by
  obtain ⟨⟨u, x, acts, T, hd, hs, hf, ht⟩, hz⟩ := h
  exact ⟨⟨u, x, acts, T, hd.below hb, hs, hf, ht.trans (Step.below hb)⟩, hz⟩
theorem SyAt.later {w1 wr : World} {T1 : Nat → Nat} {p k : Nat} {all : ByteArray} {s : Nat} (h : SyAt w1 wr T1 p k all s) : SyAt w1 wr T1 p (k + 1) all s := by
  obtain ⟨⟨u, x, acts, T, hd, hs, hf, ht⟩, hz⟩ := h
  exact ⟨⟨u, x, acts, T, hd, hs, hf.mono (by omega), ht⟩, by omega⟩
theorem SyAt.write {w1 wr w2 : World} {T1 : Nat → Nat} {p k : Nat} {all : ByteArray} {s : Nat} (h : SyAt w1 wr T1 p k all s) (hb : Below wr.heap.size wr w2) (hk : k ≤ 61) (t : ByteArray) (ht : t.size ≤ 200) :
    Calls Try.prog 16 #[.pointer (some ⟨p, 0, none⟩), .string ⟨#[102]⟩, .string t] w2 fun e w' => e = .returned .nilIface ∧ SyAt w1 w' T1 p (k + 1) (all ++ t) s ∧ ∀ r, wr.heap.size ≤ r → r < w2.heap.size → w'.heap[r]? = w2.heap[r]? := by
  obtain ⟨⟨u, x, acts, T, hd0, hs, hf, hst0⟩, hz⟩ := h
  have hd := hd0.below hb
  have hst := hst0.trans (Step.below hb)
  have hal : all.data.toList.length = all.size := (Lib.size_eq all).symm
  obtain ⟨a', E⟩ := sy_write hs u 1099511627776 acts t (by omega)
  refine (write_to nmF t E hd hf (by omega) (by decide) (by omega)).mono ?_
  rintro e w' ⟨rfl, T', hd', hs'⟩
  have hf' := write_fine hf nmF t
  rw [E] at hf'
  have hda : (all ++ t).data.toList = all.data.toList ++ t.data.toList := by rw [ByteArray.data_append, Array.toList_append]
  refine ⟨rfl, ⟨⟨_, _, a', T', hd', ?_, hf'.mono (by omega), hst.trans hs'⟩, ?_⟩, fun r hr hr2 => hs'.only.same r hr2 (fun hn => by have := hd0.low r hn; omega)⟩
  · rw [hda]; exact hs.more nmF t
  · rw [Lib.size_eq, hda, List.length_append, hal, ← Lib.size_eq]; omega
theorem SyAt.sync {w1 wr : World} {T1 : Nat → Nat} {p k : Nat} {all : ByteArray} {s : Nat} (h : SyAt w1 wr T1 p k all s) (hk : k ≤ 61) :
    Calls Try.prog 17 #[.pointer (some ⟨p, 0, none⟩), .string ⟨#[102]⟩] wr fun e w' => e = .returned .nilIface ∧ SyAt w1 w' T1 p (k + 1) all all.size := by
  obtain ⟨⟨u, x, acts, T, hd, hs, hf, hst⟩, hz⟩ := h
  have E := sy_sync u 1099511627776 acts x
  refine (sync_to nmF E hd hf (by omega) (by decide)).mono ?_
  rintro e w' ⟨rfl, T', hd', hs'⟩
  have hf' := sync_fine hf nmF
  rw [E] at hf'
  have := hs.kept (hf.files x (by simp [ua])) (by omega)
  rw [← Lib.size_eq] at this
  exact ⟨rfl, ⟨⟨_, _, _, T', hd', this, hf'.mono (by omega), hst.trans hs'⟩, by omega⟩⟩

/-- Behind the crash. -/
structure SyEnd (w1 wr : World) (T1 : Nat → Nat) (p : Nat) (out : ByteArray) : Prop where
  ex : ∃ (D : ADisk) (T : Nat → Nat), DiskAt wr T p D ∧ Fine 40000 D ∧ Step w1 T1 wr T ∧ readR D nmF = (out, 0) ∧ freeD D = max (1099511627776 - (out.size : Int)) 0
theorem SyAt.crash {w1 wr : World} {T1 : Nat → Nat} {p k : Nat} {all : ByteArray} {s : Nat} (h : SyAt w1 wr T1 p k all s) (hk : k ≤ 61) (keep : Int) (hw : (Lit.int .i64 keep).wf = true) :
    Calls Try.prog 18 #[.pointer (some ⟨p, 0, none⟩), .int .i64 0, .slice (some ⟨wr.heap.size, 0, none⟩) 1 1] (wr.alloc (.cells #[.int .i64 keep] 3)) fun e w' => e = .returned (.tuple #[]) ∧
      SyEnd w1 w' T1 p (all.extract 0 (s + (max 0 (min keep ((all.size : Int) - (s : Int)))).toNat)) := by
  obtain ⟨⟨u, x, acts, T, hd, hs, hf, hst⟩, hz⟩ := h
  have hb : Below wr.heap.size wr (wr.alloc (.cells #[.int .i64 keep] 3)) := (Below.refl _ wr).alloc (Nat.le_refl _) _
  refine (crash_any (hd.below hb) hf (by omega) 0 (by decide) [keep] (some ⟨wr.heap.size, 0, none⟩) ⟨wr.heap.size, 0, none⟩ 1 (fun _ => rfl) (fun w' ho => ints1 keep 3 hd.low ho) (by simpa using hw) (by simp)).mono ?_
  rintro e w' ⟨rfl, T', hd', hs'⟩
  have hf' := crash_fine hf 0 [keep]
  rw [sy_crash] at hd' hf'
  have hc := hs.crashed keep
  have hal : all.data.toList.length = all.size := (Lib.size_eq all).symm
  rw [hal] at hc
  have hout : (⟨(x.kept keep).seen.toArray⟩ : ByteArray) = all.extract 0 (s + (max 0 (min keep ((all.size : Int) - (s : Int)))).toNat) := by
    rw [hc, ← extract_take, Lib.mk_data]
  refine ⟨rfl, ⟨_, T', hd', hf'.mono (by omega), (hst.trans (Step.below hb)).trans hs', by rw [sy_read, hout], ?_⟩⟩
  rw [sy_free, ← hout, Lib.size_eq]

set_option maxRecDepth 100000 in
set_option maxHeartbeats 4000000 in
theorem syncedLaw (v : Value) (ops : List OpV) (a : Addr) (keep : Int) (W : World) (hs : Script W v ops a) (hw : (Lit.int .i64 keep).wf = true) :
    Calls Try.prog 4 #[v, .int .i64 keep] W fun e w' => e = .returned (.bool true) ∧ Below W.heap.size W w' := by
  have hkw : -9223372036854775808 ≤ keep ∧ keep ≤ 9223372036854775807 := by
    simpa [Lit.wf, IntKind.min, IntKind.max, IntKind.signed, IntKind.bits] using hw
  obtain ⟨hk1, hk2⟩ := hkw
  have HW := Lib.hid hw
  have HS := Lib.hid hs
  have AL := Lib.hid (alive_any W)
  have LO := Lib.hid (fun W' (hb : Below W.heap.size W W') => long_any v ops a W' (hs.below hb))
  obtain ⟨ao, cap, rfl, hao⟩ := hs.val
  have HA := Lib.hid hao
  have hlm := hs.len
  unfold maxLen at hlm
  clear hs hw hao
  obtain ⟨E1, E2⟩ := sy_start 1099511627776
  have F0 : Fine 0 (freshD 1099511627776) := fresh_fine 1099511627776 (by decide) (by decide)
  have F1 := create_fine F0 nmF (by decide)
  rw [E1] at F1
  have F2 := syncdir_fine F1
  rw [E2] at F2
  have EE1 := Lib.hid E1
  have EE2 := Lib.hid E2
  clear E1 E2
  go_enter Try.func4, Try.ntmps4
  go_wp2_with fail
  refine AL.out.mono ?_
  rintro e w0 ⟨rfl, hb0⟩
  go_wp2_with fail
  refine (LO.out w0 hb0).mono ?_
  rintro e w1 ⟨⟨b, rfl, hshort⟩, hb1⟩
  have hb01 : Below W.heap.size W w1 := hb0.trans (hb1.mono hb0.size)
  have HB1 := Lib.hid hb01
  clear hb0 hb1 hb01 AL LO
  cases b
  · have SH := Lib.hid (hshort rfl)
    clear hshort
    go_wp2_with fail
    refine (new_yes 1099511627776 w1 (by decide)).mono ?_
    rintro e w2 ⟨rfl, g2, hb2, hs2⟩
    have ZB := Lib.hid (show Below w1.heap.size w1 w2 from hb2)
    generalize hT : (fun b => if b = w1.heap.size then 1 else 0) = T1 at g2
    have HT := Lib.hid hT
    clear hb2 hs2 hT
    go_wp2_with fail
    refine (create_to nmF EE1.out g2 F0 (by omega) (by decide)).mono ?_
    rintro e w3 ⟨rfl, T3, g3, s3⟩
    go_wp2_with fail
    refine (syncdir_to EE2.out g3 F1 (by omega)).mono ?_
    rintro e w4 ⟨rfl, T4, g4, s4⟩
    have A0 : SyAt w2 w4 T1 w1.heap.size 0 ⟨#[]⟩ 0 := ⟨⟨_, newF, _, T4, g4, Sy.new, F2.mono (by omega), s3.trans s4⟩, Nat.le_refl _⟩
    have HA0 := Lib.hid A0
    clear g2 g3 g4 s3 s4 A0
    go_wp2
    go_loopw [7, 8, 35] (fun av sv i wr => ∃ (k : Nat) (all : ByteArray) (s : Nat), k ≤ ops.length ∧ i = .int .i64 k ∧ av = .string all ∧ sv = .int .i64 s ∧ SyAt w2 wr T1 w1.heap.size k all s) (fun _ _ i _ => ops.length - (intOf i).toNat)
    case atStart => exact ⟨0, ⟨#[]⟩, 0, Nat.zero_le _, rfl, rfl, rfl, HA0.out⟩
    case round =>
      obtain ⟨k, all, s, hk, rfl, rfl, rfl, hsy⟩ := hrel
      have hl61 := SH.out.1
      have hasz : all.size ≤ 20000 := by have := hsy.size; omega
      by_cases hlt : k < ops.length
      · obtain rfl := HA.out (by omega)
        have hbw : Below W.heap.size W wr := by
          obtain ⟨⟨u, x, acts, T, hd, hss, hf, hst⟩, hz⟩ := hsy
          rw [← HT.out] at hst
          exact HB1.out.trans ((fresh_below ZB.out hst).mono HB1.out.size)
        obtain ⟨q0, q1, q2, q3, q4⟩ := HS.out.cells wr hbw k hlt
        obtain ⟨⟨⟨ao2, cap2, hkv, _⟩, _, _⟩, hkl, hnl, htl, _, _⟩ := HS.out.ok ops[k] (List.getElem_mem hlt)
        have hlta : a.block < wr.heap.size := Nat.lt_of_lt_of_le (HS.out.lt (by omega)) hbw.size
        have htx := (SH.out.2 k hlt).1
        unfold maxLen at hkl hnl htl
        rw [hkv] at q4
        generalize ops[k] = o at *
        have B2 := Lib.hid (hsy.below ((Below.refl _ wr).alloc (Nat.le_refl _) (.cells #[.int .i64 o.kind, .int .i64 o.n, .string o.name, .string o.text, .slice ao2 o.ks.length cap2] 40)))
        have CW := fun htx2 => Lib.hid (hsy.write ((Below.refl _ wr).alloc (Nat.le_refl _) (.cells #[.int .i64 o.kind, .int .i64 o.n, .string o.name, .string o.text, .slice ao2 o.ks.length cap2] 40)) (by omega) o.text htx2)
        have CW := CW htx
        have NB := Lib.hid (Cells.new wr 40 #[.int .i64 o.kind, .int .i64 o.n, .string o.name, .string o.text, .slice ao2 o.ks.length cap2])
        clear hsy hbw hkv
        by_cases h2 : o.kind = 2
        · have e2 : (o.kind == 2) = true := by rw [h2]; rfl
          clear h2
          go_wp2_with fail
          refine CW.out.mono ?_
          rintro e w5 ⟨rfl, hsy5, hkeep⟩
          have hsz : w5.heap.size = w5.heap.size := rfl
          have bx : Cells w5 wr.heap.size 40 #[.int .i64 o.kind, .int .i64 o.n, .string o.name, .string o.text, .slice ao2 o.ks.length cap2] := (hkeep _ (Nat.le_refl _) NB.out.lt).trans NB.out
          have HN := Lib.hid hsy5
          have b3 := bx.cell 3
          simp at b3
          clear hsy5 hkeep bx CW NB hsz
          go_wp2
          go_roundw
          case rel => exact ⟨k + 1, all ++ o.text, s, by omega, by go_num, rfl, rfl, HN.out⟩
          case measure => simp [intOf]; omega
        · have e2 : (o.kind == 2) = false := by simpa using h2
          clear CW NB
          by_cases h4 : o.kind = 4
          · have e4 : (o.kind == 4) = true := by rw [h4]; rfl
            have C := Lib.hid (B2.out.sync (by omega))
            clear h2 h4
            go_wp2_with fail
            refine C.out.mono ?_
            rintro e w5 ⟨rfl, hsy5⟩
            have HN := Lib.hid hsy5
            clear hsy5 C
            go_wp2
            go_roundw
            case rel => exact ⟨k + 1, all, all.size, by omega, by go_num, rfl, rfl, HN.out⟩
            case measure => simp [intOf]; omega
          · have e4 : (o.kind == 4) = false := by simpa using h4
            clear h2 h4
            go_wp2
            go_roundw
            case rel => exact ⟨k + 1, all, s, by omega, by go_num, rfl, rfl, B2.out.later⟩
            case measure => simp [intOf]; omega
      · obtain rfl : k = ops.length := by omega
        have hsa : s ≤ all.size := by
          obtain ⟨⟨u, x, acts, T, hd, hss, hf, hst⟩, hz⟩ := hsy
          have := hss.le
          rw [← Lib.size_eq] at this
          exact this
        obtain ⟨m, hm⟩ : ∃ m : Nat, max 0 (min keep ((all.size : Int) - (s : Int))) = (m : Int) := ⟨_, (Int.toNat_of_nonneg (by omega)).symm⟩
        have hmle : s + m ≤ all.size := by omega
        have CR := Lib.hid (hsy.crash (by omega) keep HW.out)
        clear hsy
        go_wp2_with fail
        refine CR.out.mono ?_
        rintro e w5 ⟨rfl, ⟨D, T, hd, hf, hst, hr, hfr⟩⟩
        rw [hm, Int.toNat_natCast] at hr hfr
        have hos : (all.extract 0 (s + m)).size = s + m := by rw [ByteArray.size_extract]; omega
        have hfree : max (1099511627776 - ((all.extract 0 (s + m)).size : Int)) 0 = 1099511627776 - ((s : Int) + (m : Int)) := by rw [hos]; omega
        rw [hfree] at hfr
        rw [← HT.out] at hst
        have hbW : Below W.heap.size W w5 := HB1.out.trans ((fresh_below ZB.out hst).mono HB1.out.size)
        have HBW := Lib.hid hbW
        have hz2 := hf
        clear hst hbW CR
        go_wp2_with fail
        refine (read_to nmF (all.extract 0 (s + m)) 0 hr hd hf (by omega) (by decide)).mono ?_
        rintro e w6 ⟨rfl, hb6⟩
        have hd6 := hd.below hb6
        have HB6 := Lib.hid (HBW.out.trans (hb6.mono HBW.out.size))
        obtain ⟨V6, hV6⟩ := hd6
        have FR0 := free_any hV6 hf (by omega)
        rw [hfr] at FR0
        have FR := Lib.hid FR0
        clear hb6 hd hV6 hz2 hr FR0
        go_wp2_with fail
        refine FR.out.mono ?_
        rintro e w7 ⟨rfl, hb7⟩
        have HB7 := Lib.hid (HB6.out.trans (hb7.mono HB6.out.size))
        clear hb7
        go_wp2
        go_ret
        exact ⟨by simp, HB7.out⟩
  · go_wp2
    go_ret
    exact ⟨rfl, HB1.out⟩
end Go.Proofs.Ytdfjkcdmbbmipaa
