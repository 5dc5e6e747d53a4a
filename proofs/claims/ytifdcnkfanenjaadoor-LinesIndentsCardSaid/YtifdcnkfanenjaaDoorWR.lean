/- Dedent by definition. -/
import Derived.Test.YtifdcnkfanenjaaDoorWQ
namespace Go.Proofs.YtifdcnkfanenjaaDoor
open Go.RowKit Go.Shelf

theorem ext_le (l : List UInt8) (a b : Nat) : ((⟨l.toArray⟩ : ByteArray).extract a b).size ≤ l.length := by
  rw [ByteArray.size_extract]
  have : (⟨l.toArray⟩ : ByteArray).size = l.length := rfl
  omega
set_option maxRecDepth 100000 in
set_option maxHeartbeats 4000000 in
theorem refDedent_any (s p : ByteArray) (hs : s.size ≤ 1000000) (hpz : p.size ≤ 1000000) (w : World) :
    Calls Tryd.prog 21 #[.string s, .string p] w fun e w' => e = .returned (.tuple #[.string ⟨(dd p.data.toList ((linesOf s.data.toList).map sees)).1.toArray⟩, .bool (dd p.data.toList ((linesOf s.data.toList).map sees)).2]) ∧ Below w.heap.size w w' := by
  have hjl : ((linesOf s.data.toList).flatMap Ln.bytes).length ≤ 1000000 := by rw [linesOf_join, ← Lib.size_eq]; exact hs
  obtain ⟨xs, hxs⟩ : ∃ xs, linesOf s.data.toList = xs := ⟨_, rfl⟩
  have hll := linesOf_length s.data.toList
  rw [← Lib.size_eq] at hll
  rw [hxs] at hll hjl ⊢
  have HJL := Lib.hid hjl
  have HXS := Lib.hid hxs
  clear hxs hjl
  have NP := Lib.hid (Lib.size_eq p)
  go_enter Tryd.func21, Tryd.ntmps21
  go_wp2_with fail
  refine (refSplit_any s hs w).mono ?_
  rintro e w2 ⟨v, rfl, hown, a2⟩
  rw [HXS.out] at hown
  obtain ⟨ao, cap, rfl⟩ := rowForm hown
  go_wp2_with fail
  go_loopw [6, 12] (fun o i wr => ∃ (pre post : List Ln), xs = pre ++ post ∧ o = .string ⟨(cutL p.data.toList pre).toArray⟩ ∧ i = .int .i64 (pre.length : Nat) ∧ wr.ownsRow w.heap.size 30 4 (.slice ao xs.length cap) xs.length (cellsOf xs) ∧ Below w.heap.size w wr ∧ ∀ x ∈ pre, Lib.hasPrefix x.text p.data.toList = true)
    (fun _ i _ => xs.length - (intOf i).toNat)
  case atStart => exact ⟨[], xs, rfl, rfl, rfl, hown, a2, fun x hx => by cases hx⟩
  case round =>
    obtain ⟨pre, post, hx, rfl, rfl, hw, hb, hall⟩ := hrel
    cases post with
    | nil =>
      have e : pre.length = xs.length := by rw [hx]; simp
      have HA := Lib.hid (dd_all p.data.toList xs (by rw [hx, List.append_nil]; exact hall))
      have HX := Lib.hid hx
      clear hx hall
      go_wp2
      go_ret2
      refine ⟨?_, hb⟩
      rw [HA.out, HX.out, List.append_nil]
      rfl
    | cons x post =>
      have hlt : pre.length < xs.length := by rw [hx]; simp
      obtain ⟨g, rfl⟩ : ∃ g, ao = some ⟨g, 0, none⟩ := by
        rcases hw.2 with ⟨_, h0⟩ | ⟨g, cap, cur, hv, _⟩
        · omega
        · exact ⟨g, by cases hv; rfl⟩
      obtain ⟨r0, r1, r2, r3⟩ := rowCells hw hx
      have hjn : (cutL p.data.toList pre).length + x.text.length + 1 ≤ 1000001 := by
        have h1 := cutL_len p.data.toList pre
        have h2 := HJL.out
        rw [hx, List.flatMap_append, List.flatMap_cons] at h2
        simp only [List.length_append, Ln.bytes] at h2
        omega
      have hraw := Lib.hasPrefix_raw ⟨x.text.toArray⟩ p
      have hsz : (⟨x.text.toArray⟩ : ByteArray).size = x.text.length := by simp [ByteArray.size]
      rw [hsz] at hraw
      have HRAW := Lib.hid hraw
      clear hraw hsz
      have HX := Lib.hid hx
      have HALL := Lib.hid hall
      clear hx hall
      by_cases h7 : x.text.length < p.size
      · have hno : Lib.hasPrefix x.text p.data.toList = false := by
          have := HRAW.out
          rw [decide_eq_false (by omega), Bool.false_and] at this
          exact this.symm
        have HD := Lib.hid (dd_some p.data.toList xs x (by rw [HX.out]; simp) hno)
        clear hno
        go_wp2
        go_ret2
        refine ⟨?_, hb.alloc hb.size _⟩
        rw [HD.out]
        rfl
      · have hge : p.size ≤ x.text.length := by omega
        cases hq : (((⟨x.text.toArray⟩ : ByteArray).extract 0 p.size).toList == p.toList)
        · have hno : Lib.hasPrefix x.text p.data.toList = false := by
            have := HRAW.out
            rw [hq, Bool.and_false] at this
            exact this.symm
          have HD := Lib.hid (dd_some p.data.toList xs x (by rw [HX.out]; simp) hno)
          clear hno
          go_wp2
          go_ret2
          refine ⟨?_, hb.alloc hb.size _⟩
          rw [HD.out]
          rfl
        · have hyes : Lib.hasPrefix x.text p.data.toList = true := by
            have := HRAW.out
            rw [hq, decide_eq_true hge, Bool.and_self] at this
            exact this.symm
          have hex : (⟨x.text.toArray⟩ : ByteArray).extract p.size x.text.length = ⟨(Lib.trimPrefix x.text p.data.toList).toArray⟩ := by
            rw [extract_eq]
            congr 2
            show (x.text.drop p.size).take _ = _
            unfold Lib.trimPrefix
            rw [hyes, if_pos rfl, ← NP.out]
            exact List.take_of_length_le (by simp)
          have HEX := Lib.hid hex
          have HS := Lib.hid (cutL_snoc p.data.toList pre x)
          have hall2 : ∀ y ∈ pre ++ [x], Lib.hasPrefix y.text p.data.toList = true := by
            intro y hy
            rcases List.mem_append.1 hy with h | h
            · exact HALL.out y h
            · rw [List.mem_singleton.1 h]; exact hyes
          have HALL2 := Lib.hid hall2
          have hsl : ((⟨x.text.toArray⟩ : ByteArray).extract p.size x.text.length).size ≤ x.text.length := ext_le _ _ _
          clear hyes hex hall2
          cases he : x.ended
          · rw [he] at r3
            have hn : cutL p.data.toList (pre ++ [x]) = cutL p.data.toList pre ++ Lib.trimPrefix x.text p.data.toList := by rw [HS.out, he]; simp [endS]
            have HN := Lib.hid hn
            clear hn
            go_wp2
            go_roundw
            case rel =>
              refine ⟨pre ++ [x], post, HX.out.trans (by simp), ?_, go_idx pre x, hw.alloc _, hb.alloc hb.size _, HALL2.out⟩
              rw [HN.out, HEX.out, mkAppend]
            case measure => simp [intOf] <;> omega
          · rw [he] at r3
            have hn : cutL p.data.toList (pre ++ [x]) = cutL p.data.toList pre ++ Lib.trimPrefix x.text p.data.toList ++ [10] := by rw [HS.out, he]; simp [endS]
            have HN := Lib.hid hn
            clear hn
            go_wp2
            go_roundw
            case rel =>
              refine ⟨pre ++ [x], post, HX.out.trans (by simp), ?_, go_idx pre x, hw.alloc _, hb.alloc hb.size _, HALL2.out⟩
              rw [HN.out, HEX.out, mkAppend]
              exact congrArg Value.string (mkAppend _ [10])
            case measure => simp [intOf] <;> omega
end Go.Proofs.YtifdcnkfanenjaaDoor
