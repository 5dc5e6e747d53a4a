/- Slices of fields: Much, Copies, Fields. -/
import Derived.Test.YtngngamfceoklaaDoorFN
namespace Go.Proofs.YtngngamfceoklaaDoor
open Go.RowKit Go.Shelf

def minF (fs : List (List UInt8 × List UInt8)) : Nat := (fs.map fun f => min f.1.length 10000 + min f.2.length 10000).sum
theorem minF_snoc (fs : List (List UInt8 × List UInt8)) (f : List UInt8 × List UInt8) : minF (fs ++ [f]) = minF fs + (min f.1.length 10000 + min f.2.length 10000) := by unfold minF; simp
theorem minF_small : ∀ (fs : List (List UInt8 × List UInt8)), minF fs ≤ 6000 → ∀ f ∈ fs, f.1.length ≤ 6000 ∧ f.2.length ≤ 6000
  | [], _, f, hf => by simp at hf
  | a :: r, h, f, hf => by
    have e : minF (a :: r) = (min a.1.length 10000 + min a.2.length 10000) + minF r := rfl
    rw [e] at h
    rcases List.mem_cons.1 hf with rfl | hf
    · omega
    · exact minF_small r (by omega) f hf
structure FldsIn (w : World) (v : Value) (fs : List (List UInt8 × List UInt8)) : Prop where
  flds : Flds w v fs
  nil : ∀ n c, v = .slice none n c → c = 0
  len : fs.length ≤ maxLen
  each : ∀ f ∈ fs, f.1.length ≤ maxLen ∧ f.2.length ≤ maxLen

def MuchR (fs : List (List UInt8 × List UInt8)) (e : Ending) : Prop := ∃ b : Bool, e = .returned (.bool b) ∧ (b = false → fs.length ≤ 61 ∧ (∀ f ∈ fs, f.1.length ≤ 6000 ∧ f.2.length ≤ 6000) ∧ minF fs ≤ 6000)
set_option maxRecDepth 100000 in
set_option maxHeartbeats 4000000 in
theorem much_any (fs : List (List UInt8 × List UInt8)) (v : Value) (w : World) (hs : Flds w v fs) (hm : fs.length ≤ maxLen) (he : ∀ f ∈ fs, f.1.length ≤ maxLen ∧ f.2.length ≤ maxLen) :
    Calls Tryd.prog 20 #[v] w fun e w' => MuchR fs e ∧ Below w.heap.size w w' := by
  obtain ⟨A, cap, rfl, hle, hc⟩ := hs
  have PC := Lib.hid hc
  have EA := Lib.hid he
  clear hc he
  unfold maxLen at hm
  go_enter Tryd.func20, Tryd.ntmps20
  go_wp2_with fail
  go_loopw [3, 8] (fun s i wr => ∃ k : Nat, k ≤ fs.length ∧ k ≤ 61 ∧ i = .int .i64 k ∧ s = .int .i64 (minF (fs.take k) : Nat) ∧ minF (fs.take k) ≤ 6000 ∧ Below w.heap.size w wr) (fun _ i _ => fs.length - (intOf i).toNat)
  case atStart => exact ⟨0, Nat.zero_le _, by decide, rfl, rfl, by simp [minF], Below.refl _ _⟩
  case round =>
    obtain ⟨k, hk, hk61, rfl, rfl, hms, hb⟩ := hrel
    by_cases hlt : k < fs.length
    · obtain ⟨f, hf⟩ : ∃ f, fs[k]? = some f := ⟨_, List.getElem?_eq_getElem hlt⟩
      obtain ⟨b, off, rfl, hbb, c0, c1⟩ := PC.out k f hf
      replace c0 := (hb.cell (p := ⟨b, off + k * 2, none⟩) hbb).trans c0
      replace c1 := (hb.cell (p := ⟨b, off + k * 2 + 1, none⟩) hbb).trans c1
      have T1 : Hid (minF (fs.take (k + 1)) = minF (fs.take k) + (min f.1.length 10000 + min f.2.length 10000)) := by
        show _ = _
        rw [List.take_add_one, hf]; exact minF_snoc _ _
      obtain ⟨l1, l2⟩ := EA.out f (List.mem_of_getElem? hf)
      unfold maxLen at l1 l2
      have y1 := B_size f.1
      have y2 := B_size f.2
      have m1 : ((min f.1.length 10000 : Nat) : Int) = min (f.1.length : Int) 10000 := by omega
      have m2 : ((min f.2.length 10000 : Nat) : Int) = min (f.2.length : Int) 10000 := by omega
      have hba := hb.alloc hb.size (.cells #[.string (B f.1), .string (B f.2)] 73)
      clear hf
      generalize minF (fs.take k) = m at *
      by_cases h60 : 60 < k
      · go_wp2_with fail
        go_ret
        exact ⟨⟨true, rfl, fun h => by cases h⟩, hba⟩
      · by_cases hm4 : 6000 < m + (min f.1.length 10000 + min f.2.length 10000)
        · go_wp2_with fail
          go_ret
          exact ⟨⟨true, rfl, fun h => by cases h⟩, hba⟩
        · go_wp2_with fail
          go_roundw
          case rel => exact ⟨k + 1, hlt, by omega, by go_num, by rw [T1.out, Int.natCast_add, Int.natCast_add, m1, m2], by rw [T1.out]; omega, hba⟩
          case measure => simp [intOf]; omega
    · obtain rfl : k = fs.length := by omega
      rw [List.take_length] at hms
      have SM := Lib.hid (minF_small fs hms)
      clear PC EA
      go_wp2_with fail
      go_ret
      exact ⟨⟨false, rfl, fun _ => ⟨hk61, SM.out, hms⟩⟩, hb⟩
set_option maxRecDepth 100000 in
set_option maxHeartbeats 4000000 in
theorem copies_any (fs : List (List UInt8 × List UInt8)) (v : Value) (w : World) (hs : Flds w v fs) (hnil : ∀ n c, v = .slice none n c → c = 0) (hn : fs.length ≤ 1000) :
    Calls Tryd.prog 21 #[v] w fun e w' => ∃ v', e = .returned v' ∧ Flds w' v' fs ∧ Below w.heap.size w w' := by
  obtain ⟨A, cap, rfl, hle, hc⟩ := hs
  obtain ⟨i0, hi, hz0, hz1, hz2⟩ := info_parts infoFld
  have hoN : (w.alloc (.cells #[] 73)).ownsRow w.heap.size 73 2 (.slice (some ⟨w.heap.size, 0, none⟩) 0 0) 0 [] := World.ownsRow_lit w #[] 0 (Nat.le_refl _) (by decide) rfl
  have hba := (Below.refl w.heap.size w).alloc (Nat.le_refl _) (.cells #[] 73)
  cases A with
  | none =>
    have he : fs = [] := by
      cases fs with
      | nil => rfl
      | cons a r => obtain ⟨b, off, e, _⟩ := hc 0 a rfl; cases e
    have hc0 := hnil _ _ rfl
    subst hc0
    subst he
    simp only [List.length_nil]
    go_enter Tryd.func21, Tryd.ntmps21
    go_wp2_with (at_builtin; refine wpList_append_own_none rfl _ _ 40 rfl w.heap.size 73 i0 2 Tryd.underlying40 hi _ 0 [] rfl hoN rfl ?_)
    go_ret
    exact ⟨_, rfl, flds_of_own (fs := []) hoN, hba⟩
  | some ad =>
    have HC : Hid (∀ (j : Nat) u, (cellsF fs)[j]? = some u → (w.alloc (.cells #[] 73)).cell? (ad.add j) = some u) := by
      show ∀ _, _
      intro j u hu
      have hj : j < (cellsF fs).length := by
        rcases Nat.lt_or_ge j (cellsF fs).length with q | q
        · exact q
        · rw [List.getElem?_eq_none q] at hu; cases hu
      rw [cellsF_len] at hj
      have hi2 : j / 2 < fs.length := by omega
      obtain ⟨f, hf⟩ : ∃ f, fs[j / 2]? = some f := ⟨_, List.getElem?_eq_getElem hi2⟩
      obtain ⟨b, off, e, hbb, c0, c1⟩ := hc _ f hf
      obtain ⟨a1, a2⟩ := cellsF_at fs _ f hf
      cases e
      rw [WideShapes.add_plain, World.cell?_alloc_old _ _ _ (Nat.ne_of_lt hbb)]
      rcases Nat.mod_two_eq_zero_or_one j with h | h
      · have ej : j = j / 2 * 2 := by omega
        rw [← ej] at a1 c0
        rw [c0, ← hu, a1]
      · have ej : j = j / 2 * 2 + 1 := by omega
        rw [Nat.add_assoc, ← ej] at c1
        rw [← ej] at a2
        rw [c1, ← hu, a2]
    have hone : ∀ u ∈ cellsF fs, u.oneCell' = true := by
      intro u hu
      unfold cellsF at hu
      simp at hu
      obtain ⟨a, b, _, h | h⟩ := hu <;> subst h <;> rfl
    have HL := cellsF_len fs
    have OWN := Lib.hid (fun (w' : World) v' (h : w'.ownsRow w.heap.size 73 2 v' fs.length (cellsF fs)) => flds_of_own (fs := fs) h)
    clear hc
    generalize cellsF fs = cf at *
    go_enter Tryd.func21, Tryd.ntmps21
    go_wp2_with (at_builtin; refine wpList_append_own _ rfl _ _ 40 rfl w.heap.size 73 i0 _ 2 32 Tryd.underlying40 hi hz0 hz1 hz2 rfl (by decide) _ 0 [] rfl hoN ad fs.length cap cf rfl HL HC.out hone ?c3 ?c4 ?c5 ?_)
    case c3 => unfold maxLen; omega
    case c4 => omega
    case c5 => simp
    intro v' w3 hown' hgrow _
    have hb3 : Below w.heap.size w w3 := hba.grown hgrow (by simp) (fun j ej => (World.ownsRow.lt hoN j ej).1)
    have F3 := OWN.out w3 v' hown'
    go_wp2_with fail
    go_ret
    exact ⟨_, rfl, F3, hb3⟩
set_option maxRecDepth 100000 in
set_option maxHeartbeats 4000000 in
theorem fields_quiet (fs : List (List UInt8 × List UInt8)) (v v' : Value) (w : World) (h : Flds w v fs) (h' : Flds w v' fs) (hn : fs.length ≤ 1000000) :
    Calls Tryd.prog 25 #[v, v'] w fun e w' => e = .returned (.bool true) ∧ ∃ m, w' = w.drewN m := by
  obtain ⟨A, cap, rfl, hle, hc⟩ := h
  obtain ⟨A', cap', rfl, hle', hc'⟩ := h'
  have PC := Lib.hid hc
  have PC' := Lib.hid hc'
  clear hc hc'
  go_enter Tryd.func25, Tryd.ntmps25
  go_wp2_with fail
  go_loopw [13] (fun i wr => ∃ k : Nat, k ≤ fs.length ∧ i = .int .i64 k ∧ ∃ m, wr = w.drewN m) (fun i _ => fs.length - (intOf i).toNat)
  case atStart => exact ⟨0, Nat.zero_le _, rfl, 0, rfl⟩
  case round =>
    obtain ⟨k, hk, rfl, nd, hwr⟩ := hrel
    by_cases hlt : k < fs.length
    · obtain ⟨f, hf⟩ : ∃ f, fs[k]? = some f := ⟨_, List.getElem?_eq_getElem hlt⟩
      obtain ⟨b, off, rfl, hbb, c0, c1⟩ := PC.out k f hf
      obtain ⟨b', off', rfl, hbb', c0', c1'⟩ := PC'.out k f hf
      replace c0 : wr.cell? ⟨b, off + k * 2, none⟩ = some (.string (B f.1)) := by rw [hwr]; exact c0
      replace c1 : wr.cell? ⟨b, off + k * 2 + 1, none⟩ = some (.string (B f.2)) := by rw [hwr]; exact c1
      replace c0' : wr.cell? ⟨b', off' + k * 2, none⟩ = some (.string (B f.1)) := by rw [hwr]; exact c0'
      replace c1' : wr.cell? ⟨b', off' + k * 2 + 1, none⟩ = some (.string (B f.2)) := by rw [hwr]; exact c1'
      have HW := Lib.hid hwr
      clear hf PC PC' hwr
      generalize B f.1 = X at *
      generalize B f.2 = Y at *
      go_wp2_with (go_quiet (fail))
      go_roundw
      case rel => exact ⟨k + 1, hlt, by go_num, nd + _, by rw [HW.out]; exact World.drewN_drewN _ _ _⟩
      case measure => simp [intOf]; omega
    · obtain rfl : k = fs.length := by omega
      clear PC PC'
      go_wp2_with fail
      go_ret
      exact ⟨rfl, nd, by first | rfl | exact hwr⟩
theorem fields_same (fs : List (List UInt8 × List UInt8)) (v v' : Value) (w : World) (h : Flds w v fs) (h' : Flds w v' fs) (hn : fs.length ≤ 1000000) :
    Calls Tryd.prog 25 #[v, v'] w fun e w' => e = .returned (.bool true) ∧ Below w.heap.size w w' :=
  (fields_quiet fs v v' w h h' hn).mono fun e w' ⟨a, m, b⟩ => ⟨a, by rw [b]; exact drewN_below (Below.refl _ _) m⟩
end Go.Proofs.YtngngamfceoklaaDoor
